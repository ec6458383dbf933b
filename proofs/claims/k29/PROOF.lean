import PyProof.Rows.All
import Wide.All
import OpenK.AllK
import Wide.FinOn
import PyProof.EqAt
import PyProof.EqKinds
import PyProof.TupleCall
import PyProof.P3In
import PyProof.ZipIter
import PyProof.ListRange
import PyProof.SetRoads
import PyProof.Rows.SetFrom
import PyProof.Rows.SeqMore2
import KE.RegKIsAll
import PyProof.StrWalks
import PyProof.EnumMake
import PyProof.Conv_int
import PyProof.Conv_int_bool
import PyProof.StrBlockI
import PyProof.Draws
import PySem.Challenge.RW_farcuts_k29_first_rings
set_option Elab.async false
set_option linter.all false
set_option maxRecDepth 100000
set_option genSizeOfSpec false
set_option genInjectivity false
/-! THE HAND LAYER, for ints, bools, texts, own classes, LISTS and tuples (index, slices, in, append, pop ..), calls, loops. Paste it whole ahead of your own text; what your proof does not reach may be deleted. -/
namespace L2
open PySem PySem.Spec PyProof.Rows
noncomputable abbrev Key := Sum Int Str
noncomputable def Z06 : Key → Value → Bool
  | .inl k, v => Value.isInt k v
  | .inr x, v => Value.isStrOf x v
noncomputable def Z8l (w : World) : Key → Int
  | .inl k => hashInt k
  | .inr x => hashStr w x
theorem Wa : ∀ {k : Key} {v : Value}, Z06 k v = true → (∃ i t, k = Sum.inl i ∧ v = Value.int i t) ∨ (∃ x t, k = Sum.inr x ∧ v = Value.str x t)
  | .inl i, v, h => by
    obtain ⟨t, e⟩ := Value.isInt_shape (k := i) (v := v) h
    exact .inl ⟨i, t, rfl, e⟩
  | .inr x, v, h => by
    obtain ⟨t, e⟩ := Value.isStrOf_shape (x := x) (v := v) h
    exact .inr ⟨x, t, rfl, e⟩
theorem Z0o (a b : Int) : decide ((Sum.inl a : Key) = Sum.inl b) = (a == b) := by
  by_cases e : a = b
  · subst e; simp
  · have h : ¬ (Sum.inl a : Key) = Sum.inl b := fun q => e (Sum.inl.inj q)
    rw [decide_eq_false h]
    exact (beq_eq_false_iff_ne.mpr e).symm
theorem Zzc (a b : Str) : decide ((Sum.inr a : Key) = Sum.inr b) = decide (a = b) := by
  by_cases e : a = b
  · subst e; simp
  · have h : ¬ (Sum.inr a : Key) = Sum.inr b := fun q => e (Sum.inr.inj q)
    rw [decide_eq_false h, decide_eq_false e]
theorem Zyw (a : Int) (b : Str) : decide ((Sum.inl a : Key) = Sum.inr b) = false := decide_eq_false (fun q => nomatch q)
theorem Z1t (a : Str) (b : Int) : decide ((Sum.inr a : Key) = Sum.inl b) = false := decide_eq_false (fun q => nomatch q)
noncomputable def Zk9 (prog : Program) (w : World) : PySem.KeyKind prog w Key where
  is := Z06
  hash := Z8l w
  inj := fun v a b ha hb => by
    rcases Wa ha with ⟨i, t, rfl, rfl⟩ | ⟨x, t, rfl, rfl⟩
    · rcases Wa hb with ⟨j, u, rfl, e⟩ | ⟨y, u, rfl, e⟩
      · injection e with e1 _; rw [e1]
      · exact nomatch e
    · rcases Wa hb with ⟨j, u, rfl, e⟩ | ⟨y, u, rfl, e⟩
      · exact nomatch e
      · injection e with e1 _; rw [e1]
  byValue := fun k v h => by
    rcases Wa h with ⟨i, t, rfl, rfl⟩ | ⟨x, t, rfl, rfl⟩ <;> rfl
  pyHash := fun hv h => by
    rcases Wa hv with ⟨i, t, rfl, rfl⟩ | ⟨x, t, rfl, rfl⟩
    · exact wpAny_pyHash_int h
    · exact wpAny_pyHash_str h
  eqBool := fun hu hv h => by
    rcases Wa hu with ⟨i, t, rfl, rfl⟩ | ⟨x, t, rfl, rfl⟩
    · rcases Wa hv with ⟨j, u, rfl, rfl⟩ | ⟨y, u, rfl, rfl⟩
      · rw [Z0o] at h; exact wpAny_eqBool_int h
      · rw [Zyw] at h; exact SeqAt.EqAt.int_str i t y u _ _ _ _ h
    · rcases Wa hv with ⟨j, u, rfl, rfl⟩ | ⟨y, u, rfl, rfl⟩
      · rw [Z1t] at h; exact SeqAt.EqAt.str_int x t j u _ _ _ _ h
      · rw [Zzc] at h; exact wpAny_eqBool_str h
  «strs» := fun k x t v h => by
    rcases Wa h with ⟨i, u, rfl, e⟩ | ⟨y, u, rfl, e⟩
    · exact nomatch e
    · injection e with e1 _
      subst e1
      cases v <;> rfl
end L2
namespace L2
open PySem PySem.Spec PyProof.Rows
inductive V where
  | non | bl (b : Bool) | int (i : Int) | str (x : Str) | byt (b : Array UInt8) | flt (b : UInt64) | ref (a : Addr) | ty (n : String)
  deriving DecidableEq
noncomputable def RelV : V → Value → Prop
  | .non, u => u = Value.none
  | .bl b, u => u = Value.bool b
  | .int i, u => ∃ t, u = Value.int i t
  | .str x, u => ∃ t, u = Value.str x t
  | .byt b, u => ∃ t, u = Value.bytes b t
  | .flt b, u => ∃ t, u = Value.float b t
  | .ref a, u => u = Value.ref a
  | .ty n, u => u = Value.type n
noncomputable abbrev Vals : List V → List Value → Prop := Paired RelV
theorem Vals.length {xs : List V} {us : List Value} (r : Vals xs us) : xs.length = us.length := Paired.length r
theorem Vals.get {xs : List V} {us : List Value} {i : Nat} {x : V} (h : Vals xs us) (e : xs[i]? = some x) : ∃ u, us[i]? = some u ∧ RelV x u := by
  induction h generalizing i with
  | nil => exact (Option.some_ne_none _ (e.symm.trans List.getElem?_nil)).elim
  | cons r t ih =>
    cases i with
    | zero => exact ⟨_, rfl, Option.some.inj e ▸ r⟩
    | succ i => exact ih e
theorem Vals.set {x : V} {u : Value} (r : RelV x u) {xs : List V} {us : List Value} (i : Nat) (h : Vals xs us) : Vals (xs.set i x) (us.set i u) := by
  induction h generalizing i with
  | nil => exact .nil
  | cons q t ih =>
    cases i with
    | zero => exact .cons r t
    | succ i => exact .cons q (ih i)
theorem Vals.append {xs ys : List V} {us ws : List Value} (h : Vals xs us) (s : Vals ys ws) : Vals (xs ++ ys) (us ++ ws) := by
  induction h with
  | nil => exact s
  | cons r t ih => exact .cons r ih
theorem Vals.take {xs : List V} {us : List Value} (n : Nat) (h : Vals xs us) : Vals (xs.take n) (us.take n) := by
  induction h generalizing n with
  | nil => rw [List.take_nil, List.take_nil]; exact .nil
  | cons r t ih =>
    cases n with
    | zero => exact .nil
    | succ n => exact .cons r (ih n)
theorem Vals.drop {xs : List V} {us : List Value} (n : Nat) (h : Vals xs us) : Vals (xs.drop n) (us.drop n) := by
  induction h generalizing n with
  | nil => rw [List.drop_nil, List.drop_nil]; exact .nil
  | cons r t ih =>
    cases n with
    | zero => exact .cons r t
    | succ n => exact ih n
noncomputable def RelO : Option V → Option Value → Prop
  | some v, some u => RelV v u
  | none, none => True
  | _, _ => False
noncomputable def KV {κ : Type} : List (κ × V) → List (κ × Value) → Prop := Paired fun (p : κ × V) (q : κ × Value) => p.1 = q.1 ∧ RelV p.2 q.2
noncomputable def kV : Key → V
  | .inl i => .int i
  | .inr x => .str x
inductive HO where
    | lst (xs : List V)
    | tup (xs : List V)
    | dK (kvs : List (Key × V)) | dT (kvs : List (List Key × V))
    | set (S : Int → Bool) (n : Nat)
    | ins (C dx : Addr) (fs : List (Str × V))
    | own (x : Addr)
    | xd (fs : List (Str × V))
    | met (f x : Addr)
    | rng (lo hi : Int)
    | frz (o : Obj) (u : HO)
    | tbl (ps : Array Value)
    | ext (φ : Heap → Prop)
noncomputable abbrev Hp := Addr → Option HO
noncomputable def upd (H : Hp) (a : Addr) (o : HO) : Hp := fun b => if b = a then some o else H b
theorem Z8 {H : Hp} {a : Addr} {o : HO} : upd H a o a = some o := by unfold upd; rw [if_pos rfl]
theorem Zz {H : Hp} {a b : Addr} {o : HO} (h : b ≠ a) : upd H a o b = H b := by unfold upd; rw [if_neg h]
theorem Y6 {H : Hp} {a b : Addr} {o : HO} (h : H a = some o) (h' : H b = none) : a ≠ b := by
  intro e; subst e; rw [h] at h'; cases h'
section
variable (P : Program) (w : World)
noncomputable def ObjOk (H : Hp) (h : Heap) (a : Addr) : HO → Prop
  | .lst xs => xs.length ≤ sizeLine ∧ ∃ (its : List Value) (n : Nat), Vals xs its ∧ h.get? a = some { cls := .type "list", data := .seq its.toArray n }
  | .tup xs => xs.length ≤ sizeLine ∧ ∃ its : List Value, Vals xs its ∧ IsTup h a its.toArray
  | .dK kvs => kvs.length ≤ sizeLine ∧ (a == sysModules) = false ∧ ∃ vs, KV kvs vs ∧ h.DictOf (Zk9 P w) a vs
  | .dT kvs => kvs.length ≤ sizeLine ∧ (a == sysModules) = false ∧ ∃ xs : List (List Key × Addr × Value),
      Paired (fun (p : List Key × V) (q : List Key × Addr × Value) => p.1 = q.1 ∧ H q.2.1 = some (.tup (p.1.map kV)) ∧ RelV p.2 q.2.2) kvs xs ∧
      ∃ o es ep, h.get? a = some o ∧ o.ExactDict ∧ o.data = .dict es ep ∧ es.toList = xs.map (entryOfKey (tupleKind (Zk9 P w))) ∧ (xs.map (·.1)).Nodup
  | .set S n => h.SetOf (intKind P w) a S n
  | .ins C dx fs => H dx = some (.own a) ∧ fs.length ≤ 1000 ∧ dx ≠ a ∧ h.get? a = some (PySem.W.instObj C dx) ∧
      ∃ mA, h.Ns1 dx mA ∧ (∀ f, RelO (fs.lookup f) (mA f)) ∧ PySem.Within mA (fs.map (·.1))
  | .own _ => ∃ o, h.get? a = some o
  | .xd fs => ∃ mA, h.Ns1 a mA ∧ ∀ f, RelO (fs.lookup f) (mA f)
  | .rng lo hi => ∃ t u v, h.get? a = some { cls := .type "range", data := .fields #[.int lo t, .int hi u, .int 1 v] }
  | .frz o u => h.get? a = some o ∧ ObjOk H h a u
  | .tbl ps => h.get? a = some { cls := .none, data := .fields ps }
  | .met f x => h.get? a = some (PySem.W.methodObj (.ref f) (.ref x))
  | .ext φ => φ h ∧ (∃ o, h.get? a = some o) ∧ ∀ h1 h2 : Heap, φ h1 → (∀ o, h1.get? a = some o → h2.get? a = some o) → φ h2
noncomputable def HOk (H : Hp) (h : Heap) : Prop := ∀ a o, H a = some o → ObjOk P w H h a o
end
section
variable {P : Program} {w : World} {H H' : Hp} {h h' : Heap} {a : Addr} {o : HO}
theorem ObjOk.lt (x : ObjOk P w H h a o) : a < h.objs.size := by
  cases o with
  | lst xs => obtain ⟨_, _, _, _, e⟩ := x; exact Heap.lt_size e
  | tup xs => obtain ⟨_, _, _, p⟩ := x; exact p.lt
  | dK kvs => obtain ⟨_, _, _, _, o, _, _, e, _⟩ := x; exact Heap.lt_size e
  | dT kvs => obtain ⟨_, _, _, _, o, _, _, e, _⟩ := x; exact Heap.lt_size e
  | set S n => obtain ⟨o, _, _, _, e, _⟩ := x; exact Heap.lt_size e
  | ins C dx fs => obtain ⟨_, _, _, e, _⟩ := x; exact Heap.lt_size e
  | own y => obtain ⟨_, e⟩ := x; exact Heap.lt_size e
  | xd fs => obtain ⟨_, ⟨_, _, _, e, _⟩, _⟩ := x; exact Heap.lt_size e
  | rng lo hi => obtain ⟨_, _, _, e⟩ := x; exact Heap.lt_size e
  | frz ob u => obtain ⟨e, _⟩ := x; exact Heap.lt_size e
  | tbl ps => exact Heap.lt_size (show h.get? a = some _ from x)
  | met f y => exact Heap.lt_size (show h.get? a = some _ from x)
  | ext φ => obtain ⟨_, ⟨_, e⟩, _⟩ := x; exact Heap.lt_size e
theorem Paired.mapP {α β : Type} {F G : α → β → Prop} {l₁ : List α} {l₂ : List β} (h : Paired F l₁ l₂) (f : ∀ a b, F a b → G a b) : Paired G l₁ l₂ := by
  induction h with
  | nil => exact .nil
  | cons r t ih => exact .cons (f _ _ r) ih
theorem ObjOk.stay (x : ObjOk P w H h a o) (k : ∀ b u, (b = a ∨ H b = some (.own a)) → h.get? b = some u → h'.get? b = some u)
    (ho : ∀ b, H b = some (.own a) → H' b = some (.own a)) (ht : ∀ b xs, H b = some (.tup xs) → H' b = some (.tup xs)) : ObjOk P w H' h' a o := by
  induction o with
  | lst xs => obtain ⟨z, its, n, r, e⟩ := x; exact ⟨z, its, n, r, k _ _ (.inl rfl) e⟩
  | tup xs => obtain ⟨z, its, r, ob, e, c⟩ := x; exact ⟨z, its, r, ob, k _ _ (.inl rfl) e, c⟩
  | dK kvs => obtain ⟨z, y, vs, r, ob, es, ep, e, c⟩ := x; exact ⟨z, y, vs, r, ob, es, ep, k _ _ (.inl rfl) e, c⟩
  | dT kvs =>
    obtain ⟨z, y, xs, r, ob, es, ep, e, c⟩ := x
    exact ⟨z, y, xs, Paired.mapP r fun p q z => ⟨z.1, ht _ _ z.2.1, z.2.2⟩, ob, es, ep, k _ _ (.inl rfl) e, c⟩
  | set S n => obtain ⟨ob, es, ep, t, e, c⟩ := x; exact ⟨ob, es, ep, t, k _ _ (.inl rfl) e, c⟩
  | ins C dx fs =>
    obtain ⟨d, z, ne, e, mA, ⟨od, es, ep, e2, c⟩, r⟩ := x
    exact ⟨ho _ d, z, ne, k _ _ (.inl rfl) e, mA, ⟨od, es, ep, k _ _ (.inr d) e2, c⟩, r⟩
  | own y => obtain ⟨ob, e⟩ := x; exact ⟨ob, k _ _ (.inl rfl) e⟩
  | xd fs => obtain ⟨mA, ⟨od, es, ep, e, c⟩, r⟩ := x; exact ⟨mA, ⟨od, es, ep, k _ _ (.inl rfl) e, c⟩, r⟩
  | rng lo hi => obtain ⟨t, u, v, e⟩ := x; exact ⟨t, u, v, k _ _ (.inl rfl) e⟩
  | frz ob u ih => obtain ⟨e, q⟩ := x; exact ⟨k _ _ (.inl rfl) e, ih q⟩
  | tbl ps =>
    have e : h.get? a = some { cls := .none, data := .fields ps } := x
    show h'.get? a = some { cls := .none, data := .fields ps }
    exact k a _ (.inl rfl) e
  | met f y =>
    have e : h.get? a = some (PySem.W.methodObj (.ref f) (.ref y)) := x
    show h'.get? a = some (PySem.W.methodObj (.ref f) (.ref y))
    exact k a _ (.inl rfl) e
  | ext φ => obtain ⟨p, ⟨o, e⟩, st⟩ := x; exact ⟨st _ _ p fun o q => k _ _ (.inl rfl) q, ⟨o, k _ _ (.inl rfl) e⟩, st⟩
theorem HOk.lt (x : HOk P w H h) (e : H a = some o) : a < h.objs.size := (x a o e).lt
theorem HOk.fresh (x : HOk P w H h) (e : h.objs.size ≤ a) : H a = none := by
  cases q : H a with
  | none => rfl
  | some u => exact absurd (Nat.lt_of_lt_of_le (x.lt q) e) (Nat.lt_irrefl _)
theorem HOk.kept (x : HOk P w H h) (k : ∀ b u, h.get? b = some u → h'.get? b = some u) : HOk P w H h' := fun a o e =>
  (x a o e).stay (fun b u _ q => k b u q) (fun _ q => q) fun _ _ q => q
theorem HOk.laid (x : HOk P w H h) (k : ∀ b u, h.get? b = some u → h'.get? b = some u) (hp : h.objs.size ≤ a) (new : ObjOk P w (upd H a o) h' a o) : HOk P w (upd H a o) h' := fun b u e => by
  have hn := x.fresh hp
  by_cases hb : b = a
  · subst hb; rw [Z8] at e; cases e; exact new
  · rw [Zz hb] at e
    exact (x b u e).stay (fun c v _ q => k c v q) (fun c q => by rw [Zz (Y6 q hn)]; exact q) fun c xs q => by rw [Zz (Y6 q hn)]; exact q
end
noncomputable def Rd (H : Hp) (a : Addr) (u : HO) : Prop := H a = some u ∨ ∃ o, H a = some (.frz o u)
theorem Rd.ok {P : Program} {w : World} {H : Hp} {h : Heap} {a : Addr} {u : HO} (r : Rd H a u) (x : HOk P w H h) : ObjOk P w H h a u := by
  rcases r with r | ⟨o, r⟩
  · exact x a u r
  · obtain ⟨_, q⟩ := x a _ r
    exact q
noncomputable def Mut : Option HO → Prop
  | some (.lst _) => True
  | some (.dK _) => True
  | some (.dT _) => True
  | some (.set _ _) => True
  | some (.ins _ _ _) => True
  | some (.ext _) => True
  | _ => False
section
variable {P : Program} {w : World} {H : Hp} {h h' : Heap} {x e : Addr} {o' : HO}
theorem HOk.write (ok : HOk P w H h) (mu : Mut (H x)) (he : e = x ∨ H e = some (.own x)) (k : ∀ b u, b ≠ e → h.get? b = some u → h'.get? b = some u) (heo : ∃ u, h'.get? e = some u)
    (new : ObjOk P w (upd H x o') h' x o') : HOk P w (upd H x o') h' := fun b u q => by
  have nown : ∀ c y, H c = some (.own y) → c ≠ x := fun c y r z => by subst z; rw [r] at mu; exact mu
  have ntup : ∀ c xs, H c = some (.tup xs) → c ≠ x := fun c xs r z => by subst z; rw [r] at mu; exact mu
  by_cases hb : b = x
  · subst hb; rw [Z8] at q; cases q; exact new
  · rw [Zz hb] at q
    by_cases hbe : b = e
    · have q' : H b = some (.own x) := by
        rcases he with z | z
        · exact absurd (hbe.trans z) hb
        · rw [hbe]; exact z
      rw [q] at q'; cases q'
      obtain ⟨v, hv⟩ := heo
      exact ⟨v, by rw [hbe]; exact hv⟩
    · refine (ok b u q).stay (fun c v hc r => k c v ?_ r) (fun c r => by rw [Zz (nown c b r)]; exact r) fun c xs r => by rw [Zz (ntup c xs r)]; exact r
      rcases hc with rfl | hc
      · exact hbe
      · rintro rfl
        rcases he with z | z
        · exact nown c b hc z
        · rw [hc] at z; cases z; exact hb rfl
end
structure Un (fs ex : List Addr) (H H' : Hp) (h h' : Heap) : Prop where
  keep : ∀ b o, h.get? b = some o → H b = none → b ∉ fs → b ∉ ex → h'.get? b = some o
  slot : ∀ b o, h.get? b = some o → H b = none → b ∈ fs → b ∉ ex → ∃ sl, h'.get? b = some { o with slots := sl }
  free : ∀ b o, h.get? b = some o → H b = none → b ∉ ex → H' b = none
  there : ∀ b o, h.get? b = some o → b ∉ ex → ∃ o', h'.get? b = some o'
  tups : ∀ b xs, H b = some (.tup xs) → H' b = some (.tup xs)
  frzs : ∀ b o u, H b = some (.frz o u) → H' b = some (.frz o u)
  tbls : ∀ b ps, H b = some (.tbl ps) → ∃ more, H' b = some (.tbl (ps ++ more))
section
variable {fs fs' ex ex' : List Addr} {H H1 H2 : Hp} {h h1 h2 h' : Heap} {a x e : Addr} {o : HO}
theorem Un.any (u : Un fs ex H H1 h h1) {b : Addr} {ob : Obj} (q : h.get? b = some ob) (n : H b = none) (hx : b ∉ ex) : ∃ sl, h1.get? b = some { ob with slots := sl } := by
  by_cases hb : b ∈ fs
  · exact u.slot b ob q n hb hx
  · exact ⟨ob.slots, u.keep b ob q n hb hx⟩
theorem Un.kept (k : ∀ b u, h.get? b = some u → h'.get? b = some u) : Un fs ex H H h h' :=
  ⟨fun b ob q _ _ _ => k b ob q, fun b ob q _ _ _ => ⟨ob.slots, k b ob q⟩, fun _ _ _ n _ => n, fun b ob q _ => ⟨ob, k b ob q⟩, fun _ _ q => q, fun _ _ _ q => q, fun _ ps q => ⟨#[], by rw [q]; simp⟩⟩
theorem Un.refl : Un fs ex H H h h := Un.kept fun _ _ q => q
theorem Un.laid (k : ∀ b u, h.get? b = some u → h'.get? b = some u) (hp : h.objs.size ≤ a) (hn : H a = none) : Un fs ex H (upd H a o) h h' where
  keep := fun b u q _ _ _ => k b u q
  slot := fun b u q _ _ _ => ⟨u.slots, k b u q⟩
  free := fun b u q n _ => by rw [Zz (Nat.ne_of_lt (Nat.lt_of_lt_of_le (Heap.lt_size q) hp))]; exact n
  there := fun b u q _ => ⟨u, k b u q⟩
  tups := fun b xs q => by rw [Zz (Y6 q hn)]; exact q
  frzs := fun b u xs q => by rw [Zz (Y6 q hn)]; exact q
  tbls := fun b ps q => ⟨#[], by rw [Zz (Y6 q hn), q]; simp⟩
theorem Un.write (mu : Mut (H x)) (he : e = x ∨ H e = some (.own x)) (k : ∀ b u, b ≠ e → h.get? b = some u → h'.get? b = some u) (heo : ∃ u, h'.get? e = some u) : Un fs ex H (upd H x o) h h' := by
  have hx : ∀ b, H b = none → b ≠ x := fun b n z => by subst z; rw [n] at mu; exact mu
  have hb : ∀ b, H b = none → b ≠ e := fun b n z => by
    subst z
    rcases he with r | r
    · exact hx b n r
    · rw [n] at r; cases r
  have hm : ∀ b u, H b = some u → ¬ Mut (some u) → b ≠ x := fun b u q nm z => by subst z; rw [q] at mu; exact nm mu
  refine ⟨fun b u q n _ _ => k b u (hb b n) q, fun b u q n _ _ => ⟨u.slots, k b u (hb b n) q⟩, fun b u q n _ => by rw [Zz (hx b n)]; exact n, fun b u q _ => ?_,
    fun b xs q => by rw [Zz (hm b _ q fun z => z)]; exact q, fun b u xs q => by rw [Zz (hm b _ q fun z => z)]; exact q, fun b ps q => ⟨#[], by rw [Zz (hm b _ q fun z => z), q]; simp⟩⟩
  by_cases hbe : b = e
  · subst hbe; exact heo
  · exact ⟨u, k b u hbe q⟩
end
noncomputable def trk (h : Heap) (H : Hp) : List Addr := (List.range h.objs.size).filter fun a => (H a).isSome
noncomputable def Zs5 (h : Heap) (H : Hp) : Heap := PySem.W.hideAll h (trk h H)
theorem Zre (h : Heap) (H : Hp) : (Zs5 h H).objs.size = h.objs.size := PySem.W.hideAll_size _ _
theorem Zsn {h : Heap} {H : Hp} {b : Addr} {o : Obj} (e : h.get? b = some o) (n : H b = none) : (Zs5 h H).get? b = some o :=
  PySem.W.hideAll_get _ e fun hm => by
    have q : (H b).isSome = true := (List.mem_filter.mp hm).2
    rw [n] at q; simp at q
theorem Zvj {h : Heap} {H : Hp} {b : Addr} {o : Obj} (e : (Zs5 h H).get? b = some o) : h.get? b = some o ∧ H b = none := by
  have e' : h.get? b = some o := PySem.W.of_hideAll (trk h H) e
  refine ⟨e', ?_⟩
  cases q : H b with
  | none => rfl
  | some x =>
    have hm : b ∈ trk h H := List.mem_filter.mpr ⟨List.mem_range.mpr (Heap.lt_size e'), by simp [q]⟩
    have z : (Zs5 h H).get? b = none := PySem.W.hideAll_none (trk h H) hm
    rw [z] at e; cases e
noncomputable def Zw3 (g h : Heap) (L : Addr) : List (Addr × Obj) := (List.range h.objs.size).filterMap fun a => if a = L ∨ (g.get? a).isSome = true then none else (h.get? a).map fun o => (a, o)
noncomputable def rest (g h : Heap) (L d : Addr) : List (Addr × Obj) := (Zw3 g h L).filter fun p => decide (p.1 ≠ d)
end L2
namespace L2
open PySem PySem.Spec PyProof.Rows
structure Mod (K : PySem.W.Frag) (mg : Str → Option Value) (base : Heap) : Prop where
  kin : K.In base
  glob : base.Ns mainGlobals mg
  blt : ∃ mb, base.Ns builtinsNs mb ∧ ∀ x : Str, x ≠ "__name__" → mb x = bootBuiltins x
  nolimit : base.NoLimit
set_option genInjectivity false in
structure Cx where
  prog : Program
  w : World
  K : PySem.W.Frag
  mg : Str → Option Value
  base : Heap
  A : Around
  N : List Str
  s₀ : Shared
  H₀ : Hp
  env : Env
  outer : List Env
  stack : List Env
  ex : List Addr
  fn : Str → Bool
  calm : Bool
  pn : List (Addr × Obj)
  xe : Value → Shared → Prop
noncomputable def frs (l : List Env) : List Addr := l.filterMap (·.frame)
noncomputable abbrev Cx.fs (X : Cx) : List Addr := frs X.outer
noncomputable def Vis (sc : Scope) (x : Str) : Prop := sc.names.lookup x = some .local ∨ sc.names.lookup x = some .cell ∨ sc.names.lookup x = some .free
noncomputable def Loc (sc : Scope) (x : Str) : Prop := sc.names.lookup x = some .local ∨ sc.names.lookup x = some .cell
noncomputable def Look (env : Env) (h : Heap) (m : Str → Option Value) (x : Str) (u : Value) : Prop :=
  (env.kindOf x = some .local ∧ m x = some u) ∨ ((env.kindOf x = some .cell ∨ env.kindOf x = some .free) ∧ ∃ c, env.cells.lookup x = some c ∧ h.IsCell c (some u))
structure Cx.Ok (X : Cx) : Prop where
  mod : Mod X.K X.mg X.base
  kind : X.env.scope.kind = .function
  glob : X.env.globals = mainGlobals
  blt : X.env.builtins = builtinsNs
  above : X.s₀.heap.objs.size ≤ X.env.locals
  inj : ∀ x y c, X.env.cells.lookup x = some c → X.env.cells.lookup y = some c → x = y
  has : ∀ x, (X.env.kindOf x = some .cell ∨ X.env.kindOf x = some .free) → ∃ c, X.env.cells.lookup x = some c
  cab : ∀ x c, X.fn x = true → X.env.cells.lookup x = some c → X.s₀.heap.objs.size ≤ c
  hd : X.calm = true → X.A.handled = none
  frames : X.A.frames = some X.stack
  stk : X.stack = X.outer ∨ (X.stack = X.env :: X.outer ∧ X.env.frame = some X.env.locals)
  exf : ∀ b ∈ X.ex, b ≠ X.env.locals ∧ ∀ x c, X.env.cells.lookup x = some c → c ≠ b
  bs : ∀ b o, X.base.get? b = some o → X.s₀.heap.get? b = some o ∧ X.H₀ b = none
  bsz : X.base.objs.size ≤ X.s₀.heap.objs.size
  noex : ∀ b o, X.base.get? b = some o → b ∉ X.ex
  exfs : ∀ b ∈ X.ex, b ∉ X.fs
  funs : X.s₀.heap.FunFrames X.base X.outer
  frf : ∀ b ∈ X.fs, X.H₀ b = none
structure Inv (X : Cx) (pins : List (Addr × Obj)) (σ : List (Option V)) (H : Hp) (s : Shared) : Prop where
  ok : X.Ok
  os : s.os = X.s₀.os
  bare : AllBare s.gens
  base : Un X.fs X.ex X.H₀ H X.s₀.heap s.heap
  loc : ∃ m, s.heap.Ns X.env.locals m ∧ ∀ (i : Nat) (x : Str) (v : V), X.N[i]? = some x → σ[i]? = some (some v) → Vis X.env.scope x → ∃ u, RelV v u ∧ Look X.env s.heap m x u
  cell : ∀ x c, X.env.cells.lookup x = some c → ∃ v, s.heap.IsCell c v
  free : H X.env.locals = none
  freeC : ∀ x c, X.env.cells.lookup x = some c → H c = none
  pin : ∀ p ∈ X.pn ++ pins, s.heap.get? p.1 = some p.2 ∧ H p.1 = none ∧ p.1 ≠ X.env.locals ∧ p.1 ∉ X.fs ∧ ∀ v, p.2.data ≠ .cell v
  hok : HOk X.prog X.w H s.heap
  len : σ.length = X.N.length
section
variable {X : Cx} {pins : List (Addr × Obj)} {σ : List (Option V)} {H H' : Hp} {s : Shared} {h' : Heap}
theorem Cx.Ok.nofr (ok : X.Ok) {b : Addr} {o : Obj} (e : X.base.get? b = some o) : b ∉ X.fs := fun hb => by
  have := (ok.funs.mem hb).1
  rw [e] at this; cases this
theorem Inv.bs (I : Inv X pins σ H s) : ∀ b o, X.base.get? b = some o → s.heap.get? b = some o ∧ H b = none := fun b o e =>
  ⟨I.base.keep b o (I.ok.bs b o e).1 (I.ok.bs b o e).2 (I.ok.nofr e) (I.ok.noex b o e), I.base.free b o (I.ok.bs b o e).1 (I.ok.bs b o e).2 (I.ok.noex b o e)⟩
theorem Inv.bk (I : Inv X pins σ H s) : ∀ b o, X.base.get? b = some o → s.heap.get? b = some o := fun b o e => (I.bs b o e).1
theorem Inv.mod (I : Inv X pins σ H s) : Mod X.K X.mg X.base := I.ok.mod
theorem Inv.kIn (I : Inv X pins σ H s) : X.K.In s.heap := I.ok.mod.kin.keeps I.bk
theorem Inv.lt (I : Inv X pins σ H s) : X.env.locals < s.heap.objs.size := let ⟨_, hn, _⟩ := I.loc; hn.lt
theorem Inv.sz (I : Inv X pins σ H s) : X.s₀.heap.objs.size ≤ s.heap.objs.size := Nat.le_trans I.ok.above (Nat.le_of_lt I.lt)
theorem Inv.nofs (I : Inv X pins σ H s) {a : Addr} (h : s.heap.objs.size ≤ a) : a ∉ X.fs := fun hb => by
  obtain ⟨_, o, ho, _⟩ := I.ok.funs.mem hb
  exact absurd (Nat.lt_of_lt_of_le (Heap.lt_size ho) (Nat.le_trans I.sz h)) (Nat.lt_irrefl _)
theorem Inv.cne (I : Inv X pins σ H s) : ∀ x c, X.env.cells.lookup x = some c → c ≠ X.env.locals := fun x c e z => by
  obtain ⟨v, o, ho, hd⟩ := I.cell x c e
  obtain ⟨m, ⟨o', es, ep, ho', hd', _⟩, _⟩ := I.loc
  rw [z, ho'] at ho; cases ho; rw [hd'] at hd; cases hd
theorem Inv.funs (I : Inv X pins σ H s) : s.heap.FunFrames X.base X.outer := by
  have all : ∀ (l : List Env), (∀ b ∈ frs l, b ∈ X.fs) → X.s₀.heap.FunFrames X.base l → s.heap.FunFrames X.base l := by
    intro l
    induction l with
    | nil => intro _ _; trivial
    | cons env r ih =>
      intro hs hl
      obtain ⟨hk, ⟨L, o, hf, hn, ho, hd⟩, hr⟩ := hl
      have hL : L ∈ X.fs := hs L (by unfold frs; rw [List.filterMap_cons, hf]; exact List.mem_cons_self)
      obtain ⟨sl, e⟩ := I.base.slot L o ho (I.ok.frf L hL) hL fun z => I.ok.exfs L z hL
      exact ⟨hk, ⟨L, _, hf, hn, e, hd⟩, ih (fun b hb => hs b (by unfold frs; rw [List.filterMap_cons, hf]; exact List.mem_cons_of_mem _ hb)) hr⟩
  exact all X.outer (fun _ hb => hb) I.ok.funs
theorem Inv.stack (I : Inv X pins σ H s) : s.heap.FunFrames X.base X.stack := by
  rcases I.ok.stk with e | ⟨e, hf⟩
  · rw [e]; exact I.funs
  · rw [e]
    obtain ⟨m, hn, _⟩ := I.loc
    refine .cons (by rw [I.ok.kind]; decide) hf hn ?_ I.funs
    exact Heap.get?_none_of_le (Nat.le_trans I.ok.bsz I.ok.above)
theorem Inv.stkSub (I : Inv X pins σ H s) : ∀ b ∈ frs X.stack, b ∈ X.env.locals :: X.fs := fun b hb => by
  rcases I.ok.stk with e | ⟨e, hf⟩
  · rw [e] at hb; exact List.mem_cons_of_mem _ hb
  · rw [e] at hb
    unfold frs at hb
    rw [List.filterMap_cons, hf] at hb
    exact hb
theorem Inv.stkFree (I : Inv X pins σ H s) : ∀ b ∈ frs X.stack, H b = none := fun b hb => by
  rcases List.mem_cons.mp (I.stkSub b hb) with e | hb
  · rw [e]; exact I.free
  · obtain ⟨_, o, ho, _⟩ := I.ok.funs.mem hb
    exact I.base.free b o ho (I.ok.frf b hb) fun z => I.ok.exfs b z hb
theorem Inv.step {g' : Array GenState} {t' : Nat} {d' : Drawn} {ch : List Addr} (I : Inv X pins σ H s)
    (hch : ∀ b ∈ ch, (b ∈ X.ex ∨ X.s₀.heap.objs.size ≤ b) ∧ b ≠ X.env.locals ∧ (∀ x c, X.env.cells.lookup x = some c → c ≠ b) ∧ ∀ p ∈ X.pn ++ pins, p.1 ≠ b)
    (keep : ∀ b o, b ≠ X.env.locals → b ∉ X.fs → b ∉ ch → s.heap.get? b = some o → H b = none → h'.get? b = some o)
    (slot : ∀ b o, b ≠ X.env.locals → b ∈ X.fs → b ∉ ch → s.heap.get? b = some o → H b = none → ∃ sl, h'.get? b = some { o with slots := sl }) (free : ∀ b o, b ∉ ch → s.heap.get? b = some o → H b = none → H' b = none)
    (there : ∀ b o, b ∉ ch → s.heap.get? b = some o → ∃ o', h'.get? b = some o')
    (tups : ∀ b xs, H b = some (.tup xs) → H' b = some (.tup xs)) (frzs : ∀ b o u, H b = some (.frz o u) → H' b = some (.frz o u)) (tbls : ∀ b ps, H b = some (.tbl ps) → ∃ more, H' b = some (.tbl (ps ++ more)))
    (ns : ∀ m, s.heap.Ns X.env.locals m → h'.Ns X.env.locals m) (hok : HOk X.prog X.w H' h') (hg : AllBare g') :
    Inv X pins σ H' { s with heap := h', gens := g', drawn := d', toks := t' } := by
  have neL : ∀ b o, X.s₀.heap.get? b = some o → b ≠ X.env.locals := fun b o e => Nat.ne_of_lt (Nat.lt_of_lt_of_le (Heap.lt_size e) I.ok.above)
  have neC : ∀ b o, X.s₀.heap.get? b = some o → b ∉ X.ex → b ∉ ch := fun b o e hx hb => by
    rcases (hch b hb).1 with z | z
    · exact hx z
    · exact absurd (Nat.lt_of_lt_of_le (Heap.lt_size e) z) (Nat.lt_irrefl _)
  have cellK : ∀ x c, X.env.cells.lookup x = some c → ∀ v, s.heap.IsCell c v → h'.IsCell c v := fun x c e v ⟨o, ho, hd⟩ => by
    have nch : c ∉ ch := fun z => (hch c z).2.2.1 x c e rfl
    by_cases hc : c ∈ X.fs
    · obtain ⟨sl, q⟩ := slot c o (I.cne x c e) hc nch ho (I.freeC x c e)
      exact ⟨_, q, hd⟩
    · exact ⟨o, keep c o (I.cne x c e) hc nch ho (I.freeC x c e), hd⟩
  refine ⟨I.ok, I.os, hg, ⟨fun b o e n hb hx => ?_, fun b o e n hb hx => ?_, fun b o e n hx => ?_, fun b o e hx => ?_, fun b xs e => tups b xs (I.base.tups b xs e), fun b o xs e => frzs b o xs (I.base.frzs b o xs e), fun b ps e => ?_⟩, ?_, fun x c e => ?_, ?_, fun x c e => ?_, fun p hp => ?_, hok, I.len⟩
  · exact keep b o (neL b o e) hb (neC b o e hx) (I.base.keep b o e n hb hx) (I.base.free b o e n hx)
  · obtain ⟨sl, e1⟩ := I.base.slot b o e n hb hx
    obtain ⟨sl', e2⟩ := slot b _ (neL b o e) hb (neC b o e hx) e1 (I.base.free b o e n hx)
    exact ⟨sl', e2⟩
  · obtain ⟨o', e1⟩ := I.base.there b o e hx
    exact free b o' (neC b o e hx) e1 (I.base.free b o e n hx)
  · obtain ⟨o', e1⟩ := I.base.there b o e hx
    exact there b o' (neC b o e hx) e1
  · obtain ⟨m1, e1⟩ := I.base.tbls b ps e
    obtain ⟨m2, e2⟩ := tbls b _ e1
    exact ⟨m1 ++ m2, by rw [e2, Array.append_assoc]⟩
  · obtain ⟨m, hn, hl⟩ := I.loc
    refine ⟨m, ns m hn, fun i x v e1 e2 e3 => ?_⟩
    obtain ⟨u, r, l⟩ := hl i x v e1 e2 e3
    refine ⟨u, r, ?_⟩
    rcases l with l | ⟨k, c, e, z⟩
    · exact .inl l
    · exact .inr ⟨k, c, e, cellK x c e _ z⟩
  · obtain ⟨v, z⟩ := I.cell x c e
    exact ⟨v, cellK x c e v z⟩
  · obtain ⟨m, ⟨o, _, _, ho, _⟩, _⟩ := I.loc
    exact free _ o (fun z => (hch _ z).2.1 rfl) ho I.free
  · obtain ⟨v, o, ho, hd⟩ := I.cell x c e
    exact free c o (fun z => (hch c z).2.2.1 x c e rfl) ho (I.freeC x c e)
  · obtain ⟨e, n, ne, nf, d⟩ := I.pin p hp
    have nch : p.1 ∉ ch := fun z => (hch p.1 z).2.2.2 p hp rfl
    exact ⟨keep p.1 p.2 ne nf nch e n, free p.1 p.2 nch e n, ne, nf, d⟩
theorem Inv.un {t' : Nat} (I : Inv X pins σ H s) (u : Un X.fs [] H H' s.heap h') (hok : HOk X.prog X.w H' h') : Inv X pins σ H' { s with heap := h', toks := t' } := by
  obtain ⟨m, ⟨o, es, ep, ho, r⟩, _⟩ := id I.loc
  obtain ⟨sl, hL⟩ := u.any ho I.free (by simp)
  exact I.step (g' := s.gens) (d' := s.drawn) (ch := []) (fun _ z => nomatch z) (fun b o _ hb _ e n => u.keep b o e n hb (by simp)) (fun b o _ hb _ e n => u.slot b o e n hb (by simp)) (fun b o _ e n => u.free b o e n (by simp)) (fun b o _ e => u.there b o e (by simp)) u.tups u.frzs u.tbls (fun m' hm => by
    obtain ⟨o', es', ep', ho', r'⟩ := hm
    rw [ho] at ho'; cases ho'
    exact ⟨_, es', ep', hL, r'⟩) hok I.bare
theorem Inv.call {g' : Array GenState} {t' : Nat} {d' : Drawn} {ch : List Addr} (I : Inv X pins σ H s) (u : Un (frs X.stack) ch H H' s.heap h') (hok : HOk X.prog X.w H' h') (hg : AllBare g')
    (hch : ∀ b ∈ ch, (b ∈ X.ex ∨ X.s₀.heap.objs.size ≤ b) ∧ b ≠ X.env.locals ∧ (∀ x c, X.env.cells.lookup x = some c → c ≠ b) ∧ ∀ p ∈ X.pn ++ pins, p.1 ≠ b) :
    Inv X pins σ H' { s with heap := h', gens := g', drawn := d', toks := t' } := by
  obtain ⟨m, ⟨o, es, ep, ho, r⟩, _⟩ := id I.loc
  obtain ⟨sl, hL⟩ := u.any ho I.free fun z => (hch _ z).2.1 rfl
  exact I.step (ch := ch) hch (fun b o hL hb hc e n => u.keep b o e n (fun z => (List.mem_cons.mp (I.stkSub b z)).elim hL hb) hc) (fun b o _ _ hc e n => u.any e n hc) (fun b o hc e n => u.free b o e n hc) (fun b o hc e => u.there b o e hc) u.tups u.frzs u.tbls (fun m' hm => by
    obtain ⟨o', es', ep', ho', r'⟩ := hm
    rw [ho] at ho'; cases ho'
    exact ⟨_, es', ep', hL, r'⟩) hok hg
theorem Inv.turned {t' : Nat} {it : Addr} (I : Inv X pins σ H s) (k : ∀ b o, b ≠ it → s.heap.get? b = some o → h'.get? b = some o) (hn : H it = none) (hL : it ≠ X.env.locals)
    (h1 : it ∈ X.ex ∨ X.s₀.heap.objs.size ≤ it) (h2 : ∀ x c, X.env.cells.lookup x = some c → c ≠ it) (h3 : ∀ p ∈ X.pn ++ pins, p.1 ≠ it) : Inv X pins σ H { s with heap := h', toks := t' } := by
  have nit : ∀ b u, H b = some u → b ≠ it := fun b u e z => by rw [z, hn] at e; cases e
  refine I.step (g' := s.gens) (d' := s.drawn) (ch := [it]) (fun b hb => ?_) (fun b o _ _ hc e _ => k b o (fun z => hc (by simp [z])) e) (fun b o _ _ hc e _ => ⟨o.slots, k b o (fun z => hc (by simp [z])) e⟩) (fun _ _ _ _ n => n)
    (fun b o hc e => ⟨o, k b o (fun z => hc (by simp [z])) e⟩) (fun _ _ e => e) (fun _ _ _ e => e) (fun b ps e => ⟨#[], by rw [e]; simp⟩) (fun m hm => ?_) (fun b u e => ?_) I.bare
  · have e : b = it := by simpa using hb
    subst e
    exact ⟨h1, hL, h2, h3⟩
  · obtain ⟨o, es, ep, ho, r⟩ := hm
    exact ⟨o, es, ep, k _ o (Ne.symm hL) ho, r⟩
  · refine (I.hok b u e).stay (fun c v hc q => k c v ?_ q) (fun _ q => q) fun _ _ q => q
    rcases hc with z | z
    · rw [z]; exact nit b u e
    · exact nit c _ z
theorem Inv.tok (I : Inv X pins σ H s) (t : Nat) : Inv X pins σ H { s with toks := t } := I.un (h' := s.heap) (t' := t) Un.refl I.hok
theorem Inv.kept {t' : Nat} (I : Inv X pins σ H s) (k : ∀ b u, s.heap.get? b = some u → h'.get? b = some u) : Inv X pins σ H { s with heap := h', toks := t' } := I.un (Un.kept k) (I.hok.kept k)
theorem Inv.laid {a : Addr} {o : HO} {t' : Nat} (I : Inv X pins σ H s) (k : ∀ b u, s.heap.get? b = some u → h'.get? b = some u) (hp : s.heap.objs.size ≤ a) (new : ObjOk X.prog X.w (upd H a o) h' a o) :
    Inv X pins σ (upd H a o) { s with heap := h', toks := t' } := I.un (Un.laid k hp (I.hok.fresh hp)) (I.hok.laid k hp new)
theorem Inv.write {x e : Addr} {o : HO} {t' : Nat} (I : Inv X pins σ H s) (mu : Mut (H x)) (he : e = x ∨ H e = some (.own x)) (k : ∀ b u, b ≠ e → s.heap.get? b = some u → h'.get? b = some u) (heo : ∃ u, h'.get? e = some u)
    (new : ObjOk X.prog X.w (upd H x o) h' x o) : Inv X pins σ (upd H x o) { s with heap := h', toks := t' } := I.un (Un.write mu he k heo) (I.hok.write mu he k heo new)
theorem Inv.pins_of {pins' : List (Addr × Obj)} (I : Inv X pins σ H s) (h : ∀ p ∈ pins', s.heap.get? p.1 = some p.2 ∧ H p.1 = none ∧ p.1 ≠ X.env.locals ∧ p.1 ∉ X.fs ∧ ∀ v, p.2.data ≠ .cell v) : Inv X pins' σ H s :=
  ⟨I.ok, I.os, I.bare, I.base, I.loc, I.cell, I.free, I.freeC, fun p hp => (List.mem_append.mp hp).elim (fun z => I.pin p (List.mem_append_left _ z)) (h p), I.hok, I.len⟩
theorem Zmy {N : List Str} (hN : N.Nodup) {i j : Nat} {x : Str} (a : N[i]? = some x) (b : N[j]? = some x) : i = j := by
  obtain ⟨h1, e1⟩ := List.getElem?_eq_some_iff.mp a
  obtain ⟨h2, e2⟩ := List.getElem?_eq_some_iff.mp b
  exact (List.getElem_inj hN).mp (e1.trans e2.symm)
theorem Zkh {M : Model} {A : Around} {E : Value → Shared → Prop} {i : Nat} {x : Str} {v : V} {u : Value} {Q : Unit → Shared → Prop} (I : Inv X pins σ H s) (hN : X.N.Nodup) (hi : X.N[i]? = some x) (hx : Loc X.env.scope x) (r : RelV v u)
    (h : ∀ s', Inv X pins (σ.set i (some v)) H s' → (∃ a, Heap.SameBut a s.heap s'.heap ∧ (a = X.env.locals ∨ X.env.cells.lookup x = some a)) → Q () s') (hf : X.fn x = true ∨ X.env.scope.names.lookup x = some .local := by first | exact .inl rfl | exact .inr rfl | assumption) : wpAny M A (storeName X.env x u) Q E s := by
  obtain ⟨m, hn, hl⟩ := id I.loc
  have hcls : (X.env.scope.kind == .class || (X.env.scope.kind == .module && X.env.locals != X.env.globals)) = false := by rw [I.ok.kind]; rfl
  have hiσ : i < σ.length := by rw [I.len]; exact (List.getElem?_eq_some_iff.mp hi).1
  have cne := I.cne
  have tracked : ∀ {a : Addr} {h' : Heap}, (∃ o, s.heap.get? a = some o ∧ H a = none) → Heap.SameBut a s.heap h' → HOk X.prog X.w H h' := fun {a h'} ha hs b ob e => by
    obtain ⟨_, _, hfree⟩ := ha
    refine (I.hok b ob e).stay (fun c w' hc q => (hs.2 c ?_).trans q) (fun _ q => q) fun _ _ q => q
    rintro rfl
    rcases hc with rfl | hc
    · rw [hfree] at e; cases e
    · rw [hfree] at hc; cases hc
  rcases hx with hk | hk
  · refine wpAny_storeName_local hk hn (fun h' hn' hs => ?_) hcls
    obtain ⟨oL, _, _, hoL, _⟩ := id hn
    refine h _ ⟨I.ok, I.os, I.bare, ⟨fun b o e n hb hx => ?_, fun b o e n hb hx => ?_, I.base.free, fun b o e hx => ?_, I.base.tups, I.base.frzs, I.base.tbls⟩, ⟨_, hn', fun j y v' e1 e2 e3 => ?_⟩, fun y c e => ?_, I.free, I.freeC, fun p hp => ?_, tracked ⟨oL, hoL, I.free⟩ hs, by simpa using I.len⟩ ⟨_, hs, .inl rfl⟩
    · exact (hs.2 b (Nat.ne_of_lt (Nat.lt_of_lt_of_le (Heap.lt_size e) I.ok.above))).trans (I.base.keep b o e n hb hx)
    · obtain ⟨sl, e1⟩ := I.base.slot b o e n hb hx
      exact ⟨sl, (hs.2 b (Nat.ne_of_lt (Nat.lt_of_lt_of_le (Heap.lt_size e) I.ok.above))).trans e1⟩
    · obtain ⟨o', e1⟩ := I.base.there b o e hx
      exact ⟨o', (hs.2 b (Nat.ne_of_lt (Nat.lt_of_lt_of_le (Heap.lt_size e) I.ok.above))).trans e1⟩
    · by_cases hj : j = i
      · subst hj
        rw [hi] at e1; cases e1
        rw [List.getElem?_set_self hiσ] at e2
        cases e2
        exact ⟨u, r, .inl ⟨hk, by simp⟩⟩
      · rw [List.getElem?_set_ne (Ne.symm hj)] at e2
        obtain ⟨u', r', q⟩ := hl j y v' e1 e2 e3
        refine ⟨u', r', ?_⟩
        rcases q with ⟨k, e⟩ | ⟨k, c, e, z⟩
        · refine .inl ⟨k, ?_⟩
          have : y ≠ x := fun e => hj (Zmy hN e1 (e ▸ hi))
          simp [this, e]
        · exact .inr ⟨k, c, e, z.sameBut hs (cne y c e)⟩
    · obtain ⟨w', z⟩ := I.cell y c e
      exact ⟨w', z.sameBut hs (cne y c e)⟩
    · obtain ⟨e, n, ne, nf, d⟩ := I.pin p hp
      exact ⟨(hs.2 p.1 ne).trans e, n, ne, nf, d⟩
  · have hfn : X.fn x = true := by
      rcases hf with z | z
      · exact z
      · rw [z] at hk; cases hk
    obtain ⟨c, hc⟩ := I.ok.has x (.inl hk)
    obtain ⟨w', z⟩ := I.cell x c hc
    refine wpAny_storeName_cell I.ok.kind hk hc z (fun h' hc' hs => ?_)
    obtain ⟨oc, hoc, hocd⟩ := id z
    refine h { s with heap := h' } ⟨I.ok, I.os, I.bare, ⟨fun b o e n hb hx => ?_, fun b o e n hb hx => ?_, I.base.free, fun b o e hx => ?_, I.base.tups, I.base.frzs, I.base.tbls⟩, ⟨m, hn.sameBut hs (Ne.symm (cne x c hc)), fun j y v' e1 e2 e3 => ?_⟩, fun y c' e => ?_, I.free, I.freeC, fun p hp => ?_, tracked ⟨oc, hoc, I.freeC x c hc⟩ hs, by simpa using I.len⟩ ⟨c, hs, .inr hc⟩
    · exact (hs.2 b (Nat.ne_of_lt (Nat.lt_of_lt_of_le (Heap.lt_size e) (I.ok.cab x c hfn hc)))).trans (I.base.keep b o e n hb hx)
    · obtain ⟨sl, e1⟩ := I.base.slot b o e n hb hx
      exact ⟨sl, (hs.2 b (Nat.ne_of_lt (Nat.lt_of_lt_of_le (Heap.lt_size e) (I.ok.cab x c hfn hc)))).trans e1⟩
    · obtain ⟨o', e1⟩ := I.base.there b o e hx
      exact ⟨o', (hs.2 b (Nat.ne_of_lt (Nat.lt_of_lt_of_le (Heap.lt_size e) (I.ok.cab x c hfn hc)))).trans e1⟩
    · by_cases hj : j = i
      · subst hj
        rw [hi] at e1; cases e1
        rw [List.getElem?_set_self hiσ] at e2
        cases e2
        exact ⟨u, r, .inr ⟨.inl hk, c, hc, hc'⟩⟩
      · rw [List.getElem?_set_ne (Ne.symm hj)] at e2
        obtain ⟨u', r', q⟩ := hl j y v' e1 e2 e3
        refine ⟨u', r', ?_⟩
        rcases q with q | ⟨k, c', e, z'⟩
        · exact .inl q
        · refine .inr ⟨k, c', e, z'.sameBut hs ?_⟩
          rintro rfl
          exact hj (Zmy hN e1 (I.ok.inj _ _ _ e hc ▸ hi))
    · by_cases hcc : c' = c
      · subst hcc; exact ⟨_, hc'⟩
      · obtain ⟨w2, z2⟩ := I.cell y c' e
        exact ⟨w2, z2.sameBut hs hcc⟩
    · obtain ⟨e, n, ne, nf, d⟩ := I.pin p hp
      refine ⟨(hs.2 p.1 ?_).trans e, n, ne, nf, d⟩
      intro q
      rw [q, hoc] at e
      have q' : oc = p.2 := Option.some.inj e
      exact d w' (by rw [← q']; exact hocd)
theorem Zmz {M : Model} {A : Around} {E : Value → Shared → Prop} {i : Nat} {x : Str} {v : V} {u : Value} {Q : Unit → Shared → Prop} (I : Inv X pins σ H s) (hN : X.N.Nodup) (hi : X.N[i]? = some x) (hx : Loc X.env.scope x) (r : RelV v u)
    (h : ∀ s', Inv X pins (σ.set i (some v)) H s' → Q () s') (hf : X.fn x = true ∨ X.env.scope.names.lookup x = some .local := by first | exact .inl rfl | exact .inr rfl | assumption) : wpAny M A (storeName X.env x u) Q E s :=
  Zkh I hN hi hx r (fun s' I' _ => h s' I') hf
theorem Inv.call' {s' : Shared} {ch : List Addr} (I : Inv X pins σ H s) (ho : s'.os = s.os) (u : Un (frs X.stack) ch H H' s.heap s'.heap) (hok : HOk X.prog X.w H' s'.heap) (hg : AllBare s'.gens)
    (hch : ∀ b ∈ ch, (b ∈ X.ex ∨ X.s₀.heap.objs.size ≤ b) ∧ b ≠ X.env.locals ∧ (∀ x c, X.env.cells.lookup x = some c → c ≠ b) ∧ ∀ p ∈ X.pn ++ pins, p.1 ≠ b) : Inv X pins σ H' s' := by
  obtain ⟨h', g', d', t', o'⟩ := s'
  have e : o' = s.os := ho
  subst e
  exact I.call (g' := g') (t' := t') (d' := d') u hok hg hch
end
noncomputable abbrev XK := Value → Option Addr → Hp → Prop
noncomputable abbrev St := List (Option V)
noncomputable abbrev VK := V → Hp → Prop
noncomputable abbrev TE := St → Hp → VK → Prop
noncomputable abbrev TT := St → Hp → (Bool → Hp → Prop) → Prop
noncomputable abbrev TA := St → Hp → (List V → Hp → Prop) → Prop
set_option genInjectivity false in
structure Ends where
  nx : St → Hp → Prop
  rt : VK
  bk : St → Hp → Prop := fun _ _ => False
  ct : St → Hp → Prop := fun _ _ => False
noncomputable abbrev TS := Ends → St → Hp → Prop
noncomputable def EP (X : Cx) (pins : List (Addr × Obj)) (σ : St) (Q : VK) (u : Value) (s' : Shared) : Prop := ∃ v H', Inv X pins σ H' s' ∧ RelV v u ∧ Q v H'
noncomputable def TP (X : Cx) (pins : List (Addr × Obj)) (σ : St) (Q : Bool → Hp → Prop) (b : Bool) (s' : Shared) : Prop := ∃ H', Inv X pins σ H' s' ∧ Q b H'
noncomputable def AP (X : Cx) (pins : List (Addr × Obj)) (σ : St) (Q : List V → Hp → Prop) (us : List Value) (s' : Shared) : Prop := ∃ vs H', Inv X pins σ H' s' ∧ Vals vs us ∧ Q vs H'
noncomputable def SP (X : Cx) (pins : List (Addr × Obj)) (D : Ends) (f : Flow) (s' : Shared) : Prop :=
  match f with
  | .next => ∃ σ' H', Inv X pins σ' H' s' ∧ D.nx σ' H'
  | .brk => ∃ σ' H', Inv X pins σ' H' s' ∧ D.bk σ' H'
  | .cont => ∃ σ' H', Inv X pins σ' H' s' ∧ D.ct σ' H'
  | .ret u => ∃ v σ' H', Inv X pins σ' H' s' ∧ RelV v u ∧ D.rt v H'
noncomputable def PE (X : Cx) (e : Expr) (t : TE) : Prop :=
  ∀ (pins : List (Addr × Obj)) (s : Shared) (σ : St) (H : Hp) (Q : VK), Inv X pins σ H s → t σ H Q → wpAny (model X.prog X.w) X.A (eval e X.env) (EP X pins σ Q) X.xe s
noncomputable def PT (X : Cx) (e : Expr) (t : TT) : Prop :=
  ∀ (pins : List (Addr × Obj)) (s : Shared) (σ : St) (H : Hp) (Q : Bool → Hp → Prop), Inv X pins σ H s → t σ H Q → wpAny (model X.prog X.w) X.A (isTrue e X.env (eval e X.env)) (TP X pins σ Q) X.xe s
noncomputable def PW (X : Cx) (e : Expr) (t : TT) : Prop :=
  ∀ (whole : Sem Value) (pins : List (Addr × Obj)) (s : Shared) (σ : St) (H : Hp) (Q : Bool → Hp → Prop), Inv X pins σ H s → t σ H Q → wpAny (model X.prog X.w) X.A (isTrue e X.env whole) (TP X pins σ Q) X.xe s
theorem PW.pt {X : Cx} {e : Expr} {t : TT} (h : PW X e t) : PT X e t := h _
noncomputable def PA (X : Cx) (es : List Expr) (t : TA) : Prop :=
  ∀ (pos : Pos) (pins : List (Addr × Obj)) (s : Shared) (σ : St) (H : Hp) (Q : List V → Hp → Prop), Inv X pins σ H s → t σ H Q → wpAny (model X.prog X.w) X.A (spliced (backTo pos (starEach es X.env))) (AP X pins σ Q) X.xe s
noncomputable def PS (X : Cx) (st : Stmt) (t : TS) : Prop :=
  ∀ (pins : List (Addr × Obj)) (s : Shared) (σ : St) (H : Hp) (D : Ends), Inv X pins σ H s → t D σ H → wpAny (model X.prog X.w) X.A (exec st X.env) (SP X pins D) X.xe s
noncomputable def PSs (X : Cx) (st : List Stmt) (t : TS) : Prop :=
  ∀ (pins : List (Addr × Obj)) (s : Shared) (σ : St) (H : Hp) (D : Ends), Inv X pins σ H s → t D σ H → wpAny (model X.prog X.w) X.A (execs st X.env) (SP X pins D) X.xe s
theorem thn {α : Type} {t : Sem α} {Q Q' : α → Shared → Prop} {M : Model} {A : Around} {E : Value → Shared → Prop} {s : Shared} (h : wpAny M A t Q E s) (hQ : ∀ a s, Q a s → Q' a s) : wpAny M A t Q' E s := wpAny_mono h hQ fun _ _ x => x
end L2
namespace L2
open PySem PySem.Spec PyProof.Rows
section
variable {X : Cx}
noncomputable def Z7c (i : Nat) : TE := fun σ H Q => ∃ v, σ[i]? = some (some v) ∧ Q v H
noncomputable def tC (v : V) : TE := fun _ H Q => Q v H
theorem Z1w {i : Nat} {x : Str} {pos : Pos} (hN : X.N[i]? = some x) (hv : Vis X.env.scope x) (hd : (x == ("__debug__" : Str)) = false := by decide) (hcd : (x == ("__classdict__" : Str)) = false := by decide) : PE X (.Name x pos) (Z7c i) := by
  intro pins s σ H Q I h
  obtain ⟨v, e, h⟩ := h
  obtain ⟨m, hn, hl⟩ := I.loc
  obtain ⟨u, r, l⟩ := hl i x v hN e hv
  have fin : EP X pins σ Q u s := ⟨v, H, I, r, h⟩
  rcases l with ⟨hk, hm⟩ | ⟨hk, c, hc, hcell⟩
  · exact wpAny_Name (wpAny_loadName_local I.ok.kind hk hn hm fin) hd
  · rcases hk with hk | hk
    · exact wpAny_Name (wpAny_loadName_cell I.ok.kind hk hc hcell fin) hd
    · exact wpAny_Name (wpAny_loadName_free I.ok.kind hk hc hcell fin hcd) hd
theorem Z1a {i j pos} : PE X (.Constant (.int i) j pos) (tC (.int i)) := fun _ _ _ H _ I h => wpAny_Constant_int ⟨.int i, H, I.tok _, ⟨_, rfl⟩, h⟩
theorem Z47 {b j pos} : PE X (.Constant (.bool b) j pos) (tC (.bl b)) := fun _ _ _ H _ I h => Constant_bool ⟨.bl b, H, I, rfl, h⟩
theorem Z1g {j pos} : PE X (.Constant .none j pos) (tC .non) := fun _ _ _ H _ I h => Constant_none ⟨.non, H, I, rfl, h⟩
noncomputable def Gl (X : Cx) (x : Str) : Prop := X.env.kindOf x = some .globalImplicit
theorem Zxn {E : Value → Shared → Prop} {pins : List (Addr × Obj)} {s : Shared} {σ : St} {H : Hp} {x : Str} {u : Value} {pos : Pos} {Q : Value → Shared → Prop} (I : Inv X pins σ H s) (hg : Gl X x) (hm : X.mg x = some u) (h : Q u s)
    (hd : (x == ("__debug__" : Str)) = false := by decide) : wpAny (model X.prog X.w) X.A (eval (.Name x pos) X.env) Q E s :=
  Calls.Name_function_global I.ok.kind hg (Calls.loadGlobal_global (by rw [I.ok.glob]; exact I.mod.glob.keeps I.bk) hm h) hd
theorem Zhd {E : Value → Shared → Prop} {pins : List (Addr × Obj)} {s : Shared} {σ : St} {H : Hp} {x : Str} {u : Value} {pos : Pos} {Q : Value → Shared → Prop} (I : Inv X pins σ H s) (hg : Gl X x) (hm : X.mg x = none) (hv : bootBuiltins x = some u) (h : Q u s)
    (hn : x ≠ "__name__" := by decide) (hd : (x == ("__debug__" : Str)) = false := by decide) : wpAny (model X.prog X.w) X.A (eval (.Name x pos) X.env) Q E s := by
  obtain ⟨mb, h1, h2⟩ := I.mod.blt
  exact Calls.Name_function_global I.ok.kind hg (Calls.loadGlobal_builtin (by rw [I.ok.glob]; exact I.mod.glob.keeps I.bk) hm (by rw [I.ok.blt]; exact h1.keeps I.bk) ((h2 x hn).trans hv) h) hd
theorem Zv2 {x : Str} {v : V} {u : Value} {pos : Pos} (hg : Gl X x) (hm : X.mg x = none) (hv : bootBuiltins x = some u) (r : RelV v u) (hn : x ≠ "__name__" := by decide) (hd : (x == ("__debug__" : Str)) = false := by decide) : PE X (.Name x pos) (tC v) :=
  fun _ _ _ H _ I h => Zhd I hg hm hv ⟨v, H, I, r, h⟩ hn hd
noncomputable def t2I (ta tb : TE) (k : Int → Int → Hp → Prop) : St → Hp → Prop := fun σ H => ta σ H fun x H1 => tb σ H1 fun y H2 => ∃ i j, x = .int i ∧ y = .int j ∧ k i j H2
variable {a b : Expr} {ta tb : TE} {pos : Pos}
noncomputable def Zya (p : Int → Int → Bool) (ta tb : TE) : TE := fun σ H Q => t2I ta tb (fun i j H2 => Q (.bl (p i j)) H2) σ H
noncomputable abbrev tLt : TE → TE → TE := Zya fun i j => decide (i < j)
noncomputable abbrev tLe : TE → TE → TE := Zya fun i j => decide (i ≤ j)
noncomputable abbrev tGt : TE → TE → TE := Zya fun i j => decide (j < i)
noncomputable abbrev tGe : TE → TE → TE := Zya fun i j => decide (j ≤ i)
noncomputable abbrev Z9f : TE → TE → TE := Zya fun i j => decide (i = j)
noncomputable abbrev Z9c : TE → TE → TE := Zya fun i j => !decide (i = j)
noncomputable def tB (t : TE) : TT := fun σ H Q => t σ H fun x H1 => ∃ c, x = .bl c ∧ Q c H1
variable {tA tB' : TT} {rest : List Expr}
noncomputable def Z72 (t u : TT) : TT := fun σ H Q => t σ H fun c H1 => if c = true then u σ H1 Q else Q false H1
noncomputable def tOr (t u : TT) : TT := fun σ H Q => t σ H fun c H1 => if c = true then Q true H1 else u σ H1 Q
noncomputable def Z74 (t : TT) : TT := fun σ H Q => t σ H fun c H1 => Q (!c) H1
theorem Zw2 (ha : PT X a tA) : PW X (.BoolOp .And [a] pos) tA := by
  intro wh pins s σ H Q I h
  refine isTrue_and (thn (ha pins s σ H Q I h) fun c s1 e => ?_)
  cases c with
  | true => exact isTrue_and_nil e
  | false => exact e
theorem Zyt (ha : PT X a tA) : PW X (.BoolOp .Or [a] pos) tA := by
  intro wh pins s σ H Q I h
  refine isTrue_or (thn (ha pins s σ H Q I h) fun c s1 e => ?_)
  cases c with
  | false => exact isTrue_or_nil e
  | true => exact e
theorem Zyg (ha : PT X a tA) (hb : PW X (.BoolOp .And (b :: rest) pos) tB') : PW X (.BoolOp .And (a :: b :: rest) pos) (Z72 tA tB') := by
  intro wh pins s σ H Q I h
  refine isTrue_and (thn (ha pins s σ H _ I h) fun c s1 qz9 => ?_)
  obtain ⟨H1, I1, q1⟩ := qz9
  cases c with
  | true => exact hb wh pins s1 σ H1 Q I1 q1
  | false => exact ⟨H1, I1, q1⟩
theorem Z3a (ha : PT X a tA) (hb : PW X (.BoolOp .Or (b :: rest) pos) tB') : PW X (.BoolOp .Or (a :: b :: rest) pos) (tOr tA tB') := by
  intro wh pins s σ H Q I h
  refine isTrue_or (thn (ha pins s σ H _ I h) fun c s1 qz9 => ?_)
  obtain ⟨H1, I1, q1⟩ := qz9
  cases c with
  | true => exact ⟨H1, I1, q1⟩
  | false => exact hb wh pins s1 σ H1 Q I1 q1
theorem Z08 (ha : PT X a tA) : PT X (.UnaryOp .Not a pos) (Z74 tA) := by
  intro pins s σ H Q I h
  exact isTrue_not (ha pins s σ H (fun c H1 => Q (!c) H1) I h)
noncomputable def Z4e (ta tb : TE) : TE := fun σ H Q => ta σ H fun x H1 => ∃ c, x = .bl c ∧ if c = true then tb σ H1 Q else Q (.bl false) H1
noncomputable def Z28 (ta : TE) : TE := fun σ H Q => ta σ H fun x H1 => ∃ c, x = .bl c ∧ Q (.bl (!c)) H1
theorem Zyl {op} {t : TE} (h : PE X a t) : PE X (.BoolOp op [a] pos) t := fun pins s σ H Q I hw => BoolOp_one (h pins s σ H Q I hw)
theorem Z1r (ha : PE X a ta) (hb : PE X (.BoolOp .And (b :: rest) pos) tb) : PE X (.BoolOp .And (a :: b :: rest) pos) (Z4e ta tb) := by
  intro pins s σ H Q I h
  refine BoolOp_and (thn (ha pins s σ H _ I h) fun v s1 qz9 => ?_)
  obtain ⟨x, H1, I1, r1, q1⟩ := qz9
  obtain ⟨c, rfl, q1⟩ := q1
  cases r1
  refine wpAny_truthy_bool ?_
  cases c with
  | true => exact hb pins s1 σ H1 Q I1 q1
  | false => exact ⟨.bl false, H1, I1, rfl, q1⟩
theorem Zy7 (ha : PE X a ta) : PE X (.UnaryOp .Not a pos) (Z28 ta) := by
  intro pins s σ H Q I h
  refine UnaryOp_ (thn (ha pins s σ H _ I h) fun v s1 qz9 => ?_)
  obtain ⟨x, H1, I1, r1, q1⟩ := qz9
  obtain ⟨c, rfl, q1⟩ := q1
  cases r1
  exact not_of (wpAny_truthy_bool ⟨.bl (!c), H1, I1, rfl, q1⟩)
noncomputable def tIf (t : TT) (ta tb : TE) : TE := fun σ H Q => t σ H fun c H1 => if c = true then ta σ H1 Q else tb σ H1 Q
theorem Zs9 {c : Expr} (hc : PT X c tA) (ha : PE X a ta) (hb : PE X b tb) : PE X (.IfExp c a b pos) (tIf tA ta tb) := by
  intro pins s σ H Q I h
  refine wpAny_IfExp (thn (hc pins s σ H _ I h) fun d s1 qz9 => ?_)
  obtain ⟨H1, I1, q1⟩ := qz9
  cases d with
  | true => exact ha pins s1 σ H1 Q I1 q1
  | false => exact hb pins s1 σ H1 Q I1 q1
end
end L2
namespace L2
open PySem PySem.Spec PyProof.Rows
noncomputable def SqL (K : PySem.W.Frag) (H : Hp) (a : Addr) (xs : List V) : Prop :=
  Rd H a (.lst xs) ∨
    ∃ (o : Obj) (its : Array Value) (n : Nat), K.lookup a = some o ∧ o.cls = .type "list" ∧ o.dict = none ∧ o.data = .seq its n ∧ its.size ≤ sizeLine ∧ Vals xs its.toList
noncomputable def SqT (K : PySem.W.Frag) (H : Hp) (a : Addr) (xs : List V) : Prop :=
  Rd H a (.tup xs) ∨
    ∃ (o : Obj) (its : Array Value) (n : Nat), K.lookup a = some o ∧ o.cls = .type "tuple" ∧ o.data = .seq its n ∧ its.size ≤ sizeLine ∧ Vals xs its.toList
noncomputable def Z8f : Value → Option V
  | .none => some .non
  | .bool b => some (.bl b)
  | .int i _ => some (.int i)
  | .str x _ => some (.str x)
  | .bytes b _ => some (.byt b)
  | .float b _ => some (.flt b)
  | .ref a => some (.ref a)
  | .type n => some (.ty n)
  | _ => none
theorem RelV.abs {x : V} {u : Value} (r : RelV x u) : Z8f u = some x := by
  cases x with
  | non => cases r; rfl
  | bl _ => cases r; rfl
  | int _ => obtain ⟨t, rfl⟩ := r; rfl
  | str _ => obtain ⟨t, rfl⟩ := r; rfl
  | byt _ => obtain ⟨t, rfl⟩ := r; rfl
  | flt _ => obtain ⟨t, rfl⟩ := r; rfl
  | ref _ => cases r; rfl
  | ty _ => cases r; rfl
theorem RelV.inj {x y : V} {u : Value} (r : RelV x u) (q : RelV y u) : x = y := Option.some.inj (r.abs.symm.trans q.abs)
theorem Vals.inj {xs ys : List V} {us : List Value} (h : Vals xs us) (k : Vals ys us) : xs = ys := by
  induction h generalizing ys with
  | nil => cases k; rfl
  | cons r t ih =>
    cases k with
    | cons r' t' => rw [r.inj r', ih t']
section
variable {X : Cx} {pins : List (Addr × Obj)} {σ : St} {H : Hp} {s : Shared} {a : Addr} {xs ys : List V}
theorem Inv.list (I : Inv X pins σ H s) (h : SqL X.K H a xs) : ∃ its : List Value, Vals xs its ∧ PlainL s.heap a its.toArray ∧ xs.length ≤ sizeLine := by
  rcases h with h | ⟨o, its, n, hk, hc, hd, hs, hz, r⟩
  · obtain ⟨z, its, n, r, e⟩ := h.ok I.hok
    exact ⟨its, r, ⟨_, n, e, rfl, rfl, rfl⟩, z⟩
  · refine ⟨its.toList, r, ⟨o, n, I.kIn a o hk, hc, hd, by simpa using hs⟩, ?_⟩
    have e := r.length
    simp only [Array.length_toList] at e
    omega
theorem Inv.tuple (I : Inv X pins σ H s) (h : SqT X.K H a xs) : ∃ its : List Value, Vals xs its ∧ IsTup s.heap a its.toArray ∧ xs.length ≤ sizeLine := by
  rcases h with h | ⟨o, its, n, hk, hc, hs, hz, r⟩
  · obtain ⟨z, its, r, p⟩ := h.ok I.hok
    exact ⟨its, r, p, z⟩
  · refine ⟨its.toList, r, ⟨o, I.kIn a o hk, hc, n, by simpa using hs⟩, ?_⟩
    have e := r.length
    simp only [Array.length_toList] at e
    omega
theorem Inv.list_inj (I : Inv X pins σ H s) (h : SqL X.K H a xs) (h' : SqL X.K H a ys) : xs = ys := by
  obtain ⟨its, r, ⟨o, n, e, _, _, d⟩, _⟩ := I.list h
  obtain ⟨its', r', ⟨o', n', e', _, _, d'⟩, _⟩ := I.list h'
  rw [e] at e'; cases e'
  rw [d] at d'
  injection d' with d1 _
  have : its = its' := by simpa using congrArg Array.toList d1
  subst this
  exact r.inj r'
end
noncomputable abbrev Cx.wish (X : Cx) (E : Value → Shared → Prop) : Cx := { X with xe := E }
noncomputable abbrev Cx.nox (X : Cx) : Cx := X.wish fun _ _ => False
theorem Cx.Ok.wish {X : Cx} (ok : X.Ok) (E : Value → Shared → Prop) : (X.wish E).Ok :=
  ⟨ok.mod, ok.kind, ok.glob, ok.blt, ok.above, ok.inj, ok.has, ok.cab, ok.hd, ok.frames, ok.stk, ok.exf, ok.bs, ok.bsz, ok.noex, ok.exfs, ok.funs, ok.frf⟩
theorem Cx.Ok.unwish {X : Cx} {E : Value → Shared → Prop} (ok : (X.wish E).Ok) : X.Ok :=
  ⟨ok.mod, ok.kind, ok.glob, ok.blt, ok.above, ok.inj, ok.has, ok.cab, ok.hd, ok.frames, ok.stk, ok.exf, ok.bs, ok.bsz, ok.noex, ok.exfs, ok.funs, ok.frf⟩
section
variable {X : Cx} {pins : List (Addr × Obj)} {σ : St} {H : Hp} {s : Shared} {E : Value → Shared → Prop}
theorem Inv.wish (I : Inv X pins σ H s) (E : Value → Shared → Prop) : Inv (X.wish E) pins σ H s := ⟨I.ok.wish E, I.os, I.bare, I.base, I.loc, I.cell, I.free, I.freeC, I.pin, I.hok, I.len⟩
theorem Inv.unwish (I : Inv (X.wish E) pins σ H s) : Inv X pins σ H s := ⟨I.ok.unwish, I.os, I.bare, I.base, I.loc, I.cell, I.free, I.freeC, I.pin, I.hok, I.len⟩
theorem SP.unwish {D : Ends} {f : Flow} {s' : Shared} (h : SP (X.wish E) pins D f s') : SP X pins D f s' := by
  cases f with
  | next => obtain ⟨σ', H', I, q⟩ := h; exact ⟨σ', H', I.unwish, q⟩
  | brk => obtain ⟨σ', H', I, q⟩ := h; exact ⟨σ', H', I.unwish, q⟩
  | cont => obtain ⟨σ', H', I, q⟩ := h; exact ⟨σ', H', I.unwish, q⟩
  | ret u => obtain ⟨v, σ', H', I, r, q⟩ := h; exact ⟨v, σ', H', I.unwish, r, q⟩
theorem PSs.nox {st : List Stmt} {t : TS} (h : PSs X.nox st t) : PSs X st t := fun pins s σ H D I hw =>
  wpAny_mono (h pins s σ H D (I.wish _) hw) (fun _ _ q => q.unwish) fun _ _ z => False.elim z
end
section
variable {X : Cx} {st : Stmt} {rest : List Stmt} {t u : TS} {e : Expr} {te : TE} {pos : Pos}
noncomputable def Z5b : TS := fun D σ H => D.nx σ H
noncomputable def Z7r (t u : TS) : TS := fun D σ H => t { D with nx := u D } σ H
theorem Zxe : PSs X [] Z5b := fun _ _ σ H _ I h => wpAny_execs_nil ⟨σ, H, I, h⟩
theorem Zs3 (h1 : PS X st t) (h2 : PSs X rest u) : PSs X (st :: rest) (Z7r t u) := by
  intro pins s σ H D I h
  refine wpAny_execs_cons (thn (h1 pins s σ H { D with nx := u D } I h) fun f s1 q => ?_)
  cases f with
  | next =>
    obtain ⟨σ', H', I', q⟩ := q
    exact h2 pins s1 σ' H' D I' q
  | ret v => exact q
  | brk => exact q
  | cont => exact q
theorem Zwc (h1 : PS X st t) : PSs X [st] t := by
  intro pins s σ H D I h
  refine wpAny_execs_cons (thn (h1 pins s σ H D I h) fun f s1 q => ?_)
  cases f with
  | next => exact wpAny_execs_nil q
  | ret v => exact q
  | brk => exact q
  | cont => exact q
theorem Inv.quiet {pins : List (Addr × Obj)} {σ : St} {H : Hp} {s : Shared} (I : Inv X pins σ H s) : interactive X.env = false := by simp [interactive, I.ok.kind]
noncomputable def Z5g (te : TE) : TS := fun D σ H => te σ H fun _ H1 => D.nx σ H1
theorem Zoz (he : PE X e te) (hs : swapsWith e none pos.line X.env = pure false := by rfl) : PS X (.Expr e pos) (Z5g te) := by
  intro pins s σ H D I h
  refine wpAny_Expr_any (thn (he pins s σ H _ I h) fun v s1 qz9 => ?_) I.quiet hs
  obtain ⟨x, H1, I1, r1, q1⟩ := qz9
  exact ⟨σ, H1, I1, q1⟩
noncomputable def Z53 (te : TE) : TS := fun D σ H => te σ H D.rt
theorem Zp9 (he : PE X e te) : PS X (.Return (some e) pos) (Z53 te) := by
  intro pins s σ H D I h
  refine wpAny_Return_some (thn (he pins s σ H _ I h) fun v s1 qz9 => ?_)
  obtain ⟨x, H1, I1, r1, q1⟩ := qz9
  exact ⟨x, σ, H1, I1, r1, q1⟩
noncomputable def Z8n (c : TT) (t u : TS) : TS := fun D σ H => c σ H fun b H1 => if b = true then t D σ H1 else u D σ H1
theorem Z30 {c : Expr} {a b : List Stmt} {tc : TT} (hc : PT X c tc) (ha : PSs X a t) (hb : PSs X b u) : PS X (.If c a b pos) (Z8n tc t u) := by
  intro pins s σ H D I h
  refine wpAny_If (thn (hc pins s σ H _ I h) fun d s1 qz9 => ?_)
  obtain ⟨H1, I1, q1⟩ := qz9
  cases d with
  | true => exact ha pins s1 σ H1 D I1 q1
  | false => exact hb pins s1 σ H1 D I1 q1
end
noncomputable abbrev TG := V → St → Hp → (St → Hp → Prop) → Prop
noncomputable abbrev TGs := List V → St → Hp → (St → Hp → Prop) → Prop
noncomputable def PG (X : Cx) (target : Expr) (t : TG) : Prop :=
  ∀ (pins : List (Addr × Obj)) (s : Shared) (σ : St) (H : Hp) (v : V) (u : Value) (Q : St → Hp → Prop), Inv X pins σ H s → RelV v u → t v σ H Q →
    wpAny (model X.prog X.w) X.A (assign target X.env u) (fun _ s' => ∃ σ' H', Inv X pins σ' H' s' ∧ Q σ' H') X.xe s
noncomputable def PGs (X : Cx) (ts : List Expr) (t : TGs) : Prop :=
  ∀ (pins : List (Addr × Obj)) (s : Shared) (σ : St) (H : Hp) (vs : List V) (us : List Value) (Q : St → Hp → Prop), Inv X pins σ H s → Vals vs us → t vs σ H Q →
    wpAny (model X.prog X.w) X.A (assignInOrder ((assignEach ts X.env).map (·.2)) us) (fun _ s' => ∃ σ' H', Inv X pins σ' H' s' ∧ Q σ' H') X.xe s
noncomputable abbrev Z4n := V → V → V → Hp → (Hp → Prop) → Prop
noncomputable def Z7k (X : Cx) (t : Z4n) : Prop :=
  ∀ (pins : List (Addr × Obj)) (s : Shared) (σ : St) (H : Hp) (o i v : V) (ov iv u : Value) (Q : Hp → Prop), Inv X pins σ H s → RelV o ov → RelV i iv → RelV v u → t o i v H Q →
    wpAny (model X.prog X.w) X.A (setItem ov iv u) (fun _ s' => ∃ H', Inv X pins σ H' s' ∧ Q H') X.xe s
noncomputable abbrev TIp := V → V → Hp → VK → Prop
section
variable {X : Cx} {pos : Pos}
noncomputable def Zrf (i : Nat) : TG := fun v σ H Q => Q (σ.set i (some v)) H
theorem Zvv {i : Nat} {x : Str} (hN : X.N.Nodup) (hi : X.N[i]? = some x) (hx : Loc X.env.scope x) (hf : X.fn x = true ∨ X.env.scope.names.lookup x = some .local := by first | exact .inl rfl | exact .inr rfl | assumption) : PG X (.Name x pos) (Zrf i) := by
  intro pins s σ H v u Q I r h
  exact wpAny_assign_Name (Zmz I hN hi hx r (fun s' I' => ⟨_, H, I', h⟩) hf)
noncomputable def Z8i : TGs := fun vs σ H Q => vs = [] ∧ Q σ H
noncomputable def Z21 (t : TG) (u : TGs) : TGs := fun vs σ H Q => ∃ v r, vs = v :: r ∧ t v σ H fun σ' H' => u r σ' H' Q
theorem Zxb : PGs X [] Z8i := by
  intro pins s σ H vs us Q I r h
  obtain ⟨e, h⟩ := h
  subst e
  cases r
  exact assignInOrder_nil ⟨σ, H, I, h⟩
theorem Zsi {e : Expr} {es : List Expr} {t : TG} {u : TGs} (h1 : PG X e t) (h2 : PGs X es u)
    (hs : (assignEach (e :: es) X.env).map (·.2) = assign e X.env :: (assignEach es X.env).map (·.2) := by rfl) : PGs X (e :: es) (Z21 t u) := by
  intro pins s σ H vs us Q I r h
  obtain ⟨v, vr, e1, h⟩ := h
  subst e1
  cases r with
  | cons r rr =>
    rw [hs]
    refine assignInOrder_cons (thn (h1 pins s σ H _ _ _ I r h) fun _ s1 qz9 => ?_)
    obtain ⟨σ1, H1, I1, q1⟩ := qz9
    exact h2 pins s1 σ1 H1 _ _ Q I1 rr q1
noncomputable def Z89 (K : PySem.W.Frag) (n : Nat) (t : TGs) : TG := fun v σ H Q => ∃ a xs, v = .ref a ∧ SqT K H a xs ∧ xs.length = n ∧ t xs σ H Q
theorem Zym {es : List Expr} {k : Nat} {t : TGs} {n : Nat} (hc : X.calm = true) (h : PGs X es t)
    (hn : (assignEach es X.env).length = n := by rfl) (hst : (assignEach es X.env).findIdx? (·.1) = none := by rfl) : PG X (.Tuple es k pos) (Z89 X.K n t) := by
  intro pins s σ H v u Q I r hw
  obtain ⟨a, xs, e1, hq, hl, hw⟩ := hw
  subst e1
  cases r
  obtain ⟨its, rv, ht, hz⟩ := I.tuple hq
  refine assign_Tuple_tuple (I.ok.hd hc) ht (by simp [hn, ← hl, rv.length]) hst fun h' hx => ?_
  have I1 : Inv X pins σ H { s with heap := h' } := I.kept (t' := s.toks) fun b o e => hx b o (Nat.ne_of_lt (Heap.lt_size e)) e
  exact h pins _ σ H xs _ Q I1 (by simpa using rv) hw
noncomputable def Z7d (to ti : TE) (t : Z4n) : TG := fun v σ H Q => to σ H fun o H1 => ti σ H1 fun i H2 => t o i v H2 fun H3 => Q σ H3
theorem Zzv {o i : Expr} {to ti : TE} {t : Z4n} (ho : PE X o to) (hi : PE X i ti) (hs : Z7k X t)
    (ha : ∀ v, assign (.Subscript o i pos) X.env v = (do
      let ov ← holding [v] (eval o X.env)
      let iv ← holding [v, ov] (eval i X.env)
      standAt pos
      holding [v, ov, iv] (setItem ov iv v)
      release [v, ov, iv] []) := by intro _; rfl) : PG X (.Subscript o i pos) (Z7d to ti t) := by
  intro pins s σ H v u Q I r h
  rw [ha]
  refine wpAny_bind (wpAny_holding (thn (ho pins s σ H _ I h) fun ov s1 qz9 => ?_))
  obtain ⟨x, H1, I1, r1, q1⟩ := qz9
  refine wpAny_bind (wpAny_holding (thn (hi pins s1 σ H1 _ I1 q1) fun iv s2 qz9 => ?_))
  obtain ⟨y, H2, I2, r2, q2⟩ := qz9
  refine wpAny_bind (wpAny_standAt (wpAny_bind (wpAny_holding (thn (hs pins s2 σ H2 x y v ov iv u _ I2 r1 r2 r q2) fun _ s3 qz9 => ?_))))
  obtain ⟨H3, I3, q3⟩ := qz9
  exact wpAny_release ⟨σ, H3, I3, q3⟩
noncomputable def Zzj (te : TE) (g : TG) : TS := fun D σ H => te σ H fun x H1 => g x σ H1 D.nx
theorem Zyy {tg e : Expr} {te : TE} {g : TG} (he : PE X e te) (hg : PG X tg g) (hs : swapsWithSole [tg] e pos.line X.env = pure false := by rfl) (hw : swappedStores [tg] e X.env = pure none := by rfl)
    (h1 : (assignEach [tg] X.env).map (·.2) = [assign tg X.env] := by rfl) : PS X (.Assign [tg] e pos) (Zzj te g) := by
  intro pins s σ H D I h
  refine wpAny_Assign_stores (thn (he pins s σ H _ I h) fun v s1 qz9 => ?_) hs hw
  obtain ⟨x, H1, I1, r1, q1⟩ := qz9
  rw [h1]
  exact thn (hg pins s1 σ H1 x v _ I1 r1 q1) fun _ s2 q => q
theorem Zus {i : Nat} {x : Str} {e : Expr} {te : TE} {pos' : Pos} (hN : X.N.Nodup) (hi : X.N[i]? = some x) (hx : Loc X.env.scope x) (he : PE X e te) (hs : swapsWith e (some (.Name x pos')) pos.line X.env = pure false := by rfl) (hf : X.fn x = true ∨ X.env.scope.names.lookup x = some .local := by first | exact .inl rfl | exact .inr rfl | assumption) :
    PS X (.Assign [.Name x pos'] e pos) (Zzj te (Zrf i)) := by
  intro pins s σ H D I h
  refine wpAny_Assign_Name (thn (he pins s σ H _ I h) fun v s1 qz9 => ?_) hs
  obtain ⟨y, H1, I1, r1, q1⟩ := qz9
  exact Zmz I1 hN hi hx r1 (fun s2 I2 => ⟨_, H1, I2, q1⟩) hf
end
section
variable {X : Cx} {pos : Pos}
noncomputable def Zzx (c : TT) (tb : TS) : TS := fun D σ H => ∃ W : Nat → St → Hp → Prop, (∃ m, W m σ H) ∧ ∀ m σ H, W m σ H →
  c σ H fun b H1 => if b = true then ∃ N : St → Hp → Prop, (∀ σ' H', N σ' H' → ∃ m', m' < m ∧ W m' σ' H') ∧ tb { D with nx := N, ct := N, bk := D.nx } σ H1 else D.nx σ H1
theorem Zso {c : Expr} {body : List Stmt} {tc : TT} {tb : TS} (hp : PassesOwn (model X.prog X.w) X.A X.env X.xe) (hc : PT X c tc) (hb : PSs X body tb) : PS X (.While c body [] pos) (Zzx tc tb) := by
  intro pins s σ H D I h
  obtain ⟨W, ⟨m0, w0⟩, turn⟩ := h
  refine wpAny_While (codeAny_whileLoop (fun n s' => ∃ σ' H', Inv X pins σ' H' s' ∧ W n σ' H') ?_ m0 ⟨σ, H, I, w0⟩)
  rintro n s1 ⟨σ1, H1, I1, w1⟩
  refine wpAny_passesOwn hp (thn (hc pins s1 σ1 H1 _ I1 (turn n σ1 H1 w1)) fun b s2 qz9 => ?_)
  obtain ⟨H2, I2, q2⟩ := qz9
  cases b with
  | true =>
    obtain ⟨N, hN, q2⟩ := q2
    rw [if_pos rfl]
    refine wpAny_passesOwn hp (thn (hb pins s2 σ1 H2 _ I2 q2) fun f s3 q3 => ?_)
    cases f with
    | next =>
      obtain ⟨σ3, H3, I3, n3⟩ := q3
      obtain ⟨m', hm, w3⟩ := hN σ3 H3 n3
      exact ⟨m', hm, σ3, H3, I3, w3⟩
    | cont =>
      obtain ⟨σ3, H3, I3, n3⟩ := q3
      obtain ⟨m', hm, w3⟩ := hN σ3 H3 n3
      exact ⟨m', hm, σ3, H3, I3, w3⟩
    | brk => exact q3
    | ret v => exact q3
  | false =>
    rw [if_neg Bool.false_ne_true]
    exact wpAny_execs_nil ⟨σ1, H2, I2, q2⟩
end
set_option genInjectivity false in
structure It where
  go : Nat → Hp → Prop
  yld : Nat → Hp → V → Hp → Prop
  stop : Nat → Hp → Prop
noncomputable def Zio (X : Cx) (pins : List (Addr × Obj)) (H : Hp) (b : Addr) : Prop :=
  H b = none ∧ b ≠ X.env.locals ∧ b ∉ X.fs ∧ (b ∈ X.ex ∨ X.s₀.heap.objs.size ≤ b) ∧ (∀ x c, X.env.cells.lookup x = some c → c ≠ b) ∧ ∀ p ∈ X.pn ++ pins, p.1 ≠ b
theorem Inv.fpOk {X : Cx} {pins : List (Addr × Obj)} {σ : St} {H H' : Hp} {s : Shared} {b : Addr} (I : Inv X pins σ H s) (hb : s.heap.objs.size ≤ b) (hn : H' b = none) : Zio X pins H' b := by
  refine ⟨hn, Nat.ne_of_gt (Nat.lt_of_lt_of_le I.lt hb), I.nofs hb, .inr (Nat.le_trans I.sz hb), fun x c e z => ?_, fun p hp z => ?_⟩
  · obtain ⟨v, q⟩ := I.cell x c e
    exact absurd (Nat.lt_of_lt_of_le q.lt (by rw [z]; exact hb)) (Nat.lt_irrefl _)
  · exact absurd (Nat.lt_of_lt_of_le (Heap.lt_size (I.pin p hp).1) (by rw [z]; exact hb)) (Nat.lt_irrefl _)
structure Turn (P : Program) (w : World) (K : PySem.W.Frag) (tg : Expr) (J : It) (fp : List Addr) (it : Addr) (tn : Nat → Heap → Prop) : Prop where
  mem : it ∈ fp
  obj : ∀ i h, tn i h → ∀ b ∈ fp, ∃ o, h.get? b = some o ∧ ∀ v, o.data ≠ .cell v
  keep : ∀ i h h', tn i h → (∀ b ∈ fp, ∀ o, h.get? b = some o → h'.get? b = some o) → tn i h'
  item : ∀ (X : Cx), X.prog = P → X.w = w → X.K = K → X.calm = true → ∀ (i : Nat) (pins : List (Addr × Obj)) (s : Shared) (σ : St) (H : Hp) (E : Value → Shared → Prop), Inv X pins σ H s → (∀ b ∈ fp, Zio X pins H b) → tn i s.heap → J.go i H →
    wpAny (model P w) X.A (pyNext (.ref it)) (fun r s1 => ∃ u, r = some u ∧
      wpAny (model P w) X.A (letOwnedTupleGo tg (.ref it) u) (fun _ s2 => ∃ x H', Inv X pins σ H' s2 ∧ RelV x u ∧ J.yld i H x H' ∧ tn (i + 1) s2.heap ∧ ∀ b ∈ fp, H' b = none) E s1) E s
  done : ∀ (X : Cx), X.prog = P → X.w = w → X.K = K → X.calm = true → ∀ (i : Nat) (pins : List (Addr × Obj)) (s : Shared) (σ : St) (H : Hp) (E : Value → Shared → Prop), Inv X pins σ H s → (∀ b ∈ fp, Zio X pins H b) → tn i s.heap → J.stop i H →
    wpAny (model P w) X.A (pyNext (.ref it)) (fun r s1 => r = none ∧ Inv X pins σ H s1) E s
  self : ∀ (A : Around) (i : Nat) (s : Shared) (Q : Value → Shared → Prop) (E : Value → Shared → Prop), tn i s.heap → Q (.ref it) s → wpAny (model P w) A (pyIter (.ref it)) Q E s
noncomputable abbrev TI := St → Hp → (It → Hp → Prop) → Prop
noncomputable def PIE (X : Cx) (pins : List (Addr × Obj)) (σ : St) (tg : Expr) (R : It → Hp → Prop) (itv : Value) (s2 : Shared) : Prop :=
  ∃ (it : Addr) (fp : List Addr) (tn : Nat → Heap → Prop) (J : It) (H' : Hp), itv = .ref it ∧ Inv X pins σ H' s2 ∧ Turn X.prog X.w X.K tg J fp it tn ∧ tn 0 s2.heap ∧ (∀ b ∈ fp, Zio X pins H' b) ∧ R J H'
noncomputable def PI (X : Cx) (tg iter : Expr) (wi : TI) : Prop :=
  ∀ (pins : List (Addr × Obj)) (s : Shared) (σ : St) (H : Hp) (R : It → Hp → Prop), Inv X pins σ H s → wi σ H R →
    wpAny (model X.prog X.w) X.A (eval iter X.env) (fun v s1 => wpAny (model X.prog X.w) X.A (pyIter v) (PIE X pins σ tg R) X.xe s1) X.xe s
theorem Z0t {M : Model} {A : Around} {E : Value → Shared → Prop} {s : Shared} {tg : Expr} {it : Addr} {u : Value} {o : Obj} {n : String} {vs : Array Value} {Q : Unit → Shared → Prop} (ho : s.heap.get? it = some o) (hc : o.cls = .type n) (hd : o.data = .fields vs)
    (hn : ["enumerate", "zip", "dict_itemiterator", "dict_reverseitemiterator", "odict_iterator", "itertools.zip_longest", "itertools.pairwise"].contains n = false) (hQ : Q () s) : wpAny M A (letOwnedTupleGo tg (.ref it) u) Q E s := by
  unfold letOwnedTupleGo
  cases tg <;> first
    | exact wpAny_pure hQ
    | (cases u <;> first
        | exact wpAny_pure hQ
        | (refine wpAny_bind (wpAny_load ho ?_)
           rw [hc, hd]
           show wpAny M A (if (["enumerate", "zip", "dict_itemiterator", "dict_reverseitemiterator", "odict_iterator", "itertools.zip_longest", "itertools.pairwise"].contains n && vs[0]? == some (rawInt _)) = true then _ else _) Q E s
           rw [if_neg (by intro h; rw [hn, Bool.false_and] at h; cases h)]
           exact wpAny_pure hQ))
noncomputable def Itl (K : PySem.W.Frag) (a : Addr) : It :=
  ⟨fun i H => ∃ xs x, SqL K H a xs ∧ xs[i]? = some x, fun i H x H' => H' = H ∧ ∀ xs, SqL K H a xs → xs[i]? = some x, fun i H => ∃ xs, SqL K H a xs ∧ xs.length ≤ i⟩
noncomputable def Itr (lo : Int) (n : Nat) : It := ⟨fun i _ => i < n, fun i H x H' => H' = H ∧ x = .int (lo + i), fun i _ => n ≤ i⟩
theorem Zqp {P : Program} {w : World} {K : PySem.W.Frag} {tg : Expr} (a it : Addr) : Turn P w K tg (Itl K a) [it] it (fun i h => h.IsListIter it a i) where
  mem := by simp
  obj := fun i h st b hb => by
    have e : b = it := by simpa using hb
    subst e
    obtain ⟨o, e, c, d⟩ := st
    exact ⟨o, e, fun v z => by rw [d] at z; cases z⟩
  keep := fun i h h' st k => st.at fun o e => k it (by simp) o e
  item := by
    intro X hP hw hK hc i pins s σ H E I hf st hg
    subst hP hw hK
    obtain ⟨xs, x, hq, hx⟩ := hg
    obtain ⟨its, rv, p, hz⟩ := I.list hq
    obtain ⟨u, hu, ru⟩ := rv.get hx
    obtain ⟨f0, f1, f2, f3, f4, f5⟩ := hf it (by simp)
    refine wpAny_pyNext_list_item st p.isList (x := u) (by simpa using hu) fun h' st' sb => ?_
    have I1 : Inv X pins σ H { s with heap := h' } := I.turned (t' := s.toks) (fun b o hb e => (sb.2 b hb).trans e) f0 f1 f3 f4 f5
    obtain ⟨o, e, c, d⟩ := id st'
    exact ⟨u, rfl, Z0t (s := { s with heap := h' }) e c d (by decide) ⟨x, H, I1, ru, ⟨rfl, fun ys hy => by rw [I.list_inj hy hq]; exact hx⟩, st', fun b hb => (hf b hb).1⟩⟩
  done := by
    intro X hP hw hK hc i pins s σ H E I hf st hg
    subst hP hw hK
    obtain ⟨xs, hq, hx⟩ := hg
    obtain ⟨its, rv, p, hz⟩ := I.list hq
    obtain ⟨f0, f1, f2, f3, f4, f5⟩ := hf it (by simp)
    have hl := rv.length
    exact wpAny_pyNext_list_end (I.ok.hd hc) st p.isList (by simp; omega) fun h' eb => ⟨rfl, I.turned (t' := s.toks) (fun b o hb e => eb b o hb e) f0 f1 f3 f4 f5⟩
  self := fun _ _ _ _ _ st h => wpAny_pyIter_listiter st h
theorem Znv {P : Program} {w : World} {K : PySem.W.Frag} {tg : Expr} (it : Addr) (lo : Int) (n : Nat) : Turn P w K tg (Itr lo n) [it] it (fun i h => IsRangeIter h it (lo + (i : Nat) * 1) ((n : Int) - (i : Nat)) 1) where
  mem := by simp
  obj := fun i h st b hb => by
    have e : b = it := by simpa using hb
    subst e
    exact ⟨_, st, fun v z => by
      have z' : Data.fields _ = Data.cell v := z
      cases z'⟩
  keep := fun i h h' st k => k it (by simp) _ st
  item := by
    intro X hP hw hK hc i pins s σ H E I hf st hg
    subst hP hw hK
    obtain ⟨f0, f1, f2, f3, f4, f5⟩ := hf it (by simp)
    have W := Walks.range (prog := X.prog) (w := X.w) (I.ok.hd hc) it lo 1 n
    refine W.item i s _ _ hg st fun v h' tk hv st' kk => ?_
    obtain ⟨t, rfl⟩ := hv
    have I1 : Inv X pins σ H { s with heap := h', toks := tk } := I.turned (fun b o hb e => kk b o (by simpa using hb) e) f0 f1 f3 f4 f5
    refine ⟨_, rfl, Z0t (s := { s with heap := h', toks := tk }) (n := "range_iterator") st' rfl rfl (by decide) ⟨.int (lo + i), H, I1, ⟨t, ?_⟩, ⟨rfl, rfl⟩, st', fun b hb => (hf b hb).1⟩⟩
    rw [Int.mul_one]
  done := by
    intro X hP hw hK hc i pins s σ H E I hf st hg
    subst hP hw hK
    obtain ⟨f0, f1, f2, f3, f4, f5⟩ := hf it (by simp)
    exact wpAny_pyNext_range_end (I.ok.hd hc) st (by have : n ≤ i := hg; omega) fun h' eb => ⟨rfl, I.turned (t' := s.toks) (fun b o hb e => eb b o hb e) f0 f1 f3 f4 f5⟩
  self := fun _ _ _ _ _ st h => wpAny_pyIter_rangeiter st h
end L2
namespace L2
open PySem PySem.Spec PyProof.Rows
section
variable {X : Cx} {tg : Expr}
noncomputable def Z11 (K : PySem.W.Frag) (tl : TE) : TI := fun σ H R => tl σ H fun x H1 => ∃ a, x = .ref a ∧ (∃ xs, SqL K H1 a xs) ∧ R (Itl K a) H1
theorem Zvk {l : Expr} {tl : TE} (hl : PE X l tl) : PI X tg l (Z11 X.K tl) := by
  intro pins s σ H R I h
  refine thn (hl pins s σ H _ I h) fun v s1 qz9 => ?_
  obtain ⟨x, H1, I1, r1, q1⟩ := qz9
  obtain ⟨a, e, ⟨xs, hq⟩, q⟩ := q1
  subst e
  cases r1
  obtain ⟨its, rv, p, hz⟩ := I1.list hq
  refine wpAny_pyIter_list p.isList ?_
  refine ⟨s1.heap.objs.size, [s1.heap.objs.size], _, _, H1, rfl, I1.kept (t' := s1.toks) fun b o e => Heap.get?_push_of_some _ e, Zqp a _, ⟨_, Heap.get?_push_size _ rfl, rfl, rfl⟩, fun b hb => ?_, q⟩
  have e : b = s1.heap.objs.size := by simpa using hb
  subst e
  exact I1.fpOk (Nat.le_refl _) (I1.hok.fresh (Nat.le_refl _))
theorem Zmh {pins : List (Addr × Obj)} {σ : St} {H : Hp} {s : Shared} {R : It → Hp → Prop} {E : Value → Shared → Prop} {lo hi : Int} {t u v : Tok} {tk : Nat} (I : Inv X pins σ H s) (h1 : -(2 ^ 62) ≤ lo) (h2 : lo < 2 ^ 62) (h3 : -(2 ^ 62) ≤ hi) (h4 : hi < 2 ^ 62)
    (q : R (Itr lo (hi - lo).toNat) H) : wpAny (model X.prog X.w) X.A (pyIter (.ref s.heap.objs.size)) (PIE X pins σ tg R) E { s with heap := s.heap.push { cls := .type "range", data := .fields #[.int lo t, .int hi u, .int 1 v] }, toks := tk } := by
  refine wpAny_pyIter_range (IsRange.new ..) (small_one h1 h2 h3 h4) ?_
  have I1 : Inv X pins σ H { s with heap := s.heap.push { cls := .type "range", data := .fields #[.int lo t, .int hi u, .int 1 v] }, toks := tk } := I.kept fun b o e => Heap.get?_push_of_some _ e
  refine ⟨(s.heap.push { cls := .type "range", data := .fields #[.int lo t, .int hi u, .int 1 v] }).objs.size, [(s.heap.push { cls := .type "range", data := .fields #[.int lo t, .int hi u, .int 1 v] }).objs.size], _, _, H, rfl,
    I1.kept (t' := tk) fun b o e => Heap.get?_push_of_some _ e, Znv _ lo (hi - lo).toNat, ?_, fun b hb => ?_, q⟩
  · have e1 : lo + ((0 : Nat) : Int) * 1 = lo := by simp
    have e2 : (((hi - lo).toNat : Nat) : Int) - ((0 : Nat) : Int) = Builtin.Range.rangeSize lo hi 1 := by rw [rangeSize_one]; split <;> omega
    show IsRangeIter _ _ (lo + ((0 : Nat) : Int) * 1) ((((hi - lo).toNat : Nat) : Int) - ((0 : Nat) : Int)) 1
    rw [e1, e2]
    exact Heap.get?_push_size _ rfl
  · have e : b = (s.heap.push { cls := .type "range", data := .fields #[.int lo t, .int hi u, .int 1 v] }).objs.size := by simpa using hb
    subst e
    exact I1.fpOk (Nat.le_refl _) (I1.hok.fresh (Nat.le_refl _))
noncomputable def Z5e (ta : TA) : TI := fun σ H R => ta σ H fun vs H1 => ∃ j : Int, vs = [.int j] ∧ -(2 ^ 62) ≤ j ∧ j < 2 ^ 62 ∧ R (Itr 0 j.toNat) H1
noncomputable def Z45 (ta : TA) : TI := fun σ H R => ta σ H fun vs H1 => ∃ i j : Int, vs = [.int i, .int j] ∧ (-(2 ^ 62) ≤ i ∧ i < 2 ^ 62 ∧ -(2 ^ 62) ≤ j ∧ j < 2 ^ 62) ∧ R (Itr i (j - i).toNat) H1
theorem Zrg {a : Expr} {ta : TA} {p pos : Pos} (hg : Gl X "range") (hm : X.mg "range" = none) (ha : PA X [a] ta) (hs : starEach [a] X.env = [(false, eval a X.env)] := by rfl) : PI X tg (.Call (.Name "range" p) [a] [] pos) (Z5e ta) := by
  intro pins s σ H R I h
  refine Call_ (Zhd I hg hm boot_range (PyProof.Rows.callWith_type1 (thn (ha pos pins s σ H _ I h) fun us s1 qz9 => ?_) hs rfl))
  obtain ⟨vs, H1, I1, r1, q1⟩ := qz9
  obtain ⟨j, e, q1, q2, q⟩ := q1
  subst e
  cases r1 with
  | cons r rr =>
    cases rr
    obtain ⟨t, rfl⟩ := r
    exact call_range_1 (Zmh I1 (by omega) (by omega) q1 q2 (by simpa using q))
theorem Zqi {a b : Expr} {ta : TA} {p pos : Pos} (hg : Gl X "range") (hm : X.mg "range" = none) (ha : PA X [a, b] ta) (hs : starEach [a, b] X.env = [(false, eval a X.env), (false, eval b X.env)] := by rfl) (hs2 : starEach [b] X.env = [(false, eval b X.env)] := by rfl) :
    PI X tg (.Call (.Name "range" p) [a, b] [] pos) (Z45 ta) := by
  intro pins s σ H R I h
  refine Call_ (Zhd I hg hm boot_range (PyProof.Rows.callWith_type1 (thn (ha pos pins s σ H _ I h) fun us s1 ⟨vs, H1, I1, r1, q1⟩ => ?_) (by rw [hs, hs2]) (by rw [hs2]; rfl)))
  obtain ⟨i, j, e, ⟨q1, q2, q3, q4⟩, q⟩ := q1
  subst e
  cases r1 with
  | cons r rr =>
    cases rr with
    | cons r' rr =>
      cases rr
      obtain ⟨t, rfl⟩ := r
      obtain ⟨t', rfl⟩ := r'
      exact call_range_2 (Zmh I1 q1 q2 q3 q4 q)
noncomputable def Z7p (wi : TI) (g : TG) (tb : TS) : TS := fun D σ H => wi σ H fun J H1 => ∃ W : Nat → Nat → St → Hp → Prop, (∃ m, W 0 m σ H1) ∧ ∀ i m σ H, W i m σ H →
  (J.stop i H ∧ D.nx σ H) ∨ (J.go i H ∧ ∃ N : St → Hp → Prop, (∀ σ' H', N σ' H' → ∃ m', m' < m ∧ W (i + 1) m' σ' H') ∧ ∀ x H', J.yld i H x H' → g x σ H' fun σ2 H2 => tb { D with nx := N, ct := N, bk := D.nx } σ2 H2)
noncomputable def Zka (fp : List Addr) (h : Heap) : List (Addr × Obj) := fp.filterMap fun b => (h.get? b).map fun o => (b, o)
theorem Zco {fp : List Addr} {h : Heap} {b : Addr} {o : Obj} (hb : b ∈ fp) (e : h.get? b = some o) : (b, o) ∈ Zka fp h := List.mem_filterMap.mpr ⟨b, hb, by rw [e]; rfl⟩
theorem Zox {fp : List Addr} {h : Heap} {p : Addr × Obj} (hp : p ∈ Zka fp h) : p.1 ∈ fp ∧ h.get? p.1 = some p.2 := by
  obtain ⟨b, hb, e⟩ := List.mem_filterMap.mp hp
  cases q : h.get? b with
  | none => rw [q] at e; cases e
  | some o =>
    rw [q] at e
    have e' : (b, o) = p := Option.some.inj e
    subst e'
    exact ⟨hb, q⟩
theorem Inv.pinned {pins : List (Addr × Obj)} {σ : St} {H : Hp} {s : Shared} {fp : List Addr} (I : Inv X pins σ H s) (hf : ∀ b ∈ fp, Zio X pins H b) (ho : ∀ b ∈ fp, ∃ o, s.heap.get? b = some o ∧ ∀ v, o.data ≠ .cell v) : Inv X (pins ++ Zka fp s.heap) σ H s :=
  I.pins_of fun p hp => (List.mem_append.mp hp).elim (fun z => I.pin p (List.mem_append_right _ z)) fun z => by
    obtain ⟨hb, e⟩ := Zox z
    obtain ⟨f0, f1, f2, _⟩ := hf p.1 hb
    obtain ⟨o, e', d⟩ := ho p.1 hb
    rw [e] at e'; cases e'
    exact ⟨e, f0, f1, f2, d⟩
theorem Inv.unpinned {pins pl : List (Addr × Obj)} {σ : St} {H : Hp} {s : Shared} (I : Inv X (pins ++ pl) σ H s) : Inv X pins σ H s := I.pins_of fun p hp => I.pin p (List.mem_append_right _ (List.mem_append_left _ hp))
theorem Z0n {iter : Expr} {body : List Stmt} {wi : TI} {g : TG} {tb : TS} {pos : Pos} (hp : PassesOwn (model X.prog X.w) X.A X.env X.xe) (hc : X.calm = true) (hi : PI X tg iter wi) (hg : PG X tg g) (hb : PSs X body tb)
    (hs : ∀ x, foldedSetIterable iter X.env x = pure x := by intro _; rfl) : PS X (.For tg iter body [] pos) (Z7p wi g tb) := by
  intro pins s σ H D I h
  refine wpAny_For (thn (hi pins s σ H _ I h) fun v s1 h1 => thn h1 fun itv s2 h2 => ?_) hs
  obtain ⟨it, fp, tn, J, H2, e, I2, T, st2, f2, W, ⟨m0, w0⟩, turn⟩ := h2
  subst e
  -- what stays true of the iterator's objects through the loop
  have stat : ∀ {H' : Hp}, (∀ b ∈ fp, H' b = none) → ∀ b ∈ fp, Zio X pins H' b := fun hn b hb => ⟨hn b hb, (f2 b hb).2⟩
  refine codeAny_forLoop_any (fun n s' => ∃ i σ' H', Inv X pins σ' H' s' ∧ tn i s'.heap ∧ (∀ b ∈ fp, H' b = none) ∧ W i n σ' H') ?_ m0 ⟨0, σ, H2, I2, st2, fun b hb => (f2 b hb).1, w0⟩
  rintro n s3 ⟨i, σ3, H3, I3, st3, fr3, w3⟩
  rcases turn i n σ3 H3 w3 with ⟨stop, qn⟩ | ⟨go, N, hN, step⟩
  · refine wpAny_passesOwn hp (thn (T.done X rfl rfl rfl hc i pins s3 σ3 H3 X.xe I3 (stat fr3) st3 stop) fun r s4 qz9 => ?_)
    obtain ⟨hr, I4⟩ := qz9
    subst hr
    exact wpAny_execs_nil ⟨σ3, H3, I4, qn⟩
  · refine wpAny_passesOwn hp (thn (T.item X rfl rfl rfl hc i pins s3 σ3 H3 X.xe I3 (stat fr3) st3 go) fun r s4 qz9 => ?_)
    obtain ⟨u, hr, h4⟩ := qz9
    subst hr
    refine wpAny_passesOwn hp (thn h4 fun _ s5 qz9 => ?_)
    obtain ⟨x, H5, I5, r5, y5, st5, fr5⟩ := qz9
    have I5' := I5.pinned (stat fr5) (T.obj _ _ st5)
    refine wpAny_passesOwn hp (thn (hg _ s5 σ3 H5 x u _ I5' r5 (step x H5 y5)) fun _ s6 qz9 => ?_)
    obtain ⟨σ6, H6, I6, q6⟩ := qz9
    refine wpAny_passesOwn hp (thn (hb _ s6 σ6 H6 _ I6 q6) fun f s7 q7 => ?_)
    have again : ∀ {σ7 : St} {H7 : Hp}, Inv X (pins ++ Zka fp s5.heap) σ7 H7 s7 → N σ7 H7 → ∃ m, m < n ∧ ∃ i σ' H', Inv X pins σ' H' s7 ∧ tn i s7.heap ∧ (∀ b ∈ fp, H' b = none) ∧ W i m σ' H' := fun {σ7 H7} I7 n7 => by
      obtain ⟨m', hm, w7⟩ := hN σ7 H7 n7
      refine ⟨m', hm, i + 1, σ7, H7, I7.unpinned, T.keep _ _ _ st5 fun b hb o e => (I7.pin (b, o) (List.mem_append_right _ (List.mem_append_right _ (Zco hb e)))).1, fun b hb => ?_, w7⟩
      obtain ⟨o, e, d⟩ := T.obj _ _ st5 b hb
      exact (I7.pin (b, o) (List.mem_append_right _ (List.mem_append_right _ (Zco hb e)))).2.1
    cases f with
    | next => obtain ⟨σ7, H7, I7, n7⟩ := q7; exact again I7 n7
    | cont => obtain ⟨σ7, H7, I7, n7⟩ := q7; exact again I7 n7
    | brk => obtain ⟨σ7, H7, I7, q7⟩ := q7; exact ⟨σ7, H7, I7.unpinned, q7⟩
    | ret v => obtain ⟨x7, σ7, H7, I7, r7, q7⟩ := q7; exact ⟨x7, σ7, H7, I7.unpinned, r7, q7⟩
end
end L2
namespace L2
open PySem PySem.Spec PyProof.Rows
noncomputable abbrev R2 := V → V → Hp → VK → Prop
noncomputable def OpR (X : Cx) (f : Value → Value → Sem Value) (r : R2) : Prop :=
  ∀ (pins : List (Addr × Obj)) (s : Shared) (σ : St) (H : Hp) (x y : V) (v u : Value) (Q : VK), Inv X pins σ H s → RelV x v → RelV y u → r x y H Q →
    wpAny (model X.prog X.w) X.A (f v u) (EP X pins σ Q) X.xe s
noncomputable def UnR (X : Cx) (f : Value → Sem Value) (r : V → Hp → VK → Prop) : Prop :=
  ∀ (pins : List (Addr × Obj)) (s : Shared) (σ : St) (H : Hp) (x : V) (v : Value) (Q : VK), Inv X pins σ H s → RelV x v → r x H Q →
    wpAny (model X.prog X.w) X.A (f v) (EP X pins σ Q) X.xe s
noncomputable def Zdm (X : Cx) (f : Value) (r : List V → Hp → VK → Prop) : Prop :=
  ∀ (pins : List (Addr × Obj)) (s : Shared) (σ : St) (H : Hp) (xs : List V) (us : List Value) (Q : VK), Inv X pins σ H s → Vals xs us → r xs H Q →
    wpAny (model X.prog X.w) X.A (call f us) (EP X pins σ Q) X.xe s
noncomputable def Z8x (X : Cx) (r : V → Hp → (Bool → Hp → Prop) → Prop) : Prop :=
  ∀ (pins : List (Addr × Obj)) (s : Shared) (σ : St) (H : Hp) (x : V) (v : Value) (Q : Bool → Hp → Prop), Inv X pins σ H s → RelV x v → r x H Q →
    wpAny (model X.prog X.w) X.A (truthy v) (TP X pins σ Q) X.xe s
noncomputable def tOp (r : R2) (ta tb : TE) : TE := fun σ H Q => ta σ H fun x H1 => tb σ H1 fun y H2 => r x y H2 Q
noncomputable def tUn (r : V → Hp → VK → Prop) (ta : TE) : TE := fun σ H Q => ta σ H fun x H1 => r x H1 Q
noncomputable def rI (C : Int → Int → Prop) (g : Int → Int → V) : R2 := fun x y H Q => ∃ i j, x = .int i ∧ y = .int j ∧ C i j ∧ Q (g i j) H
noncomputable def rI0 (g : Int → Int → V) : R2 := fun x y H Q => ∃ i j, x = .int i ∧ y = .int j ∧ Q (g i j) H
noncomputable def rU (g : Int → V) : V → Hp → VK → Prop := fun x H Q => ∃ i, x = .int i ∧ Q (g i) H
section
variable {X : Cx} {a b c : Expr} {ta tb tc : TE} {pos : Pos}
theorem Z24 (ha : PE X a ta) (hb : PE X b tb) {pins : List (Addr × Obj)} {s : Shared} {σ : St} {H : Hp} {R : V → V → Hp → Prop} (I : Inv X pins σ H s)
    (h : ta σ H fun x H1 => tb σ H1 fun y H2 => R x y H2) {Q : Value → Shared → Prop} {f : Value → Value → Sem Value}
    (hf : ∀ v u s2 x y H2, Inv X pins σ H2 s2 → RelV x v → RelV y u → R x y H2 → wpAny (model X.prog X.w) X.A (f v u) Q X.xe s2) :
    wpAny (model X.prog X.w) X.A (eval a X.env) (fun v s₁ => wpAny (model X.prog X.w) X.A (eval b X.env) (fun u s₂ => wpAny (model X.prog X.w) X.A (f v u) Q X.xe s₂) X.xe s₁) X.xe s := by
  refine thn (ha pins s σ H _ I h) fun v s1 qz9 => ?_
  obtain ⟨x, H1, I1, r1, q1⟩ := qz9
  refine thn (hb pins s1 σ H1 _ I1 q1) fun u s2 qz9 => ?_
  obtain ⟨y, H2, I2, r2, q2⟩ := qz9
  exact hf v u s2 x y H2 I2 r1 r2 q2
theorem Zxu {op : Operator} {r : R2} (ho : OpR X (binaryOp op) r) (ha : PE X a ta) (hb : PE X b tb) : PE X (.BinOp a op b pos) (tOp r ta tb) := by
  intro pins s σ H Q I h
  exact wpAny_BinOp (Z24 ha hb I h fun v u s2 x y H2 I2 rx ry q => ho pins s2 σ H2 x y v u Q I2 rx ry q)
theorem Z4q {op : UnaryOp} {r : V → Hp → VK → Prop} (ho : UnR X (unaryOp op) r) (ha : PE X a ta) : PE X (.UnaryOp op a pos) (tUn r ta) := by
  intro pins s σ H Q I h
  refine UnaryOp_ (thn (ha pins s σ H _ I h) fun v s1 qz9 => ?_)
  obtain ⟨x, H1, I1, r1, q1⟩ := qz9
  exact ho pins s1 σ H1 x v Q I1 r1 q1
theorem opI {f : Value → Value → Sem Value} {C : Int → Int → Prop} {g : Int → Int → Int}
    (rule : ∀ (i j : Int) (t u : Tok) (s : Shared) (Q : Value → Shared → Prop) (E : Value → Shared → Prop), C i j → Q (.int (g i j) s.toks) { s with toks := s.toks + 1 } → wpAny (model X.prog X.w) X.A (f (.int i t) (.int j u)) Q E s) :
    OpR X f (rI C fun i j => .int (g i j)) := by
  intro pins s σ H x y v u Q I rx ry h
  obtain ⟨i, j, rfl, rfl, hc, q⟩ := h
  obtain ⟨t, rfl⟩ := rx
  obtain ⟨t', rfl⟩ := ry
  exact rule i j t t' s _ _ hc ⟨.int (g i j), H, I.tok _, ⟨_, rfl⟩, q⟩
theorem Z6p {f : Value → Value → Sem Value} {g : Int → Int → Int}
    (rule : ∀ (i j : Int) (t u : Tok) (s : Shared) (Q : Value → Shared → Prop) (E : Value → Shared → Prop), Q (.int (g i j) s.toks) { s with toks := s.toks + 1 } → wpAny (model X.prog X.w) X.A (f (.int i t) (.int j u)) Q E s) :
    OpR X f (rI0 fun i j => .int (g i j)) := by
  intro pins s σ H x y v u Q I rx ry h
  obtain ⟨i, j, rfl, rfl, q⟩ := h
  obtain ⟨t, rfl⟩ := rx
  obtain ⟨t', rfl⟩ := ry
  exact rule i j t t' s _ _ ⟨.int (g i j), H, I.tok _, ⟨_, rfl⟩, q⟩
theorem Z3e {f : Value → Value → Sem Value} {g : Int → Int → Bool}
    (rule : ∀ (i j : Int) (t u : Tok) (s : Shared) (Q : Value → Shared → Prop) (E : Value → Shared → Prop), Q (.bool (g i j)) s → wpAny (model X.prog X.w) X.A (f (.int i t) (.int j u)) Q E s) :
    OpR X f (rI0 fun i j => .bl (g i j)) := by
  intro pins s σ H x y v u Q I rx ry h
  obtain ⟨i, j, rfl, rfl, q⟩ := h
  obtain ⟨t, rfl⟩ := rx
  obtain ⟨t', rfl⟩ := ry
  exact rule i j t t' s _ _ ⟨.bl (g i j), H, I, rfl, q⟩
noncomputable def Z2s (i j : Int) : Prop := 0 ≤ j ∧ j ≤ 1000000 ∧ i.natAbs < 2 ^ 64
noncomputable def CMul (i j : Int) : Prop := (-(2 ^ 64) < i ∧ i < 2 ^ 64) ∨ (-(2 ^ 64) < j ∧ j < 2 ^ 64)
theorem CMul.ok {i j : Int} (h : CMul i j) : IntMulOk i j := by
  rcases h with ⟨h1, h2⟩ | ⟨h1, h2⟩
  · exact .of_left (intBits_le_64 h1 h2)
  · exact .of_right (intBits_le_64 h1 h2)
theorem Zz2 : OpR X (binaryOp .Add) (rI0 fun i j => .int (i + j)) := Z6p fun _ _ _ _ _ _ _ q => add_int q
theorem Zo2 : OpR X (binaryOp .Sub) (rI0 fun i j => .int (i - j)) := Z6p fun _ _ _ _ _ _ _ q => sub_int q
theorem Zx6 : OpR X (binaryOp .Mod) (rI (fun _ j => j ≠ 0) fun i j => .int (i.fmod j)) := opI fun _ _ _ _ _ _ _ hc q => mod_int' hc q
theorem Z1l : OpR X (binaryOp .Pow) (rI Z2s fun i j => .int (i ^ j.toNat)) := opI fun _ _ _ _ _ _ _ hc q => pow_int_small hc.1 hc.2.1 hc.2.2 q
theorem unI {f : Value → Sem Value} {g : Int → Int}
    (rule : ∀ (i : Int) (t : Tok) (s : Shared) (Q : Value → Shared → Prop) (E : Value → Shared → Prop), Q (.int (g i) s.toks) { s with toks := s.toks + 1 } → wpAny (model X.prog X.w) X.A (f (.int i t)) Q E s) :
    UnR X f (rU fun i => .int (g i)) := by
  intro pins s σ H x v Q I rx h
  obtain ⟨i, rfl, q⟩ := h
  obtain ⟨t, rfl⟩ := rx
  exact rule i t s _ _ ⟨.int (g i), H, I.tok _, ⟨_, rfl⟩, q⟩
theorem Z0u : UnR X (unaryOp .USub) (rU fun i => .int (-i)) := unI fun _ _ _ _ _ q => neg_int q
end
section
variable {X : Cx} {a b c : Expr} {ta tb tc : TE} {pos : Pos}
theorem Zuo {pins : List (Addr × Obj)} {σ : St} {H : Hp} {s : Shared} {Q : VK} {k k' : Bool} (I : Inv X pins σ H s) (q : Q (.bl k) H) (e : k = k') : EP X pins σ Q (.bool k') s := by
  subst e
  exact ⟨.bl k, H, I, rfl, q⟩
theorem Z1k : OpR X (compareOp .Lt) (rI0 fun i j => .bl (decide (i < j))) := Z3e fun _ _ _ _ _ _ _ q => lt_int q
theorem Z32 : OpR X (compareOp .Gt) (rI0 fun i j => .bl (decide (j < i))) := Z3e fun _ _ _ _ _ _ _ q => gt_int q
theorem Z4k : OpR X (compareOp .GtE) (rI0 fun i j => .bl (decide (j ≤ i))) := Z3e fun _ _ _ _ _ _ _ q => ge_int q
theorem Zua : OpR X (compareOp .Is) (fun x y H Q => y = .non ∧ Q (.bl (decide (x = .non))) H) := by
  intro pins s σ H x y v u Q I rx ry h
  obtain ⟨rfl, q⟩ := h
  cases ry
  refine is_none_gen (Zuo I q ?_)
  cases x <;> first
    | (cases rx; rfl)
    | (obtain ⟨t, rfl⟩ := rx; rfl)
theorem Zws : OpR X (compareOp .IsNot) (fun x y H Q => y = .non ∧ Q (.bl (!decide (x = .non))) H) := by
  intro pins s σ H x y v u Q I rx ry h
  obtain ⟨rfl, q⟩ := h
  cases ry
  refine isnot_none_gen (Zuo I q ?_)
  cases x <;> first
    | (cases rx; rfl)
    | (obtain ⟨t, rfl⟩ := rx; rfl)
theorem Zae (b : Expr) {op : CmpOp} (h : op ≠ .In := by decide) (h2 : op ≠ .NotIn := by decide) : behindInMarks op b = false := by
  have e1 : (op == CmpOp.In) = false := by cases op <;> first | rfl | exact absurd rfl h
  have e2 : (op == CmpOp.NotIn) = false := by cases op <;> first | rfl | exact absurd rfl h2
  cases b <;> simp [behindInMarks, e1, e2]
theorem Zxl {op : CmpOp} {r : R2} (ho : OpR X (compareOp op) r) (ha : PE X a ta) (hb : PE X b tb) (hm : behindInMarks op b = false) : PE X (.Compare a [op] [b] pos) (tOp r ta tb) := by
  intro pins s σ H Q I h
  exact wpAny_Compare1 (Z24 ha hb I h fun v u s2 x y H2 I2 rx ry q => ho pins s2 σ H2 x y v u Q I2 rx ry q) hm
noncomputable def Z0s (t : TE) : TT := fun σ H Q => t σ H fun x H' => ∃ k, x = .bl k ∧ Q k H'
theorem Zv4 {op : CmpOp} {r : R2} (ho : OpR X (compareOp op) r) (ha : PE X a ta) (hb : PE X b tb) (hm : behindInMarks op b = false) : PT X (.Compare a [op] [b] pos) (Z0s (tOp r ta tb)) := by
  intro pins s σ H Q I h
  refine wpAny_isTrue_Compare1 (thn (ha pins s σ H _ I h) fun v s1 ⟨x, H1, I1, r1, q1⟩ => thn (hb pins s1 σ H1 _ I1 q1) fun u s2 ⟨y, H2, I2, r2, q2⟩ =>
    thn (ho pins s2 σ H2 x y v u _ I2 r1 r2 q2) fun c s3 ⟨z, H3, I3, r3, k, e, q3⟩ => ?_) hm
  subst e
  cases r3
  exact wpAny_truthy_bool ⟨H3, I3, q3⟩
noncomputable def Z4t (K : PySem.W.Frag) (x : V) (H : Hp) (k : Bool) : Prop :=
  match x with
  | .non => k = false
  | .bl b => k = b
  | .int i => k = (i != 0)
  | .str y => y.length ≤ sizeLine ∧ k = ((y.length : Int) != 0)
  | .byt y => y.size ≤ sizeLine ∧ k = ((y.size : Int) != 0)
  | .ref p => (∃ xs, SqL K H p xs ∧ k = !xs.isEmpty) ∨ (∃ xs, SqT K H p xs ∧ k = !xs.isEmpty) ∨ ∃ kvs, H p = some (.dK kvs) ∧ k = !kvs.isEmpty
  | _ => False
theorem Zn3 {κ : Type} {kvs : List (κ × V)} {vs : List (κ × Value)} (r : KV kvs vs) : (!vs.isEmpty) = !kvs.isEmpty := by
  cases r <;> rfl
theorem Zhm {xs : List V} {its : List Value} (r : Vals xs its) : (!its.toArray.isEmpty) = !xs.isEmpty := by
  cases r <;> simp
theorem Zhk : (sizeLine : Nat) < 2 ^ 63 := by rw [sizeLine_eq]; decide
theorem Z1q : Z8x X (fun x H Q => ∃ k, Z4t X.K x H k ∧ Q k H) := by
  intro pins s σ H x v Q I rx h
  obtain ⟨k, e, q⟩ := h
  have hl := Zhk
  have hs : sizeLine = 16777216 := sizeLine_eq
  cases x with
  | non =>
    cases rx
    have e' : k = false := e
    subst e'
    exact truthy_none ⟨H, I, q⟩
  | bl b =>
    cases rx
    have e' : k = b := e
    subst e'
    exact wpAny_truthy_bool ⟨H, I, q⟩
  | int i =>
    obtain ⟨t, rfl⟩ := rx
    have e' : k = (i != 0) := e
    subst e'
    exact PySem.P.truthy_int ⟨H, I, q⟩
  | str y =>
    obtain ⟨t, rfl⟩ := rx
    obtain ⟨hy, e'⟩ : y.length ≤ sizeLine ∧ k = ((y.length : Int) != 0) := e
    subst e'
    exact PySem.P.truthy_str (by omega) ⟨H, I.tok _, q⟩
  | byt y =>
    obtain ⟨t, rfl⟩ := rx
    obtain ⟨hy, e'⟩ : y.size ≤ sizeLine ∧ k = ((y.size : Int) != 0) := e
    subst e'
    exact PySem.W.truthy_bytes (by omega) ⟨H, I.tok _, q⟩
  | ref p =>
    cases rx
    have e' : (∃ xs, SqL X.K H p xs ∧ k = !xs.isEmpty) ∨ (∃ xs, SqT X.K H p xs ∧ k = !xs.isEmpty) ∨ ∃ kvs, H p = some (.dK kvs) ∧ k = !kvs.isEmpty := e
    rcases e' with ⟨xs, hx, e'⟩ | ⟨xs, hx, e'⟩ | ⟨kvs, hx, e'⟩
    · subst e'
      obtain ⟨its, r, pl, hz⟩ := I.list hx
      have hlen := r.length
      exact wpAny_truthy_list pl.isList (by simp only [List.size_toArray]; omega) ⟨H, I.tok _, by rw [Zhm r]; exact q⟩
    · subst e'
      obtain ⟨its, r, pl, hz⟩ := I.tuple hx
      have hlen := r.length
      exact truthy_tuple pl (by simp only [List.size_toArray]; omega) ⟨H, I.tok _, by rw [Zhm r]; exact q⟩
    · subst e'
      obtain ⟨hz, hS, vs, r, m⟩ : kvs.length ≤ sizeLine ∧ (p == sysModules) = false ∧ ∃ vs, KV kvs vs ∧ s.heap.DictOf (Zk9 X.prog X.w) p vs := I.hok p _ hx
      have hlen : kvs.length = vs.length := Paired.length r
      exact wpAny_truthy_dict hS m (by omega) ⟨H, I.tok _, by rw [Zn3 r]; exact q⟩
  | _ => exact (show False from e).elim
theorem Zrt (ha : PE X a ta) (he : ∀ whole, isTrue a X.env whole = (do let v ← whole; standAt a.pos; holding [v] (truthy v))) :
    PT X a (fun σ H Q => ta σ H fun x H' => ∃ k, Z4t X.K x H' k ∧ Q k H') := by
  intro pins s σ H Q I h
  refine isTrue_plain (thn (ha pins s σ H _ I h) fun v s1 qz9 => ?_) (he _)
  obtain ⟨x, H1, I1, r1, q1⟩ := qz9
  exact Z1q pins s1 σ H1 x v Q I1 r1 q1
theorem vals1 {x : V} {us : List Value} (r : Vals [x] us) : ∃ u, us = [u] ∧ RelV x u := by
  cases r with
  | cons r1 r2 => cases r2; exact ⟨_, rfl, r1⟩
theorem vals2 {x y : V} {us : List Value} (r : Vals [x, y] us) : ∃ u w', us = [u, w'] ∧ RelV x u ∧ RelV y w' := by
  cases r with
  | cons r1 r2 =>
    cases r2 with
    | cons r3 r4 => cases r4; exact ⟨_, _, rfl, r1, r3⟩
theorem Zib : Zdm X (.builtin "abs") (fun xs H Q => ∃ i, xs = [.int i] ∧ Q (.int (if i < 0 then -i else i)) H) := by
  intro pins s σ H xs us Q I r h
  obtain ⟨i, rfl, q⟩ := h
  obtain ⟨u, rfl, t, rfl⟩ := vals1 r
  exact call_abs_int fun u tk => ⟨.int (if i < 0 then -i else i), H, I.tok _, ⟨_, rfl⟩, q⟩
theorem Zpx (hc : X.calm = true) : Zdm X (.builtin "max") (fun xs H Q => ∃ i j, xs = [.int i, .int j] ∧ Q (.int (if j > i then j else i)) H) := by
  intro pins s σ H xs us Q I r h
  obtain ⟨i, j, rfl, q⟩ := h
  obtain ⟨u, w', rfl, ⟨t, rfl⟩, ⟨t', rfl⟩⟩ := vals2 r
  refine max_two_ints (I.ok.hd hc) fun h' tk k => ⟨_, H, I.kept k, ?_, q⟩
  by_cases hj : j > i
  · rw [if_pos hj, if_pos hj]; exact ⟨_, rfl⟩
  · rw [if_neg hj, if_neg hj]; exact ⟨_, rfl⟩
end
end L2
namespace L2
open PySem PySem.Spec PyProof.Rows
structure ObjM (h : Heap) (x dx C : Addr) (mA : Str → Option Value) : Prop where
  obj : h.get? x = some (PySem.W.instObj C dx)
  ns : h.Ns1 dx mA
  ne : dx ≠ x
theorem Zpm {h : Heap} {dx : Addr} {mA : Str → Option Value} (n : h.Ns1 dx mA) : ∃ od, h.get? dx = some od ∧ ∀ name, PySem.W.lookIn name od = some (mA name) := by
  obtain ⟨o, es, ep, ho, hd, hk, _, hm⟩ := n
  refine ⟨o, ho, fun name => ?_⟩
  have e := hm name
  unfold nsFind findBy at e
  rw [← Array.find?_toList] at e
  unfold PySem.W.lookIn
  rw [hd]
  dsimp only
  split
  · rename_i y q
    rw [q] at e
    exact congrArg some e
  · rename_i q
    rw [q] at e
    have a : es.toList.any (·.refKey) = false := by
      rw [List.any_eq_false]
      intro y hy
      obtain ⟨z, t, hkey⟩ := hk y (Array.mem_toList_iff.mp hy)
      simp [DictEntry.refKey, hkey]
    have a' : ¬ es.toList.any (·.refKey) = true := by rw [a]; exact Bool.false_ne_true
    rw [if_neg a']
    exact congrArg some e
theorem ObjM.look {h : Heap} {x dx C : Addr} {mA : Str → Option Value} (I : ObjM h x dx C mA) : ∃ od, PySem.W.InstAt h x (PySem.W.instObj C dx) C (some od) ∧ ∀ name, PySem.W.lookIn name od = some (mA name) :=
  let ⟨od, ho, hl⟩ := Zpm I.ns
  ⟨od, ⟨I.obj, rfl, rfl, ho⟩, hl⟩
section
variable {prog : Program} {w : World} {A : Around} {E : Value → Shared → Prop} {s : Shared} {K : PySem.W.Frag} {x dx C f : Addr} {mA : Str → Option Value} {name : Str} {v : Value}
end
section
variable {P : Program} {w : World} {H H' : Hp} {h h' : Heap} {a C dx : Addr} {fs fs' : List (Str × V)}
theorem Zxp (hok : HOk P w H h) (e : H a = some (.ins C dx fs)) : ∃ mA, ObjM h a dx C mA ∧ (∀ f, RelO (fs.lookup f) (mA f)) ∧ PySem.Within mA (fs.map (·.1)) ∧ fs.length ≤ 1000 ∧ H dx = some (.own a) := by
  obtain ⟨d, z, ne, ob, mA, n, r, q⟩ := (show ObjOk P w H h a (.ins C dx fs) from hok a _ e)
  exact ⟨mA, ⟨ob, n, ne⟩, r, q, z, d⟩
end
structure Cls (K : PySem.W.Frag) (C : Addr) : Prop where
  pg : PySem.W.plainGet K C Str.empty = true
  hd : PySem.W.hasDictIn K C = true
  po : PySem.W.plainOver K C = true
  sa : PySem.W.findIn K (.ref C) "__setattr__" = some (some (.builtin "object.__setattr__"))
theorem Cls.get {K : PySem.W.Frag} {C : Addr} (c : Cls K C) (f : Str) : PySem.W.plainGet K C f = true := c.pg
structure Con (K : PySem.W.Frag) (C : Addr) (f : Str) (v : V) (u : Value) : Prop where
  at_ : PySem.W.findIn K (.ref C) f = some (some u)
  rel : RelV v u
  get : PySem.W.specialIn K u "__get__" = some none
  cp : PySem.W.copiedNames.contains f = false
structure Meth (K : PySem.W.Frag) (C : Addr) (m : Str) (f : Addr) : Prop where
  at_ : PySem.W.findIn K (.ref C) m = some (some (.ref f))
  fn : PySem.W.isFn K (.ref f) = true
  kp : PySem.W.keepIn K (.ref f) = true
section
variable {X : Cx} {pins : List (Addr × Obj)} {σ : St} {H : Hp} {s : Shared} {a C dx : Addr} {fs : List (Str × V)} {f : Str} {v : V} {A : Around} {E : Value → Shared → Prop}
end
section
variable {X : Cx} {o e value : Expr} {f : Str} {pos pos' tpos : Pos} {ta tv : TE}
end
section
variable {X : Cx} {pins : List (Addr × Obj)} {σ : St} {H : Hp} {s : Shared} {A : Around} {E : Value → Shared → Prop} {Q : Value → Shared → Prop} {c : Value} {b : Bool}
inductive Zn5 (K : PySem.W.Frag) (H : Hp) : V → Value → Prop where
  | non : Zn5 K H .non (.type "NoneType")
  | bl (x : Bool) : Zn5 K H (.bl x) (.type "bool")
  | int (i : Int) : Zn5 K H (.int i) (.type "int")
  | str (x : Str) : Zn5 K H (.str x) (.type "str")
  | flt (x : UInt64) : Zn5 K H (.flt x) (.type "float")
  | lst {a : Addr} {xs : List V} (e : H a = some (.lst xs)) : Zn5 K H (.ref a) (.type "list")
  | frz {a : Addr} {o : Obj} {xs : List V} (e : H a = some (.frz o (.lst xs))) : Zn5 K H (.ref a) (.type "list")
  | tup {a : Addr} {xs : List V} (e : H a = some (.tup xs)) : Zn5 K H (.ref a) (.type "tuple")
  | dK {a : Addr} {kvs : List (Key × V)} (e : H a = some (.dK kvs)) : Zn5 K H (.ref a) (.type "dict")
  | dT {a : Addr} {kvs : List (List Key × V)} (e : H a = some (.dT kvs)) : Zn5 K H (.ref a) (.type "dict")
  | ins {a C dx : Addr} {fs : List (Str × V)} (e : H a = some (.ins C dx fs)) (cl : Cls K C) (ha : PySem.W.findIn K (.ref C) "__class__" = some (some (.builtin "object.__class__")))
      (hn : PySem.W.specialIn K (.builtin "object.__class__") "__get__" = some (some (.builtin "getset_descriptor.__get__"))) (htk : PySem.W.takesIn K (.builtin "object.__class__") = some true)
      (hm : PySem.W.mroIn K C (.type "object") = some true) : Zn5 K H (.ref a) (.ref C)
theorem J4 {x : V} {u t : Value} (I : Inv X pins σ H s) (rx : RelV x u) (ty : Zn5 X.K H x t) (e : PySem.W.kitOne X.K t c = some b) (h : ∀ tk, Q (.bool b) { s with toks := tk }) :
    wpAny (model X.prog X.w) A (call (.builtin "isinstance") [u, c]) Q E s := by
  cases ty with
  | non => cases (show u = Value.none from rx); exact PySem.W.kia_one PySem.W.kitx_none I.kIn True.intro e (fun z => nomatch z) h
  | bl y => cases (show u = Value.bool y from rx); exact PySem.W.kia_one PySem.W.kitx_bool I.kIn True.intro e (fun z => nomatch z) h
  | int i => obtain ⟨t, q⟩ := (show ∃ t, u = Value.int i t from rx); cases q; exact PySem.W.kia_one PySem.W.kitx_int I.kIn True.intro e (fun z => nomatch z) h
  | str y => obtain ⟨t, q⟩ := (show ∃ t, u = Value.str y t from rx); cases q; exact PySem.W.kia_one PySem.W.kitx_str I.kIn True.intro e (fun z => nomatch z) h
  | flt y => obtain ⟨t, q⟩ := (show ∃ t, u = Value.float y t from rx); cases q; exact PySem.W.kia_one PySem.W.kitx_float I.kIn True.intro e (fun z => nomatch z) h
  | @lst a xs ea =>
    cases (show u = Value.ref a from rx)
    obtain ⟨_, _, n, _, h1⟩ := (show ObjOk X.prog X.w H s.heap a (.lst xs) from I.hok a _ ea)
    exact PySem.W.kia_one PySem.W.kitx_list I.kIn ⟨_, h1, rfl⟩ e (fun z => nomatch z) h
  | @frz a ob xs ea =>
    cases (show u = Value.ref a from rx)
    obtain ⟨_, _, _, n, _, h1⟩ := (show ObjOk X.prog X.w H s.heap a (.frz ob (.lst xs)) from I.hok a _ ea)
    exact PySem.W.kia_one PySem.W.kitx_list I.kIn ⟨_, h1, rfl⟩ e (fun z => nomatch z) h
  | @tup a xs ea =>
    cases (show u = Value.ref a from rx)
    obtain ⟨_, _, _, p⟩ := (show ObjOk X.prog X.w H s.heap a (.tup xs) from I.hok a _ ea)
    obtain ⟨o, h1, h2, _⟩ := p
    exact PySem.W.kia_one PySem.W.kitx_tuple I.kIn ⟨o, h1, h2⟩ e (fun z => nomatch z) h
  | @dK a kvs ea =>
    cases (show u = Value.ref a from rx)
    obtain ⟨_, _, vs, _, p⟩ := (show ObjOk X.prog X.w H s.heap a (.dK kvs) from I.hok a _ ea)
    obtain ⟨o, es, ep, h1, h2, _⟩ := p
    exact PySem.W.kia_one PySem.W.kitx_dict I.kIn ⟨o, h1, h2.1⟩ e (fun z => nomatch z) h
  | @dT a kvs ea =>
    cases (show u = Value.ref a from rx)
    obtain ⟨_, _, xs, _, o, es, ep, h1, h2, _⟩ := (show ObjOk X.prog X.w H s.heap a (.dT kvs) from I.hok a _ ea)
    exact PySem.W.kia_one PySem.W.kitx_dict I.kIn ⟨o, h1, h2.1⟩ e (fun z => nomatch z) h
  | @ins a C dx fs ea cl ha hn htk hm =>
    cases (show u = Value.ref a from rx)
    obtain ⟨mA, O, _⟩ := Zxp I.hok ea
    obtain ⟨od, J, _⟩ := O.look
    exact PySem.W.kia_one (PySem.W.kitx_own (cl.get _) cl.hd ha hn htk hm) I.kIn J e (fun z => nomatch z) h
end
end L2
namespace L2
open PySem PySem.Spec PyProof.Rows
structure Room (k : Nat) (A : Around) : Prop where
  hd : A.handled = none
  dp : A.depth + 3 * k + 5 < recursionLimit
  un : A.units + 16 * k + 200 < cLine
theorem Room.mono {j k : Nat} {A : Around} (r : Room k A) (h : j ≤ k) : Room j A := ⟨r.hd, by have := r.dp; omega, by have := r.un; omega⟩
theorem Room.deeper {k : Nat} {A : Around} (r : Room (k + 1) A) (env : Env) : Room k (A.deeper env) :=
  ⟨r.hd, by have := r.dp; show A.depth + 1 + 3 * k + 5 < _; omega, by have := r.un; show A.units + 3 + 16 * k + 200 < _; omega⟩
theorem Room.depth {k : Nat} {A : Around} (r : Room k A) : A.depth < recursionLimit := by have := r.dp; omega
theorem Room.units {k : Nat} {A : Around} (r : Room k A) : A.units + 64 < cLine := by have := r.un; omega
noncomputable def Z8w : TA := fun _ H Q => Q [] H
noncomputable def Z4m (ta : TE) (tr : TA) : TA := fun σ H Q => ta σ H fun x H1 => tr σ H1 fun xs H2 => Q (x :: xs) H2
section
variable {X : Cx} {e : Expr} {es : List Expr} {te : TE} {t : TA} {pos : Pos}
theorem Zd0 : PA X [] Z8w := fun _ _ _ _ H Q I h => Calls.spliced_nil ⟨[], H, I, .nil, h⟩
theorem Zaw (ha : PE X e te) (hr : PA X es t) (hs : starEach (e :: es) X.env = (false, eval e X.env) :: starEach es X.env := by rfl) : PA X (e :: es) (Z4m te t) := by
  intro pos pins s σ H Q I h
  rw [hs]
  show wpAny _ _ (spliced ((false, eval e X.env) :: backTo pos (starEach es X.env))) _ _ s
  refine Calls.spliced_cons (thn (ha pins s σ H _ I h) fun u s1 qz9 => ?_)
  obtain ⟨x, H1, I1, r1, q1⟩ := qz9
  refine thn (hr pos pins s1 σ H1 _ I1 q1) fun us s2 qz9 => ?_
  obtain ⟨xs, H2, I2, r2, q2⟩ := qz9
  exact ⟨x :: xs, H2, I2, .cons r1 r2, q2⟩
noncomputable def Z8k (t : TA) : TE := fun σ H Q => t σ H fun xs H1 => xs.length ≤ sizeLine ∧ ∀ p, H1 p = none → Q (.ref p) (upd H1 p (.tup xs))
noncomputable def Z81 (t : TA) : TE := fun σ H Q => t σ H fun xs H1 => xs.length ≤ sizeLine ∧ ∀ p, H1 p = none → Q (.ref p) (upd H1 p (.lst xs))
theorem Z03 {x1} (h : PA X es t) : PE X (.Tuple es x1 pos) (Z8k t) := by
  intro pins s σ H Q I hq
  refine wpAny_Tuple_spliced (thn (h pos pins s σ H _ I hq) fun us s1 ⟨xs, H1, I1, r, z, q⟩ => ⟨by rw [← r.length]; exact z, ?_⟩)
  have hf : H1 s1.heap.objs.size = none := I1.hok.fresh (Nat.le_refl _)
  refine ⟨.ref s1.heap.objs.size, upd H1 s1.heap.objs.size (.tup xs), I1.laid (t' := s1.toks) (fun b u e => Heap.get?_push_of_some _ e) (Nat.le_refl _) ?_, rfl, q _ hf⟩
  exact ⟨z, us, r, ⟨_, Heap.get?_push_size _ rfl, rfl, _, rfl⟩⟩
theorem Zu3 (h : PA X es t) : PE X (.List es pos) (Z81 t) := by
  intro pins s σ H Q I hq
  refine wpAny_List_spliced (thn (h pos pins s σ H _ I hq) fun us s1 ⟨xs, H1, I1, r, z, q⟩ => ⟨by rw [← r.length]; exact z, ?_⟩)
  have hf : H1 s1.heap.objs.size = none := I1.hok.fresh (Nat.le_refl _)
  refine ⟨.ref s1.heap.objs.size, upd H1 s1.heap.objs.size (.lst xs), I1.laid (t' := s1.toks) (fun b u e => Heap.get?_push_of_some _ e) (Nat.le_refl _) ?_, rfl, q _ hf⟩
  exact ⟨z, us, 0, r, Heap.get?_push_size _ rfl⟩
end
noncomputable abbrev Sp := List V → Hp → VK → XK → Prop
noncomputable abbrev CXT := List Env → Hp → Shared → XK → Value → Shared → Prop
structure Z2c (P : Program) (w : World) (K : PySem.W.Frag) (mg : Str → Option Value) (base : Heap) (A : Around) (outer : List Env) (s : Shared) (H : Hp) : Prop where
  frames : A.frames = some outer
  mod : Mod K mg base
  bs : ∀ b o, base.get? b = some o → s.heap.get? b = some o ∧ H b = none
  bsz : base.objs.size ≤ s.heap.objs.size
  funs : s.heap.FunFrames base outer
  frf : ∀ b ∈ frs outer, H b = none
  hok : HOk P w H s.heap
  bare : AllBare s.gens
noncomputable def CE (outer : List Env) (P : Program) (w : World) (H : Hp) (s : Shared) (Q : VK) (u : Value) (s' : Shared) : Prop :=
  ∃ v H', s'.os = s.os ∧ AllBare s'.gens ∧ Un (frs outer) [] H H' s.heap s'.heap ∧ HOk P w H' s'.heap ∧ RelV v u ∧ Q v H'
noncomputable def CR (CX : CXT) (outer : List Env) (P : Program) (w : World) (H : Hp) (s : Shared) (Q : VK) (E : XK) (r : Result) (s' : Shared) : Prop :=
  match r with
  | .ok (.ret u) => CE outer P w H s Q u s'
  | .ok _ => False
  | .error e => CX outer H s E e s'
structure FnOk (P : Program) (w : World) (K : PySem.W.Frag) (mg : Str → Option Value) (base : Heap) (CX : CXT) (k : Nat) (f : Addr) (fd : FuncData) (ps : List Str) (sp : Sp) : Prop where
  len : ∀ vs H Q E, sp vs H Q E → vs.length = ps.length
  run : ∀ (A : Around) (outer : List Env) (s : Shared) (H : Hp) (args : Args) (us : List Value) (vs : List V) (Q : VK) (E : XK), Room k A → Z2c P w K mg base A outer s H → BindsTo s fd args (ps.zip us) → Vals vs us → sp vs H Q E →
    codeAny (model P w) A (.call (.ref f) args) (CR CX outer P w H s Q E) s
theorem FnOk.imp {P : Program} {w : World} {K : PySem.W.Frag} {mg : Str → Option Value} {base : Heap} {CX : CXT} {k : Nat} {f : Addr} {fd : FuncData} {ps : List Str} {sp sp' : Sp} (F : FnOk P w K mg base CX k f fd ps sp)
    (h : ∀ vs H Q E, sp' vs H Q E → sp vs H Q E) : FnOk P w K mg base CX k f fd ps sp' :=
  ⟨fun vs H Q E q => F.len vs H Q E (h _ _ _ _ q), fun A outer s H args us vs Q E hr he hb hv hs => F.run A outer s H args us vs Q E hr he hb hv (h _ _ _ _ hs)⟩
section
variable {X : Cx} {pins : List (Addr × Obj)} {σ : St} {H : Hp} {s s' : Shared}
theorem Inv.env0 (I : Inv X pins σ H s) : Z2c X.prog X.w X.K X.mg X.base X.A X.stack s H :=
  ⟨I.ok.frames, I.ok.mod, I.bs, Nat.le_trans I.ok.bsz I.sz, I.stack, I.stkFree, I.hok, I.bare⟩
theorem Inv.after {Q : VK} {u : Value} (I : Inv X pins σ H s) (h : CE X.stack X.prog X.w H s Q u s') : EP X pins σ Q u s' := by
  obtain ⟨v, H', os, bare, un, hok, r, q⟩ := h
  obtain ⟨hh, g, d, t, os'⟩ := s'
  obtain rfl : os' = s.os := os
  exact ⟨v, H', I.call (h' := hh) (g' := g) (d' := d) (t' := t) (ch := []) un hok bare (fun b z => absurd z (by simp)), r, q⟩
end
noncomputable def Zv3 (sp : Sp) (dvs : List V) (E : XK) (t : TA) : TE := fun σ H Q => t σ H fun vs H1 => sp (vs ++ dvs) H1 Q E
noncomputable def Binds (K : PySem.W.Frag) (fd : FuncData) (ps : List Str) (ds : List Value) : Prop :=
  ∀ (s : Shared) (us : List Value), K.In s.heap → (us ++ ds).length = ps.length → BindsTo s fd ⟨us, []⟩ (ps.zip (us ++ ds))
theorem Binds.all {K : PySem.W.Frag} {fd : FuncData} {ps : List Str} (h : ∀ us : List Value, us.length = ps.length → bindArgs fd ⟨us, []⟩ = pure (ps.zip us)) : Binds K fd ps [] := fun s us _ hl => by
  rw [List.append_nil] at hl ⊢
  exact .of_eq (h us hl)
noncomputable def Zj3 (CX : CXT) (X : Cx) (E : XK) : Prop := ∀ (pins : List (Addr × Obj)) (σ : St) (H : Hp) (s : Shared) (e : Value) (s' : Shared), Inv X pins σ H s → CX X.stack H s E e s' → X.xe e s'
section
variable {X : Cx} {CX : CXT} {k : Nat} {f C : Addr} {fd : FuncData} {ps : List Str} {sp : Sp} {dvs : List V} {ds : List Value} {E : XK} {x m : Str} {p pos apos : Pos} {e o : Expr} {es : List Expr} {ta : TE} {t : TA}
theorem Z1j {pins : List (Addr × Obj)} {σ : St} {H : Hp} {s : Shared} {Q : VK} {us : List Value} {vs : List V} (F : FnOk X.prog X.w X.K X.mg X.base CX k f fd ps sp) (hr : Room k X.A) (hb : Binds X.K fd ps ds) (hd : Vals dvs ds) (hx : Zj3 CX X E)
    (I : Inv X pins σ H s) (r : Vals vs us) (h : sp (vs ++ dvs) H Q E) : wpAny (model X.prog X.w) X.A (call (.ref f) us) (EP X pins σ Q) X.xe s := by
  have r2 : Vals (vs ++ dvs) (us ++ ds) := r.append hd
  have hl : (us ++ ds).length = ps.length := by rw [← r2.length]; exact F.len _ _ _ _ h
  refine wpAny_call (codeAny_mono (F.run X.A X.stack s H ⟨us, []⟩ (us ++ ds) (vs ++ dvs) Q E hr I.env0 (hb s us I.kIn hl) r2 h) fun r s' hq => ?_)
  cases r with
  | error e => exact hx pins σ H s e s' I hq
  | ok fl =>
    cases fl with
    | ret u => exact I.after hq
    | next => exact False.elim hq
    | brk => exact False.elim hq
    | cont => exact False.elim hq
theorem Zp3 (F : FnOk X.prog X.w X.K X.mg X.base CX k f fd ps sp) (hr : Room k X.A) (hg : Gl X x) (hm : X.mg x = some (.ref f)) (hk : PySem.W.keepIn X.K (.ref f) = true) (hb : Binds X.K fd ps ds) (hd : Vals dvs ds) (hx : Zj3 CX X E)
    (ha : PA X (e :: es) t) (hdb : (x == ("__debug__" : Str)) = false := by decide) (he : starEach (e :: es) X.env = (false, eval e X.env) :: starEach es X.env := by rfl) (hpl : (backTo pos (starEach es X.env)).any (·.1) = false := by rfl) :
    PE X (.Call (.Name x p) (e :: es) [] pos) (Zv3 sp dvs E t) := by
  intro pins s σ H Q I h
  refine wpAny_Call_Name_kw (Zxn I hg hm ?_ hdb)
  refine PySem.W.callWith_K (h₀ := X.base) I.ok.mod.kin hk (thn (ha pos pins s σ H _ I h) fun us s1 qz9 => ?_) he hpl
  obtain ⟨vs, H1, I1, r, q⟩ := qz9
  refine ⟨I1.kIn, ?_⟩
  exact Z1j F hr hb hd hx I1 r q
structure Mk (K : PySem.W.Frag) (C f : Addr) : Prop where
  makes : PySem.W.makesIn K C = true
  init : PySem.W.findIn K (.ref C) "__init__" = some (some (.ref f))
  fn : PySem.W.isFn K (.ref f) = true
  kp : PySem.W.keepIn K (.ref C) = true
end
section
variable {X : Cx} {CX : CXT} {k : Nat} {f C : Addr} {fd : FuncData} {ps ks : List Str} {sp : Sp} {E : XK} {x m : Str} {p pos apos kpos : Pos} {e o : Expr} {es : List Expr} {kws : List Keyword} {te ta : TE} {t tk : TA} {nm : Option Str}
structure Z6g (K : PySem.W.Frag) (fd : FuncData) (ps ks : List Str) (g : List Value → List Value → List Value) (gV : List V → List V → List V) : Prop where
  to : ∀ (s : Shared) (us ws : List Value), K.In s.heap → (g us ws).length = ps.length → BindsTo s fd ⟨us, ks.zip ws⟩ (ps.zip (g us ws))
  rel : ∀ {vs : List V} {us : List Value} {zs : List V} {ws : List Value}, Vals vs us → Vals zs ws → Vals (gV vs zs) (g us ws)
variable {g : List Value → List Value → List Value} {gV : List V → List V → List V}
end
structure Zv (N P : List Str) (sc : Scope) : Prop where
  kind : sc.kind = .function
  co : sc.isCoroutine = false
  gen : sc.isGenerator = false
  nd : N.Nodup
  pre : N.take P.length = P
  par : ∀ x ∈ P, sc.names.lookup x = some .local ∨ sc.names.lookup x = some .cell
  nofree : ∀ y ∈ sc.names, y.2 ≠ .free
theorem Zkv {kindOf : Str → Option NameKind} {x : Str} : ∀ {binds : List (Str × Value)} {m : Str → Option Value}, (∀ v, (x, v) ∉ binds) → bindL kindOf binds m x = m x
  | [], _, _ => rfl
  | (n, v) :: r, m, h => by
    unfold bindL
    rw [Zkv fun w hw => h w (List.mem_cons_of_mem _ hw)]
    split
    · have : x ≠ n := by rintro rfl; exact h v List.mem_cons_self
      simp [this]
    · rfl
theorem Zkt {kindOf : Str → Option NameKind} {x : Str} : ∀ {binds : List (Str × Value)} {m : Str → Option Value}, (∀ v, (x, v) ∉ binds) → bindC kindOf binds m x = m x
  | [], _, _ => rfl
  | (n, v) :: r, m, h => by
    unfold bindC
    rw [Zkt fun w hw => h w (List.mem_cons_of_mem _ hw)]
    split
    · rfl
    · have : x ≠ n := by rintro rfl; exact h v List.mem_cons_self
      simp [this]
theorem Zj7 {kindOf : Str → Option NameKind} {x : Str} {v : Value} : ∀ {P : List Str} {vs : List Value} {i : Nat} {m : Str → Option Value}, P.Nodup → P[i]? = some x → vs[i]? = some v → kindOf x = some .local →
    bindL kindOf (P.zip vs) m x = some v
  | [], _, _, _, _, h, _, _ => by simp at h
  | _ :: _, [], _, _, _, _, h, _ => by simp at h
  | p :: P, w :: vs, 0, m, nd, h1, h2, hk => by
    simp at h1 h2; subst h1; subst h2
    show bindL kindOf ((p, w) :: P.zip vs) m p = _
    unfold bindL
    rw [Zkv fun v hv => (List.nodup_cons.mp nd).1 (List.of_mem_zip hv).1, if_pos hk]
    simp
  | p :: P, w :: vs, i + 1, m, nd, h1, h2, hk => by
    show bindL kindOf ((p, w) :: P.zip vs) m x = _
    unfold bindL
    exact Zj7 (i := i) (List.nodup_cons.mp nd).2 (by simpa using h1) (by simpa using h2) hk
theorem Zk7 {kindOf : Str → Option NameKind} {x : Str} {v : Value} : ∀ {P : List Str} {vs : List Value} {i : Nat} {m : Str → Option Value}, P.Nodup → P[i]? = some x → vs[i]? = some v → kindOf x ≠ some .local →
    bindC kindOf (P.zip vs) m x = some v
  | [], _, _, _, _, h, _, _ => by simp at h
  | _ :: _, [], _, _, _, _, h, _ => by simp at h
  | p :: P, w :: vs, 0, m, nd, h1, h2, hk => by
    simp at h1 h2; subst h1; subst h2
    show bindC kindOf ((p, w) :: P.zip vs) m p = _
    unfold bindC
    rw [Zkt fun v hv => (List.nodup_cons.mp nd).1 (List.of_mem_zip hv).1, if_neg hk]
    simp
  | p :: P, w :: vs, i + 1, m, nd, h1, h2, hk => by
    show bindC kindOf ((p, w) :: P.zip vs) m x = _
    unfold bindC
    exact Zk7 (i := i) (List.nodup_cons.mp nd).2 (by simpa using h1) (by simpa using h2) hk
noncomputable def start (N : List Str) (vs : List V) : St := vs.map some ++ List.replicate (N.length - vs.length) none
noncomputable def Zrl (CX : CXT) (P : Program) (w : World) (K : PySem.W.Frag) (mg : Str → Option Value) (base : Heap) (N : List Str) (qual : Str) (scope : Scope) (f : Addr) (cd : Value) (A : Around) (outer : List Env) (s : Shared) (H : Hp) (E : XK) : Cx where
  prog := P
  w := w
  K := K
  mg := mg
  base := base
  A := A.deeper (envOfC qual scope s.heap.objs.size f cd)
  N := N
  s₀ := s
  H₀ := H
  env := envOfC qual scope s.heap.objs.size f cd
  outer := outer
  stack := envOfC qual scope s.heap.objs.size f cd :: outer
  ex := []
  calm := true
  fn := fun _ => true
  pn := []
  xe := fun e s' => wpAny (model P w) (A.deeper (envOfC qual scope s.heap.objs.size f cd)) (leaving (envOfC qual scope s.heap.objs.size f cd) e) (fun _ s'' => CX outer H s E e s'') (fun e' s'' => CX outer H s E e' s'') s'
theorem Zm1 {sc : Scope} {n : Nat} {x : Str} (h : sc.names.lookup x = some .cell) : ∃ c, (cellsFrom n sc.names []).lookup x = some c := by
  have q := PySem.W.cellsFrom_some sc.names n [] (.inl h)
  exact Option.isSome_iff_exists.mp q
theorem Zq6 {CX : CXT} {P : Program} {w : World} {K : PySem.W.Frag} {mg : Str → Option Value} {base : Heap} {N ps : List Str} {qual : Str} {scope : Scope} {f : Addr} {cd : Value} {A : Around} {outer : List Env} {s s1 : Shared} {H : Hp} {E : XK} {us : List Value} {vs : List V}
    (S : Zv N ps scope) (hd : A.handled = none) (e0 : Z2c P w K mg base A outer s H) (hl : vs.length = ps.length) (r : Vals vs us)
    (x : InCallC s s.heap.objs.size (bindL (envOfC qual scope s.heap.objs.size f cd).kindOf (ps.zip us) fun _ => none) (cellsFrom (s.heap.objs.size + 1) scope.names []) (bindC (envOfC qual scope s.heap.objs.size f cd).kindOf (ps.zip us) fun _ => none) s1) :
    Inv (Zrl CX P w K mg base N qual scope f cd A outer s H E) [] (start N vs) H s1 := by
  have hpl : ps.length ≤ N.length := by have := congrArg List.length S.pre; rw [List.length_take] at this; omega
  obtain ⟨h1, tk, rfl, hk⟩ := x.done
  have noA : ∀ b : Addr, b ∉ (Zrl CX P w K mg base N qual scope f cd A outer s H E).ex := fun b z => absurd (show b ∈ ([] : List Addr) from z) (by simp)
  refine ⟨⟨e0.mod, S.kind, rfl, rfl, Nat.le_refl _, fun y z c h1 h2 => ?_, fun y hy => ?_, fun y c _ h => ?_, fun _ => hd, Around.frames_deeper e0.frames, .inr ⟨rfl, rfl⟩, fun b z => absurd z (noA b), e0.bs, e0.bsz, fun b _ _ => noA b, fun b z => absurd z (noA b), e0.funs, e0.frf⟩,
    rfl, e0.bare, Un.kept hk, ⟨_, x.toInCall.ns, fun i y v h1 h2 h3 => ?_⟩, fun y c h => ⟨_, x.cell y c h⟩, e0.hok.fresh (Nat.le_refl _), fun y c h => ?_, fun p hp => absurd (show p ∈ ([] : List (Addr × Obj)) from hp) (by simp), e0.hok.kept hk, ?_⟩
  · exact name_of_addr x.apart (PySem.mem_of_lookup h1) (PySem.mem_of_lookup h2)
  · have hy : scope.names.lookup y = some .cell ∨ scope.names.lookup y = some .free := hy
    rcases hy with hy | hy
    · exact Zm1 hy
    · exact absurd rfl (S.nofree _ (PySem.mem_of_lookup hy))
  · exact Nat.le_of_lt (x.above y c (PySem.mem_of_lookup h))
  · have hi : i < vs.length := by
      unfold start at h2
      by_cases hi : i < vs.length
      · exact hi
      · rw [List.getElem?_append_right (by simpa using hi)] at h2
        rw [List.getElem?_replicate] at h2
        split at h2 <;> cases h2
    have ha : vs[i]? = some v := by
      unfold start at h2
      rw [List.getElem?_append_left (by simpa using hi), List.getElem?_map] at h2
      cases e : vs[i]? with
      | none => rw [e] at h2; cases h2
      | some a => rw [e] at h2; cases h2; rfl
    obtain ⟨u, hu, rv⟩ := r.get ha
    have hp : ps[i]? = some y := by
      rw [← S.pre, List.getElem?_take_of_lt (by omega)]; exact h1
    have ndP : ps.Nodup := by rw [← S.pre]; exact S.nd.sublist (List.take_sublist _ _)
    refine ⟨u, rv, ?_⟩
    rcases S.par y (List.mem_of_getElem? hp) with k | k
    · exact .inl ⟨k, Zj7 ndP hp hu k⟩
    · obtain ⟨c, e⟩ := Zm1 (n := s.heap.objs.size + 1) k
      refine .inr ⟨.inl k, c, e, ?_⟩
      have q := x.cell y c e
      rw [Zk7 ndP hp hu (by show scope.names.lookup y ≠ _; rw [k]; decide)] at q
      exact q
  · exact e0.hok.fresh (Nat.le_of_lt (x.above y c (PySem.mem_of_lookup h)))
  · unfold start
    show _ = N.length
    rw [List.length_append, List.length_map, List.length_replicate]
    omega
theorem Z3y {CX : CXT} {P : Program} {w : World} {K : PySem.W.Frag} {mg : Str → Option Value} {base : Heap} {k : Nat} {f : Addr} {name qual : Str} {params : Arguments} {body : List Stmt} {scope : Scope} {dV kV doc pm cdv ct oc : Value} {an od : Option Addr}
    {osl : Array (Option Value)} {N ps : List Str} {sp : Sp} (lk : K.lookup f = some ⟨oc, od, .func (PySem.W.fnOf name qual params body scope dV kV doc pm an cdv ct), osl⟩) (hcd : PySem.W.codeIn K cdv qual = true) (S : Zv N ps scope)
    (len : ∀ vs H Q E, sp vs H Q E → vs.length = ps.length)
    (hbody : ∀ (A : Around) (outer : List Env) (s : Shared) (H : Hp) (vs : List V) (Q : VK) (E : XK), Room k (A.deeper (envOfC qual scope s.heap.objs.size f cdv)) → sp vs H Q E →
      ∃ t, PSs (Zrl CX P w K mg base N qual scope f cdv A outer s H E) body t ∧ t { nx := fun _ H' => Q .non H', rt := Q } (start N vs) H) :
    FnOk P w K mg base CX (k + 1) f (PySem.W.fnOf name qual params body scope dV kV doc pm an cdv ct) ps sp := by
  refine ⟨len, fun A outer s H args us vs Q E hr e0 hb r hsp => ?_⟩
  have hl := len _ _ _ _ hsp
  have KX : K.In s.heap := e0.mod.kin.keeps fun b o e => (e0.bs b o e).1
  have lim : s.heap.NoLimit := e0.mod.nolimit.keeps fun b o e => (e0.bs b o e).1
  have hkind : ∀ y ∈ ps.zip us, scope.names.lookup y.1 = some .local ∨ (scope.names.lookup y.1 = some .cell ∧ ((cellsFrom (s.heap.objs.size + 1) scope.names []).lookup y.1).isSome = true) := fun ⟨n, v⟩ hy => by
    rcases S.par n (List.of_mem_zip hy).1 with q | q
    · exact .inl q
    · exact .inr ⟨q, PySem.W.cellsFrom_some _ _ _ (.inl q)⟩
  refine codeAny_call_function hr.depth (KX _ _ lk) rfl S.co S.gen rfl (PySem.W.codeRec_of KX hcd) (hb _ _ _ _ ?_)
  refine wpAny_newFunctionEnv_cells S.kind hkind fun env he s1 x => ?_
  subst he
  refine ⟨lim.keeps x.toInCall.keep, codeAny_func ?_⟩
  obtain ⟨t, ht, hq⟩ := hbody A outer s H vs Q E (hr.deeper _) hsp
  have I : Inv (Zrl CX P w K mg base N qual scope f cdv A outer s H E) [] (start N vs) H s1 := Zq6 S hr.hd e0 hl r x
  refine wpAny_mono (ht [] s1 (start N vs) H _ I hq) (fun fl s' hs => ?_) fun e s' hs => hs
  have fin : ∀ {σ' : St} {H' : Hp} {v : V} {u : Value}, Inv (Zrl CX P w K mg base N qual scope f cdv A outer s H E) [] σ' H' s' → RelV v u → Q v H' → CE outer P w H s Q u s' :=
    fun {σ' H' v u} J rv q => ⟨v, H', J.os, J.bare, J.base, J.hok, rv, q⟩
  cases fl with
  | ret u =>
    obtain ⟨v, σ', H', J, rv, q⟩ := hs
    exact fin J rv q
  | next =>
    obtain ⟨σ', H', J, q⟩ := hs
    exact fin (v := V.non) (u := Value.none) J rfl q
  | brk =>
    obtain ⟨_, _, _, q⟩ := hs
    exact False.elim q
  | cont =>
    obtain ⟨_, _, _, q⟩ := hs
    exact False.elim q
end L2
namespace L2
open PySem PySem.Spec PyProof.Rows
section
variable {X : Cx} {x : Str} {p pos : Pos} {e : Expr} {es : List Expr} {t : TA} {id T : String} {r : List V → Hp → VK → Prop}
noncomputable def tCB (r : List V → Hp → VK → Prop) (t : TA) : TE := fun σ H Q => t σ H fun vs H1 => r vs H1 Q
theorem Zhz (hc : Zdm X (.builtin id) r) (hg : Gl X x) (hm : X.mg x = none) (hv : bootBuiltins x = some (.builtin id)) (ha : PA X (e :: es) t) (hn : x ≠ "__name__" := by decide) (hdb : (x == ("__debug__" : Str)) = false := by decide)
    (he : starEach (e :: es) X.env = (false, eval e X.env) :: starEach es X.env := by rfl) (hpl : (backTo pos (starEach es X.env)).any (·.1) = false := by rfl) : PE X (.Call (.Name x p) (e :: es) [] pos) (tCB r t) := by
  intro pins s σ H Q I h
  refine wpAny_Call_Name_kw (Zhd I hg hm hv ?_ hn hdb)
  refine PyProof.Rows.callWith_builtin1 (thn (ha pos pins s σ H _ I h) fun us s1 qz9 => ?_) he hpl
  obtain ⟨vs, H1, I1, r1, q1⟩ := qz9
  exact hc pins s1 σ H1 vs us Q I1 r1 q1
theorem Zdz (hc : Zdm X (.type T) r) (hg : Gl X x) (hm : X.mg x = none) (hv : bootBuiltins x = some (.type T)) (ha : PA X (e :: es) t) (hn : x ≠ "__name__" := by decide) (hdb : (x == ("__debug__" : Str)) = false := by decide)
    (he : starEach (e :: es) X.env = (false, eval e X.env) :: starEach es X.env := by rfl) (hpl : (backTo pos (starEach es X.env)).any (·.1) = false := by rfl) : PE X (.Call (.Name x p) (e :: es) [] pos) (tCB r t) := by
  intro pins s σ H Q I h
  refine wpAny_Call_Name_kw (Zhd I hg hm hv ?_ hn hdb)
  refine PyProof.Rows.callWith_type1 (thn (ha pos pins s σ H _ I h) fun us s1 qz9 => ?_) he hpl
  obtain ⟨vs, H1, I1, r1, q1⟩ := qz9
  exact hc pins s1 σ H1 vs us Q I1 r1 q1
end
end L2
namespace HT
open PySem PyProof.Rows
section
open PySem.SeqAt
open PySem.AutoSeq1 (wpAny_loadPart')
open PySem.MeetsSeq PySem.MeetsSeq2 PySem.MeetsSeq3
end
section
variable {prog : Program} {w : World} {A : Around} {E : Value → Shared → Prop} {s : Shared}
noncomputable def sIx (n d : Nat) : Option Int → Nat
  | none => d
  | some v => if v < 0 then (v + (n : Int)).toNat else min v.toNat n
theorem sIx_none (n d : Nat) : sIx n d none = d := rfl
theorem sIx_nat (n d k : Nat) : sIx n d (some (k : Int)) = min k n := by
  show (if (k : Int) < 0 then ((k : Int) + (n : Int)).toNat else min (k : Int).toNat n) = min k n
  rw [if_neg (by omega), Int.toNat_natCast]
end
end HT
namespace L2
open PySem PySem.Spec PyProof.Rows
noncomputable abbrev TO := St → Hp → (Option Int → Hp → Prop) → Prop
noncomputable def PO (X : Cx) (e : Option Expr) (t : TO) : Prop :=
  ∀ (pins : List (Addr × Obj)) (s : Shared) (σ : St) (H : Hp) (Q : Option Int → Hp → Prop), Inv X pins σ H s → t σ H Q →
    wpAny (model X.prog X.w) X.A (evalPart e X.env) (fun u s' => ∃ o H', Inv X pins σ H' s' ∧ IsPart u o ∧ Q o H') X.xe s
noncomputable def Zwq : TO := fun _ H Q => Q none H
noncomputable def Z26 (t : TE) : TO := fun σ H Q => t σ H fun x H1 => ∃ i, x = .int i ∧ Q (some i) H1
section
variable {X : Cx} {e : Expr} {te : TE} {lo hi : Option Expr} {tl th : TO} {pos p2 : Pos}
theorem Zwp : PO X none Zwq := by
  intro pins s σ H Q I h
  rw [evalPart_none]
  exact wpAny_pure ⟨none, H, I, .none, h⟩
theorem Zw8 (h : PE X e te) : PO X (some e) (Z26 te) := by
  intro pins s σ H Q I hw
  rw [evalPart_some]
  refine thn (h pins s σ H _ I hw) fun u s1 qz9 => ?_
  obtain ⟨x, H1, I1, r1, q1⟩ := qz9
  obtain ⟨i, rfl, q⟩ := q1
  obtain ⟨t, rfl⟩ := r1
  exact ⟨some i, H1, I1, .int i t, q⟩
noncomputable def SlR (X : Cx) (r : V → Option Int → Option Int → Hp → VK → Prop) : Prop :=
  ∀ (pins : List (Addr × Obj)) (s : Shared) (σ : St) (H : Hp) (x : V) (v vl vu : Value) (lo hi : Option Int) (sl : Addr) (Q : VK), Inv X pins σ H s → RelV x v → s.heap.IsSliceOf sl vl vu .none → IsPart vl lo → IsPart vu hi → r x lo hi H Q →
    ∃ T id, typeLookup (.type T) "__getitem__" = pure (some (.builtin id)) ∧ s.TypeIs v T ∧ wpAny (model X.prog X.w) X.A (getItem v (.ref sl)) (EP X pins σ Q) X.xe s
noncomputable def tSl (r : V → Option Int → Option Int → Hp → VK → Prop) (te : TE) (tl th : TO) : TE := fun σ H Q => te σ H fun x H1 => tl σ H1 fun l H2 => th σ H2 fun u H3 => r x l u H3 Q
theorem Zti {r : V → Option Int → Option Int → Hp → VK → Prop} (hr : SlR X r) (he : PE X e te) (hl : PO X lo tl) (hu : PO X hi th) : PE X (.Subscript e (.Slice lo hi none p2) pos) (tSl r te tl th) := by
  intro pins s σ H Q I h
  refine Subscript_ (thn (he pins s σ H _ I h) fun v s1 qz9 => ?_)
  obtain ⟨x, H1, I1, r1, q1⟩ := qz9
  refine wpAny_Slice (thn (hl pins s1 σ H1 _ I1 q1) fun vl s2 qz9 => ?_)
  obtain ⟨l, H2, I2, pl, q2⟩ := qz9
  refine thn (hu pins s2 σ H2 _ I2 q2) fun vu s3 qz9 => ?_
  obtain ⟨u, H3, I3, pu, q3⟩ := qz9
  rw [evalPart_none]
  refine wpAny_pure ?_
  have I4 : Inv X pins σ H3 { s3 with heap := s3.heap.push { cls := .type "slice", data := .fields #[vl, vu, .none] } } := I3.kept (t' := s3.toks) fun b ob q => Heap.get?_push_of_some _ q
  obtain ⟨T, id, hT, ht, hg⟩ := hr pins { s3 with heap := s3.heap.push { cls := .type "slice", data := .fields #[vl, vu, .none] } } σ H3 x v vl vu l u s3.heap.objs.size Q I4 r1 (Heap.IsSliceOf.new ..) pl pu q3
  show wpAny (model X.prog X.w) X.A (subscriptTail e (.Slice lo hi none p2) v (.ref s3.heap.objs.size)) (EP X pins σ Q) X.xe { s3 with heap := s3.heap.push { cls := .type "slice", data := .fields #[vl, vu, .none] } }
  exact tail_any (ops := [.ref s3.heap.objs.size, v]) ht hT hg (by with_unfolding_all rfl)
noncomputable def Zx8 (xs : List V) (lo hi : Option Int) : List V := (xs.drop (HT.sIx xs.length 0 lo)).take (HT.sIx xs.length xs.length hi - HT.sIx xs.length 0 lo)
theorem Zly (xs : List V) (lo hi : Option Int) : (Zx8 xs lo hi).length ≤ xs.length := by
  unfold Zx8
  rw [List.length_take, List.length_drop]
  omega
end
end L2
namespace L2
open PySem PySem.Spec PyProof.Rows
noncomputable def ixN (n : Nat) (i : Int) : Option Nat := if 0 ≤ i then (if i < n then some i.toNat else none) else if -(n : Int) ≤ i then some (i + n).toNat else none
noncomputable def atI {α : Type} (xs : List α) (i : Int) : Option α := (ixN xs.length i).bind fun j => xs[j]?
theorem Zlb {n : Nat} {i : Int} {j : Nat} (h : ixN n i = some j) : seqIndex? i n = some j ∧ j < n ∧ -(n : Int) ≤ i ∧ i < n := by
  unfold ixN at h
  by_cases h0 : 0 ≤ i
  · rw [if_pos h0] at h
    by_cases h1 : i < n
    · rw [if_pos h1] at h
      have e : i.toNat = j := Option.some.inj h
      exact ⟨by rw [seqIndex_of h0 h1, e], by omega, by omega, h1⟩
    · rw [if_neg h1] at h; cases h
  · rw [if_neg h0] at h
    by_cases h1 : -(n : Int) ≤ i
    · rw [if_pos h1] at h
      have e : (i + n).toNat = j := Option.some.inj h
      exact ⟨by rw [seqIndex_neg (by omega) h1, e], by omega, h1, by omega⟩
    · rw [if_neg h1] at h; cases h
theorem Zlx {α : Type} {xs : List α} {i : Int} {v : α} (h : atI xs i = some v) : ∃ j, seqIndex? i xs.length = some j ∧ xs[j]? = some v ∧ j < xs.length ∧ -(xs.length : Int) ≤ i ∧ i < xs.length := by
  unfold atI at h
  cases e : ixN xs.length i with
  | none => rw [e] at h; cases h
  | some j =>
    rw [e] at h
    obtain ⟨h1, h2, h3, h4⟩ := Zlb e
    exact ⟨j, h1, h, h2, h3, h4⟩
theorem Zx4 {α : Type} {xs : List α} {j : Nat} {v : α} (h : xs[j]? = some v) : atI xs (j : Int) = some v := by
  have hj : j < xs.length := (List.getElem?_eq_some_iff.mp h).1
  have e : ixN xs.length (j : Int) = some j := by
    unfold ixN
    rw [if_pos (by omega), if_pos (by omega)]; simp
  unfold atI; rw [e]; exact h
theorem Zml {α : Type} (xs : List α) (v : α) : atI (xs ++ [v]) (-1) = some v := by
  have hl : (xs ++ [v]).length = xs.length + 1 := by simp
  have e : ixN (xs ++ [v]).length (-1) = some xs.length := by
    unfold ixN
    rw [hl, if_neg (by decide), if_pos (by omega)]
    congr 1
    omega
  unfold atI
  rw [e]
  show (xs ++ [v])[xs.length]? = some v
  simp
noncomputable def Zfo (b : Expr) : Prop := ∀ o i, subscripted b false o i = operate [o, i] (getItem o i)
noncomputable def IxR (X : Cx) (r : R2) : Prop :=
  ∀ (value slice : Expr) (pins : List (Addr × Obj)) (s : Shared) (σ : St) (H : Hp) (x y : V) (v u : Value) (Q : VK), Inv X pins σ H s → RelV x v → RelV y u → r x y H Q →
    subscripted slice false v u = operate [v, u] (getItem v u) → wpAny (model X.prog X.w) X.A (subscriptTail value slice v u) (EP X pins σ Q) X.xe s
noncomputable def MtR (X : Cx) (id : String) (r : V → List V → Hp → VK → Prop) : Prop :=
  ∀ (pins : List (Addr × Obj)) (s : Shared) (σ : St) (H : Hp) (x : V) (xs : List V) (v : Value) (us : List Value) (Q : VK), Inv X pins σ H s → RelV x v → Vals xs us → r x xs H Q →
    wpAny (model X.prog X.w) X.A (call (.builtin id) (v :: us)) (EP X pins σ Q) X.xe s
section
variable {X : Cx} {a b : Expr} {ta tb : TE} {pos : Pos}
theorem IxR.or {r r' : R2} (h : IxR X r) (h' : IxR X r') : IxR X (fun x y H Q => r x y H Q ∨ r' x y H Q) := by
  intro value slice pins s σ H x y v u Q I rx ry q hs
  rcases q with q | q
  · exact h value slice pins s σ H x y v u Q I rx ry q hs
  · exact h' value slice pins s σ H x y v u Q I rx ry q hs
theorem Zwx {r : R2} (hr : IxR X r) (ha : PE X a ta) (hb : PE X b tb) (hs : Zfo b) : PE X (.Subscript a b pos) (tOp r ta tb) := by
  intro pins s σ H Q I h
  exact Subscript_ (Z24 ha hb I h fun v u s2 x y H2 I2 rx ry q => hr a b pins s2 σ H2 x y v u Q I2 rx ry q (hs _ _))
noncomputable def Z4z (K : PySem.W.Frag) : R2 := fun x y H Q => ∃ p xs i v, x = .ref p ∧ y = .int i ∧ SqL K H p xs ∧ atI xs i = some v ∧ Q v H
noncomputable def Z5t (K : PySem.W.Frag) : R2 := fun x y H Q => ∃ p xs i v, x = .ref p ∧ y = .int i ∧ SqT K H p xs ∧ atI xs i = some v ∧ Q v H
noncomputable def Z5y : R2 := fun x y H Q => ∃ z i c, x = .str z ∧ y = .int i ∧ z.length ≤ sizeLine ∧ atI z.cps.toList i = some c ∧ Q (.str ⟨#[c]⟩) H
theorem Zrh : IxR X (Z4z X.K) := by
  intro value slice pins s σ H x y v u Q I rx ry h hs
  obtain ⟨p, xs, i, z, rfl, rfl, hq, he, q⟩ := h
  cases rx
  obtain ⟨t, rfl⟩ := ry
  obtain ⟨its, r, pl, hz⟩ := I.list hq
  obtain ⟨j, h1, h2, h3, h4, h5⟩ := Zlx he
  obtain ⟨w, ew, rw'⟩ := r.get h2
  have hl := r.length
  have hn := Zhk
  have fin : EP X pins σ Q w s := ⟨z, H, I, rw', q⟩
  by_cases h0 : 0 ≤ i
  · have hj : i.toNat = j := by
      rw [seqIndex_of h0 h5] at h1
      exact Option.some.inj h1
    exact item_listR pl.isList h0 (by omega) (by rw [hj]; simpa using ew) fin hs
  · have hj : (i + (its.toArray.size : Int)).toNat = j := by
      rw [seqIndex_neg (by omega) h4] at h1
      rw [List.size_toArray, ← hl]
      exact Option.some.inj h1
    exact subscriptTail_builtinR (x := w) pl.isList.typeIs slot_list_getitem.lookup
      (wpAny_getItem_list_neg (Q := fun r s' => r = w ∧ EP X pins σ Q r s') pl.isList (by omega) (by rw [List.size_toArray] <;> omega) (by omega) (by rw [hj]; simpa using ew) ⟨rfl, fin⟩) hs
theorem Z0r : IxR X (Z5t X.K) := by
  intro value slice pins s σ H x y v u Q I rx ry h hs
  obtain ⟨p, xs, i, z, rfl, rfl, hq, he, q⟩ := h
  cases rx
  obtain ⟨t, rfl⟩ := ry
  obtain ⟨its, r, pl, hz⟩ := I.tuple hq
  obtain ⟨j, h1, h2, h3, h4, h5⟩ := Zlx he
  obtain ⟨w, ew, rw'⟩ := r.get h2
  have hl := r.length
  have hn := Zhk
  have fin : EP X pins σ Q w s := ⟨z, H, I, rw', q⟩
  exact subscriptTail_builtinR (x := w) pl.typeIs slot_tuple_getitem.lookup
    (getItem_tuple (j := j) (Q := fun r s' => r = w ∧ EP X pins σ Q r s') pl (by omega) (by omega) (by rw [List.size_toArray, ← hl]; exact h1) (by simpa using ew) ⟨rfl, fin⟩) hs
theorem Zyi : IxR X Z5y := by
  intro value slice pins s σ H x y v u Q I rx ry h hs
  obtain ⟨z, i, c, rfl, rfl, hz, he, q⟩ := h
  obtain ⟨t, rfl⟩ := rx
  obtain ⟨t', rfl⟩ := ry
  obtain ⟨j, h1, h2, h3, h4, h5⟩ := Zlx he
  have hl : z.cps.toList.length = z.length := by simp [Str.length]
  rw [hl] at h1 h4 h5
  have hn := Zhk
  exact tail_any (typeIs_str s z t) slot_str_getitem.lookup (getItem_str (c := c) (by
    have e1 : decide (i < -(2 ^ 63 : Int)) = false := decide_eq_false (by omega)
    have e2 : decide (i ≥ 2 ^ 63) = false := decide_eq_false (by omega)
    rw [e1, e2, Bool.or_false]) (by rw [h1]; simpa using h2) ⟨.str ⟨#[c]⟩, H, I.tok _, ⟨_, rfl⟩, q⟩) hs
noncomputable def rIx (K : PySem.W.Frag) : R2 := fun x y H Q => Z4z K x y H Q ∨ Z5t K x y H Q ∨ Z5y x y H Q
theorem Zyr : IxR X (rIx X.K) := Zrh.or (Z0r.or Zyi)
theorem Znr (its : List Value) (n j : Nat) (u : Value) : Obj.mapSeq (·.setIfInBounds j u) { cls := .type "list", data := .seq its.toArray n } = { cls := .type "list", data := .seq (its.set j u).toArray n } := by
  simp [Obj.mapSeq]
theorem Inv.lst {pins : List (Addr × Obj)} {σ : St} {H : Hp} {s : Shared} {p : Addr} {xs : List V} (I : Inv X pins σ H s) (h : H p = some (.lst xs)) :
    ∃ (its : List Value) (n : Nat), Vals xs its ∧ s.heap.get? p = some { cls := .type "list", data := .seq its.toArray n } ∧ xs.length ≤ sizeLine := by
  obtain ⟨z, its, n, r, e⟩ := I.hok p _ h
  exact ⟨its, n, r, e, z⟩
theorem Inv.lstUpd {pins : List (Addr × Obj)} {σ : St} {H : Hp} {s : Shared} {p : Addr} {xs ys : List V} {its its' : List Value} {n n' : Nat} {f : Obj → Obj} (I : Inv X pins σ H s) (h : H p = some (.lst xs))
    (ho : s.heap.get? p = some { cls := .type "list", data := .seq its.toArray n }) (hf : f { cls := .type "list", data := .seq its.toArray n } = { cls := .type "list", data := .seq its'.toArray n' }) (r : Vals ys its') (hz : ys.length ≤ sizeLine) (t : Nat) :
    Inv X pins σ (upd H p (.lst ys)) { s with heap := s.heap.update p f, toks := t } := by
  have e : (s.heap.update p f).get? p = some { cls := .type "list", data := .seq its'.toArray n' } := by
    rw [Heap.get?_update_self f ho (by rw [hf] <;> rfl), hf]
  refine I.write (x := p) (e := p) (by rw [h]; trivial) (.inl rfl) (fun b u hb q => (Heap.get?_update_other _ _ (Ne.symm hb)).trans q) ⟨_, e⟩ ?_
  exact ⟨hz, its', n', r, e⟩
noncomputable def Z1f : V → V → V → Hp → (Hp → Prop) → Prop := fun o i v H Q => ∃ p xs k j, o = .ref p ∧ i = .int k ∧ H p = some (.lst xs) ∧ ixN xs.length k = some j ∧ Q (upd H p (.lst (xs.set j v)))
theorem set_list : Z7k X Z1f := by
  intro pins s σ H o i v ov iv u Q I ro ri rv h
  obtain ⟨p, xs, k, j, rfl, rfl, hp, hj, q⟩ := h
  cases ro
  obtain ⟨t, rfl⟩ := ri
  obtain ⟨its, n, r, ho, hz⟩ := I.lst hp
  obtain ⟨h1, h2, h3, h4⟩ := Zlb hj
  have hl := r.length
  have hn := Zhk
  have I' : Inv X pins σ (upd H p (.lst (xs.set j v))) { s with heap := s.heap.update p (Obj.mapSeq (·.setIfInBounds j u)) } :=
    I.lstUpd hp ho (Znr its n j u) (r.set rv j) (by rw [List.length_set]; exact hz) s.toks
  by_cases h0 : 0 ≤ k
  · have hk : k.toNat = j := by
      rw [seqIndex_of h0 h4] at h1
      exact Option.some.inj h1
    exact PySem.W.ki_setAt ho h0 (by omega) (by rw [List.size_toArray, ← hl]; exact h4) (by rw [hk]; exact ⟨_, I', q⟩)
  · have hk : (k + (its.toArray.size : Int)).toNat = j := by
      rw [seqIndex_neg (by omega) h3] at h1
      rw [List.size_toArray, ← hl]
      exact Option.some.inj h1
    exact PySem.W.ki_setBack ho (by omega) (by rw [List.size_toArray, ← hl]; exact h3) (by omega) (by rw [hk]; exact ⟨_, I', q⟩)
theorem Zk5 (lo hi : Option Int) (n : Nat) : (sliceBounds lo hi none n).1 = ((HT.sIx n 0 lo : Nat) : Int) ∧ (sliceBounds lo hi none n).2.1 = ((HT.sIx n n hi : Nat) : Int) ∧ (sliceBounds lo hi none n).2.2 = 1 := by
  refine ⟨?_, ?_, rfl⟩
  · cases lo with
    | none => simp [sliceBounds, HT.sIx]
    | some i =>
      simp only [sliceBounds, HT.sIx, Option.getD_none, show (1 : Int) > 0 by decide, if_true]
      by_cases h : i < 0
      · simp only [h, if_true] <;> omega
      · simp only [h, if_false] <;> omega
  · cases hi with
    | none => simp [sliceBounds, HT.sIx]
    | some i =>
      simp only [sliceBounds, HT.sIx, Option.getD_none, show (1 : Int) > 0 by decide, if_true]
      by_cases h : i < 0
      · simp only [h, if_true] <;> omega
      · simp only [h, if_false] <;> omega
theorem Zhs (its : List Value) (lo hi : Option Int) : slicePick its.toArray lo hi none = ((its.drop (HT.sIx its.length 0 lo)).take (HT.sIx its.length its.length hi - HT.sIx its.length 0 lo)).toArray := by
  obtain ⟨h1, h2, h3⟩ := Zk5 lo hi its.toArray.size
  unfold slicePick
  rw [h1, h2, h3]
  simp only [sliceRange_one, pick_run, List.size_toArray] <;> rfl
noncomputable def Z6f (K : PySem.W.Frag) : V → Option Int → Option Int → Hp → VK → Prop := fun x lo hi H Q => ∃ a xs, x = .ref a ∧ SqL K H a xs ∧ ∀ p, H p = none → Q (.ref p) (upd H p (.lst (Zx8 xs lo hi)))
theorem Zw5 : SlR X (Z6f X.K) := by
  intro pins s σ H x v vl vu lo hi sl Q I rx hs pl pu h
  obtain ⟨a, xs, rfl, hx, q⟩ := h
  cases rx
  obtain ⟨its, r, ht, hz⟩ := I.list hx
  have hlen := r.length
  refine ⟨"list", _, slot_list_getitem.lookup, ht.isList.typeIs, ?_⟩
  refine wpAny_getItem_list_slice ht.isList hs pl pu .none (by simp) ?_ (by rw [List.size_toArray] <;> omega)
  rw [Zhs, ← hlen]
  refine ⟨.ref s.heap.objs.size, _, I.laid (t' := s.toks) (o := .lst (Zx8 xs lo hi)) (fun b ob q => Heap.get?_push_of_some _ q) (Nat.le_refl _) ?_, rfl, q _ (I.hok.fresh (Nat.le_refl _))⟩
  exact ⟨Nat.le_trans (Zly xs lo hi) hz, _, 0, (r.drop (HT.sIx xs.length 0 lo)).take (HT.sIx xs.length xs.length hi - HT.sIx xs.length 0 lo), Heap.get?_push_size _ rfl⟩
noncomputable def Zgg : V → Bool
  | .non => true
  | .bl _ => true
  | .int _ => true
  | .str _ => true
  | _ => false
noncomputable def eqV : V → V → Bool
  | .non, .non => true
  | .bl a, .bl b => a == b
  | .bl a, .int b => (if a then 1 else 0) == b
  | .int a, .bl b => a == (if b then 1 else 0)
  | .int a, .int b => a == b
  | .str a, .str b => a == b
  | _, _ => false
theorem Z0c {A : Around} {s : Shared} {y x : V} {u v : Value} (ry : RelV y u) (rx : RelV x v) (fy : Zgg y = true) (fx : Zgg x = true) : SeqAt.EqAt A s u v (eqV y x) := by
  cases y with
  | non =>
    cases ry
    cases x with
    | non => cases rx; exact SeqAt.EqAt.same _
    | bl b => cases rx; exact SeqAt.EqAt.none_bool b
    | int b => obtain ⟨t, rfl⟩ := rx; exact SeqAt.EqAt.none_int b t
    | str b => obtain ⟨t, rfl⟩ := rx; exact SeqAt.EqAt.none_str b t
    | _ => exact absurd (show false = true from fx) Bool.false_ne_true
  | bl a =>
    cases ry
    cases x with
    | non => cases rx; exact SeqAt.EqAt.bool_none a
    | bl b => cases rx; exact SeqAt.EqAt.bool_bool a b
    | int b => obtain ⟨t, rfl⟩ := rx; exact SeqAt.EqAt.bool_int a b t
    | str b => obtain ⟨t, rfl⟩ := rx; exact SeqAt.EqAt.bool_str a b t
    | _ => exact absurd (show false = true from fx) Bool.false_ne_true
  | int a =>
    obtain ⟨t', rfl⟩ := ry
    cases x with
    | non => cases rx; exact SeqAt.EqAt.int_none a t'
    | bl b => cases rx; exact SeqAt.EqAt.int_bool a t' b
    | int b => obtain ⟨t, rfl⟩ := rx; exact SeqAt.EqAt.int_int a t' b t
    | str b => obtain ⟨t, rfl⟩ := rx; exact SeqAt.EqAt.int_str a t' b t
    | _ => exact absurd (show false = true from fx) Bool.false_ne_true
  | str a =>
    obtain ⟨t', rfl⟩ := ry
    cases x with
    | non => cases rx; exact SeqAt.EqAt.str_none a t'
    | bl b => cases rx; exact SeqAt.EqAt.str_bool a t' b
    | int b => obtain ⟨t, rfl⟩ := rx; exact SeqAt.EqAt.str_int a t' b t
    | str b => obtain ⟨t, rfl⟩ := rx; exact SeqAt.EqAt.str_str a t' b t
    | _ => exact absurd (show false = true from fx) Bool.false_ne_true
  | _ => exact absurd (show false = true from fy) Bool.false_ne_true
noncomputable def eqU (x : V) (u : Value) : Bool := match u with
  | .none => eqV .non x
  | .bool b => eqV (.bl b) x
  | .int i _ => eqV (.int i) x
  | .str z _ => eqV (.str z) x
  | _ => false
theorem Zum {x y : V} {u : Value} (r : RelV y u) (f : Zgg y = true) : eqU x u = eqV y x := by
  cases y with
  | non => cases r; rfl
  | bl b => cases r; rfl
  | int i => obtain ⟨t, rfl⟩ := r; rfl
  | str z => obtain ⟨t, rfl⟩ := r; rfl
  | _ => exact absurd (show false = true from f) Bool.false_ne_true
theorem Zis {x : V} {xs : List V} {us : List Value} (h : Vals xs us) (f : xs.all Zgg = true) : us.any (eqU x) = xs.any fun y => eqV y x := by
  induction h with
  | nil => rfl
  | cons r t ih =>
    rw [List.all_cons, Bool.and_eq_true] at f
    rw [List.any_cons, List.any_cons, Zum r f.1, ih f.2]
theorem Zff {A : Around} {s : Shared} {x : V} {v : Value} (rx : RelV x v) (fx : Zgg x = true) {xs : List V} {us : List Value} (h : Vals xs us) (f : xs.all Zgg = true) : ∀ u ∈ us, SeqAt.EqAt A s u v (eqU x u) := by
  induction h with
  | nil => intro u hu; cases hu
  | cons r t ih =>
    intro u' hu
    rw [List.all_cons, Bool.and_eq_true] at f
    rcases List.mem_cons.mp hu with rfl | hu
    · rw [Zum r f.1]; exact Z0c r rx f.1 fx
    · exact ih f.2 u' hu
noncomputable def inV (x : V) (xs : List V) : Bool := xs.any fun y => eqV y x
noncomputable def rIn (K : PySem.W.Frag) (neg : Bool) : R2 := fun x y H Q => ∃ p xs, y = .ref p ∧ (SqL K H p xs ∨ SqT K H p xs) ∧ Zgg x = true ∧ xs.all Zgg = true ∧ Q (.bl (if neg then !inV x xs else inV x xs)) H
theorem Zob : OpR X (compareOp .In) (rIn X.K false) := by
  intro pins s σ H x y v u Q I rx ry h
  obtain ⟨p, xs, rfl, hq, fx, fs, q⟩ := h
  cases ry
  rcases hq with hq | hq
  · obtain ⟨its, r, pl, hz⟩ := I.list hq
    refine SeqAt.in_listAt (eqU x) pl.isList (fun w hw => Zff rx fx r fs w (by simpa using hw)) ⟨.bl _, H, I, rfl, ?_⟩
    rw [show its.toArray.any (eqU x) = its.any (eqU x) by simp, Zis r fs]
    exact q
  · obtain ⟨its, r, pl, hz⟩ := I.tuple hq
    refine SeqAt.in_tupleAt (eqU x) pl (fun w hw => Zff rx fx r fs w (by simpa using hw)) ⟨.bl _, H, I, rfl, ?_⟩
    rw [show its.toArray.any (eqU x) = its.any (eqU x) by simp, Zis r fs]
    exact q
theorem Zkj : OpR X (compareOp .NotIn) (rIn X.K true) := by
  intro pins s σ H x y v u Q I rx ry h
  obtain ⟨p, xs, rfl, hq, fx, fs, q⟩ := h
  cases ry
  rcases hq with hq | hq
  · obtain ⟨its, r, pl, hz⟩ := I.list hq
    refine SeqAt.notIn_listAt (eqU x) pl.isList (fun w hw => Zff rx fx r fs w (by simpa using hw)) ⟨.bl _, H, I, rfl, ?_⟩
    rw [show its.toArray.any (eqU x) = its.any (eqU x) by simp, Zis r fs]
    exact q
  · obtain ⟨its, r, pl, hz⟩ := I.tuple hq
    refine SeqAt.notIn_tupleAt (eqU x) pl (fun w hw => Zff rx fx r fs w (by simpa using hw)) ⟨.bl _, H, I, rfl, ?_⟩
    rw [show its.toArray.any (eqU x) = its.any (eqU x) by simp, Zis r fs]
    exact q
theorem Zkm : Zdm X (.builtin "len") (fun xs H Q => ∃ p ys, xs = [.ref p] ∧ (SqL X.K H p ys ∨ SqT X.K H p ys) ∧ Q (.int ys.length) H) := by
  intro pins s σ H xs us Q I r h
  obtain ⟨p, ys, rfl, hq, q⟩ := h
  obtain ⟨u, rfl, rx⟩ := vals1 r
  cases rx
  have hn := Zhk
  rcases hq with hq | hq
  · obtain ⟨its, r', pl, hz⟩ := I.list hq
    have hlen := r'.length
    exact Calls.call_len_list pl.isList (by simp only [List.size_toArray] <;> omega) ⟨.int ys.length, H, I.tok _, ⟨s.toks + 1, by rw [List.size_toArray, hlen]⟩, q⟩
  · obtain ⟨its, r', pl, hz⟩ := I.tuple hq
    have hlen := r'.length
    exact len_tuple pl (by simp only [List.size_toArray] <;> omega) ⟨.int ys.length, H, I.tok _, ⟨s.toks + 1, by rw [List.size_toArray, hlen]⟩, q⟩
theorem Zkq : Zdm X (.type "list") (fun xs H Q => ∃ p ys, xs = [.ref p] ∧ (SqL X.K H p ys ∨ SqT X.K H p ys) ∧ ∀ l, H l = none → Q (.ref l) (upd H l (.lst ys))) := by
  intro pins s σ H xs us Q I r h
  obtain ⟨p, ys, rfl, hq, q⟩ := h
  obtain ⟨u, rfl, rx⟩ := vals1 r
  cases rx
  have fin : ∀ (its : List Value), Vals ys its → ys.length ≤ sizeLine → ∀ (h' : Heap) (c' : Nat), (∀ b o', s.heap.get? b = some o' → h'.get? b = some o') →
      h'.get? s.heap.objs.size = some { cls := .type "list", dict := none, data := .seq its.toArray c', slots := #[] } → EP X pins σ Q (.ref s.heap.objs.size) { s with heap := h' } := fun its r' hz h' c' kp e =>
    ⟨.ref s.heap.objs.size, _, I.laid (t' := s.toks) kp (Nat.le_refl _) (show ObjOk X.prog X.w _ h' _ (.lst ys) from ⟨hz, its, c', r', e⟩), rfl, q _ (I.hok.fresh (Nat.le_refl _))⟩
  rcases hq with hq | hq
  · obtain ⟨its, r', pl, hz⟩ := I.list hq
    have hlen := r'.length
    obtain ⟨o, ho, hc, n, hd⟩ := pl.isList
    exact call_list_seq p (.inl rfl) ho hc hd (fun h' c' kp e => fin its r' hz h' c' kp e) (by simp only [List.size_toArray] <;> omega)
  · obtain ⟨its, r', pl, hz⟩ := I.tuple hq
    have hlen := r'.length
    obtain ⟨o, ho, hc, n, hd⟩ := pl
    exact call_list_seq p (.inr rfl) ho hc hd (fun h' c' kp e => fin its r' hz h' c' kp e) (by simp only [List.size_toArray] <;> omega)
noncomputable def tyV (K : PySem.W.Frag) (T : String) (x : V) (H : Hp) : Prop := match x with
  | .str _ => T = "str"
  | .int _ => T = "int"
  | .ref p => (T = "list" ∧ ∃ xs, SqL K H p xs) ∨ (T = "tuple" ∧ ∃ o, K.lookup p = some o ∧ o.cls = .type "tuple" ∧ o.dict = none) ∨
      (T = "dict" ∧ ((∃ kvs, H p = some (.dK kvs)) ∨ ∃ kvs, H p = some (.dT kvs))) ∨ (T = "set" ∧ ∃ S n, H p = some (.set S n))
  | _ => False
theorem Z0a {pins : List (Addr × Obj)} {σ : St} {H : Hp} {s : Shared} {T : String} {x : V} {v : Value} (I : Inv X pins σ H s) (r : RelV x v) (ty : tyV X.K T x H) :
    s.TypeIs v T ∧ ∀ a, v = .ref a → ∃ ob, s.heap.get? a = some ob ∧ ob.dict = none := by
  cases x with
  | str z =>
    obtain ⟨t, rfl⟩ := r
    cases (show T = "str" from ty)
    exact ⟨typeIs_str s z t, fun _ e => nomatch e⟩
  | int i =>
    obtain ⟨t, rfl⟩ := r
    cases (show T = "int" from ty)
    exact ⟨typeIs_int s i t, fun _ e => nomatch e⟩
  | ref p =>
    cases r
    rcases ty with ⟨rfl, xs, hq⟩ | ⟨rfl, o, hk, hc, hd⟩ | ⟨rfl, hk⟩ | ⟨rfl, S, n, hk⟩
    · obtain ⟨its, _, pl, _⟩ := I.list hq
      refine ⟨pl.isList.typeIs, fun a e => ?_⟩
      cases e
      obtain ⟨o, n, e, c, hd, _⟩ := pl
      exact ⟨o, e, hd⟩
    · refine ⟨⟨o, I.kIn p o hk, hc⟩, fun a e => ?_⟩
      cases e
      exact ⟨o, I.kIn _ o hk, hd⟩
    · have z : ∃ o, s.heap.get? p = some o ∧ o.ExactDict := by
        rcases hk with ⟨kvs, hk⟩ | ⟨kvs, hk⟩
        · obtain ⟨_, _, _, _, o, _, _, e, ex, _⟩ := I.hok p _ hk
          exact ⟨o, e, ex⟩
        · obtain ⟨_, _, _, _, o, _, _, e, ex, _⟩ := I.hok p _ hk
          exact ⟨o, e, ex⟩
      obtain ⟨o, e, ex⟩ := z
      refine ⟨⟨o, e, ex.1⟩, fun a e2 => ?_⟩
      cases e2
      exact ⟨o, e, ex.2.1⟩
    · obtain ⟨o, _, _, _, e, ex, _⟩ := I.hok p _ hk
      refine ⟨⟨o, e, ex.1⟩, fun a e2 => ?_⟩
      cases e2
      exact ⟨o, e, ex.2.1⟩
  | _ => exact False.elim ty
noncomputable def tBM (K : PySem.W.Frag) (T : String) (r : V → List V → Hp → VK → Prop) (to : TE) (t : TA) : TE := fun σ H Q => to σ H fun x H1 => tyV K T x H1 ∧ t σ H1 fun xs H2 => r x xs H2 Q
variable {o e : Expr} {es : List Expr} {to : TE} {t : TA} {name : Str} {apos cpos : Pos} {T id : String} {r : V → List V → Hp → VK → Prop}
theorem Zto (pa : PlainAttrs T) (slot : Slot T name id) (hty : typeOf (.builtin id) = pure (.type "method_descriptor")) (hm : MtR X id r) (ho : PE X o to) (ha : PA X (e :: es) t)
    (hbase : attributeBase o name X.env (eval o X.env) = eval o X.env := by rfl)
    (hfew : ((backTo cpos (starEach (e :: es) X.env)).all (fun x => !x.1) && (backToKw cpos (keywordEach [] X.env)).all (fun x => x.1.isSome)
      && decide ((e :: es).length + ([] : List Keyword).length + (if ([] : List Keyword).isEmpty then 0 else 1) < 30)) = true := by rfl)
    (hline : (apos.endLine == cpos.line) = true := by rfl) (hs : starEach (e :: es) X.env = (false, eval e X.env) :: starEach es X.env := by rfl) (hplain : (backTo cpos (starEach es X.env)).any (·.1) = false := by rfl) :
    PE X (.Call (.Attribute o name apos) (e :: es) [] cpos) (tBM X.K T r to t) := by
  intro pins s σ H Q I h
  refine wpAny_Call_method_late hbase hfew hline rfl (thn (ho pins s σ H _ I h) fun v s1 qz9 => ?_)
  obtain ⟨x, H1, I1, r1, ty, q1⟩ := qz9
  obtain ⟨h1, h2⟩ := Z0a I1 r1 ty
  refine ⟨T, id, pa, slot, hty, h1, h2, ?_⟩
  have hA := ha cpos pins s1 σ H1 _ I1 q1
  rw [hs] at hA ⊢
  refine Calls.callWith_builtin (by show (false || (backTo cpos (starEach es X.env)).any (·.1)) = false; rw [hplain] <;> rfl) (Calls.evalArgs_plain ?_)
  refine thn hA fun us s2 qz9 => ?_
  obtain ⟨vs, H2, I2, r2, q2⟩ := qz9
  exact hm pins s2 σ H2 x vs v us Q I2 r1 r2 q2
end
end L2
namespace L2
open PySem PySem.Spec PyProof.Rows
noncomputable def MtM (X : Cx) (id : String) (r : V → List V → Hp → VK → Prop) : Prop :=
  ∀ (pins : List (Addr × Obj)) (s : Shared) (σ : St) (H : Hp) (x : V) (xs : List V) (v : Value) (us : List Value) (Q : VK), Inv X pins σ H s → RelV x v → Vals xs us → r x xs H Q →
    wpAny (model X.prog X.w) X.A (call (.builtin id) (v :: us)) (EP X pins σ Q) X.xe s
theorem Vals.one {x : V} {us : List Value} (h : Vals [x] us) : ∃ u, us = [u] ∧ RelV x u := by
  cases h with
  | cons r t => cases t; exact ⟨_, rfl, r⟩
theorem Vals.zero : ∀ {us : List Value}, Vals [] us → us = []
  | _, .nil => rfl
theorem Vals.eraseIdx : ∀ {xs : List V} {us : List Value} (i : Nat), Vals xs us → Vals (xs.eraseIdx i) (us.eraseIdx i)
  | _, _, _, .nil => .nil
  | _, _, 0, .cons _ t => t
  | _, _, i + 1, .cons r t => .cons r (Vals.eraseIdx i t)
theorem Vals.rep {xs : List V} {us : List Value} (h : Vals xs us) : ∀ k : Nat, Vals (List.replicate k xs).flatten (List.replicate k us).flatten
  | 0 => .nil
  | k + 1 => by
    rw [List.replicate_succ, List.replicate_succ, List.flatten_cons, List.flatten_cons]
    exact Vals.append h (Vals.rep h k)
theorem Zj8 {α : Type} : ∀ (l : List α) (i : Nat), (l.eraseIdx i).length ≤ l.length
  | [], _ => Nat.le_refl _
  | _ :: _, 0 => Nat.le_succ _
  | _ :: r, i + 1 => Nat.succ_le_succ (Zj8 r i)
theorem foldl_rep (its : List Value) : ∀ (k : Nat) (acc : List Value),
    List.foldl (fun x1 x2 => x1 ++ x2) acc.toArray (List.replicate k its.toArray) = (acc ++ (List.replicate k its).flatten).toArray
  | 0, acc => by simp
  | k + 1, acc => by
    have e : acc.toArray ++ its.toArray = (acc ++ its).toArray := by simp
    have e2 : (acc ++ its) ++ (List.replicate k its).flatten = acc ++ (List.replicate (k + 1) its).flatten := by
      rw [List.replicate_succ, List.flatten_cons, List.append_assoc]
    rw [← e2, ← foldl_rep its k (acc ++ its), ← e, List.replicate_succ, List.foldl_cons]
section
variable {X : Cx} {pins : List (Addr × Obj)} {σ : St} {H : Hp} {s : Shared} {l b : Addr} {xs ys zs : List V}
theorem Inv.lset {its its' : List Value} {n : Nat} {f : Array Value → Array Value} {t' : Nat} (I : Inv X pins σ H s) (hH : H l = some (.lst xs))
    (e : s.heap.get? l = some { cls := .type "list", data := .seq its.toArray n }) (hf : f its.toArray = its'.toArray) (hv : Vals ys its') (hz : ys.length ≤ sizeLine) :
    Inv X pins σ (upd H l (.lst ys)) { s with heap := s.heap.update l (Obj.mapSeq f), toks := t' } := by
  have q := PySem.IsL.update e f
  rw [hf] at q
  refine I.write (x := l) (e := l) (by rw [hH]; exact trivial) (.inl rfl) (fun b' u hb hu => (Heap.get?_update_other s.heap (Obj.mapSeq f) (Ne.symm hb)).trans hu) ⟨_, q⟩ ?_
  exact ⟨hz, its', _, hv, q⟩
theorem Inv.lnew {its : List Value} {t' : Nat} (I : Inv X pins σ H s) (hv : Vals ys its) (hz : ys.length ≤ sizeLine) :
    Inv X pins σ (upd H s.heap.objs.size (.lst ys)) { s with heap := s.heap.push { cls := .type "list", data := .seq its.toArray }, toks := t' } :=
  I.laid (fun _ _ q => Heap.get?_push_of_some _ q) (Nat.le_refl _) ⟨hz, its, 0, hv, Heap.get?_push_size _ rfl⟩
theorem Inv.fresh (I : Inv X pins σ H s) : H s.heap.objs.size = none := I.hok.fresh (Nat.le_refl _)
theorem Inv.lstM (I : Inv X pins σ H s) (hH : H l = some (.lst xs)) : xs.length ≤ sizeLine ∧ ∃ (its : List Value) (n : Nat), Vals xs its ∧ xs.length = its.length ∧ s.heap.get? l = some { cls := .type "list", data := .seq its.toArray n } := by
  obtain ⟨z, its, n, r, e⟩ := I.hok l _ hH
  exact ⟨z, its, n, r, r.length, e⟩
theorem Zmk {n : Nat} (h : n ≤ sizeLine) : Builtin.List.listTooLong n = false := by
  unfold Builtin.List.listTooLong
  exact decide_eq_false (by omega)
end
section
variable {X : Cx}
noncomputable def Zv6 : V → List V → Hp → VK → Prop := fun x vs H Q => ∃ l xs y, x = .ref l ∧ vs = [y] ∧ H l = some (.lst xs) ∧ xs.length < sizeLine ∧ Q .non (upd H l (.lst (xs ++ [y])))
theorem Zj4 : MtM X "list.append" Zv6 := by
  intro pins s σ H x vs v us Q I rx rv h
  obtain ⟨l, xs, y, rfl, rfl, hH, hz, q⟩ := h
  cases rx
  obtain ⟨u, rfl, ru⟩ := rv.one
  obtain ⟨z, its, n, r, hl, e⟩ := I.lstM hH
  refine call_meets F.slot_list_append ⟨_, e, rfl⟩ F.entry_list_append (F.args_list_append_2 _ _) (PySem.list_append l its.toArray n u (by rw [List.size_toArray]; omega)) ⟨e, ?_⟩
  refine ⟨.non, _, I.lset (its' := its ++ [u]) hH e (by simp) (r.append (.cons ru .nil)) ?_, rfl, q⟩
  rw [List.length_append, List.length_singleton]
  omega
noncomputable def Zxi : V → List V → Hp → VK → Prop := fun x vs H Q => ∃ l b xs zs, x = .ref l ∧ vs = [.ref b] ∧ H l = some (.lst xs) ∧ H b = some (.lst zs) ∧ xs.length + zs.length ≤ sizeLine ∧ Q .non (upd H l (.lst (xs ++ zs)))
theorem Zp6 : MtM X "list.extend" Zxi := by
  intro pins s σ H x vs v us Q I rx rv h
  obtain ⟨l, b, xs, zs, rfl, rfl, hH, hB, hz, q⟩ := h
  cases rx
  obtain ⟨u, rfl, ru⟩ := rv.one
  cases ru
  obtain ⟨z, its, n, r, hl, e⟩ := I.lstM hH
  obtain ⟨z2, its2, n2, r2, hl2, e2⟩ := I.lstM hB
  have hsz : its.toArray.size + its2.toArray.size ≤ sizeLine := by rw [List.size_toArray, List.size_toArray]; omega
  have hlong : ¬ (!its.toArray.isEmpty && Builtin.List.listTooLong (its.toArray.size + its2.toArray.size)) = true := by
    rw [Zmk hsz, Bool.and_false]
    exact Bool.false_ne_true
  refine call_meets F.slot_list_extend ⟨_, e, rfl⟩ F.entry_list_extend (F.args_list_extend_2 _ _)
    (AutoSeq1.list_extend_list_list_0 l its.toArray n b its2.toArray n2 hlong (by rw [List.size_toArray]; omega) (by omega)) ⟨e, e2, ?_⟩
  refine ⟨.non, _, I.lset (its' := its ++ its2) hH e (by simp) (r.append r2) ?_, rfl, q⟩
  rw [List.length_append]
  omega
noncomputable def Z0m : V → List V → Hp → VK → Prop := fun x vs H Q => ∃ l xs i k y, x = .ref l ∧ vs = [.int i] ∧ H l = some (.lst xs) ∧ -(2 ^ 63) ≤ i ∧ i < 2 ^ 63 ∧ seqIndex? i xs.length = some k ∧ xs[k]? = some y ∧ Q y (upd H l (.lst (xs.eraseIdx k)))
theorem Zth : MtM X "list.pop" Z0m := by
  intro pins s σ H x vs v us Q I rx rv h
  obtain ⟨l, xs, i, k, y, rfl, rfl, hH, h1, h2, hk, hy, q⟩ := h
  cases rx
  obtain ⟨u, rfl, ru⟩ := rv.one
  obtain ⟨t, rfl⟩ := ru
  obtain ⟨z, its, n, r, hl, e⟩ := I.lstM hH
  obtain ⟨w, hw, rw'⟩ := r.get hy
  refine call_meets F.slot_list_pop ⟨_, e, rfl⟩ F.entry_list_pop (F.args_list_pop_2 _ _)
    (MeetsSeq.list_pop_at l its.toArray n i t k w (fitsIndex_both h1 h2) (by rw [List.size_toArray, ← hl]; exact hk) (by rw [← Array.getElem?_toList]; exact hw) (by rw [List.size_toArray]; omega)) ⟨e, ?_⟩
  refine ⟨y, _, I.lset (its' := its.eraseIdx k) hH e ?_ (r.eraseIdx k) ?_, rw', q⟩
  · show its.toArray.eraseIdxIfInBounds k = (its.eraseIdx k).toArray
    rw [List.eraseIdxIfInBounds_toArray]
  · have := Zj8 xs k
    omega
noncomputable def Z8m : R2 := fun x y H Q => ∃ l k xs, x = .ref l ∧ y = .int k ∧ H l = some (.lst xs) ∧ -(2 ^ 63) ≤ k ∧ k < 2 ^ 63 ∧ xs.length * k.toNat ≤ sizeLine ∧
  ∀ p, H p = none → Q (.ref p) (upd H p (.lst (List.replicate k.toNat xs).flatten))
theorem len_rep {α : Type} (xs : List α) (k : Nat) : (List.replicate k xs).flatten.length = k * xs.length := by
  induction k with
  | zero => simp
  | succ k ih => rw [List.replicate_succ, List.flatten_cons, List.length_append, ih, Nat.succ_mul, Nat.add_comm]
theorem Z1b : OpR X (binaryOp .Mult) Z8m := by
  intro pins s σ H x y v u Q I rx ry h
  obtain ⟨l, k, xs, rfl, rfl, hH, h1, h2, hz, q⟩ := h
  cases rx
  obtain ⟨t, rfl⟩ := ry
  obtain ⟨z, its, n, r, hl, e⟩ := I.lstM hH
  have hlen : its.toArray.size * k.toNat ≤ sizeLine := by rw [List.size_toArray, ← hl]; exact hz
  have hcap : ¬ its.toArray.size * k.toNat > (2 ^ 63 - 1) / 8 := by
    have : (sizeLine : Nat) ≤ (2 ^ 63 - 1) / 8 := by decide
    omega
  have hfit : ¬ (!Builtin.List.listFitsIndex k) = true := by
    rw [fitsIndex_both h1 h2]
    exact Bool.false_ne_true
  have hlong : ¬ Builtin.List.listTooLong (its.toArray.size * k.toNat) = true := by
    rw [Zmk hlen]
    exact Bool.false_ne_true
  have hnew : List.foldl (fun x1 x2 => x1 ++ x2) #[] (List.replicate (if its.toArray.isEmpty = true then 0 else k.toNat) its.toArray) = (List.replicate k.toNat its).flatten.toArray := by
    have f0 : ∀ m : Nat, List.foldl (fun x1 x2 => x1 ++ x2) #[] (List.replicate m its.toArray) = (List.replicate m its).flatten.toArray := fun m => by
      have := foldl_rep its m []
      rw [List.nil_append] at this
      exact this
    rw [f0]
    cases its with
    | nil => simp
    | cons a r' => rw [if_neg (by simp)]
  refine wpAny_binaryOp_repeat_ref (T := "list") (U := "int") (by decide) ⟨_, e, rfl⟩ (fun s' => typeIs_int s' k t) noFill_list_mul F.fills_int_mul F.slot_int_rmul repeat_list F.slot_int_index.lookup
    (call_meets F.slot_int_rmul (typeIs_int s k t) F.entry_int_rmul (F.args_int_rmul_2 _ _) (int___rmul___int_list k t l its.toArray n)
      ⟨e, rfl, ⟨_, e, rfl⟩, call_meets F.slot_list_mul ⟨_, e, rfl⟩ F.entry_list_mul (F.args_list_mul_2 _ _) (AutoListH.list___mul___list_int_3 l its.toArray n k t hfit hcap hlong) ⟨e, ?_⟩⟩)
  rw [hnew]
  exact ⟨.ref _, _, I.lnew (t' := s.toks) (r.rep k.toNat) (by rw [len_rep, Nat.mul_comm]; exact hz), rfl, q _ I.fresh⟩
end
section
variable {prog : Program} {w : World} {A : Around} {E : Value → Shared → Prop} {s : Shared}
end
section
variable {X : Cx}
end
end L2
namespace Att
open PySem PySem.W PySem.Calls PyProof.Rows
theorem Zfn {P : Params} {h : Heap} : ∀ (ns : List Int) (vs : List Value), WellAll P h vs (ns.map WData.int) → IntsAre vs ns := by
  intro ns
  induction ns with
  | nil =>
    intro vs w
    rw [List.map_nil] at w
    cases w
    exact .nil
  | cons n ns ih =>
    intro vs w
    rw [List.map_cons] at w
    cases w with
    | cons a b =>
      cases a
      exact .cons _ _ (ih _ b)
theorem Zq1 {l : OpenLaw} {n : Nat} (hn : l.most = some n) {P : Params} {h : Heap} {args : List WData} {vals : List Value}
    (hpre : l.row.toRowW.claim.pre args = true) (hwl : WellAll P h vals args) :
    ∃ a vs ns, vals = [Value.ref a] ∧ args = [WData.list (ns.map WData.int)] ∧ h.get? a = some { cls := .type "list", data := .seq vs.toArray } ∧ IntsAre vs ns ∧ ns.length ≤ n := by
  have hsh : WShape.hasAll [] args [.list .int] = true := (pre_splitW hpre).1
  have hc : l.pre.holds [] { args := args } = true := (pre_splitW hpre).2
  obtain ⟨d, r, rfl, h1, h2⟩ := hasAllW_cons hsh
  obtain rfl := hasAllW_nil h2
  obtain ⟨xs, rfl, h3⟩ := hasW_list h1
  obtain ⟨ns, rfl⟩ := items_int h3
  have hlen : ns.length ≤ n := by
    unfold OpenLaw.pre at hc
    have h4 : (WTm.not (.lt (.lit (.int (n : Int))) (.len (.arg 0)))).holds [] { args := [.list (ns.map .int)] } = true := by
      have h4 := (holds_andW hc).1
      rw [hn] at h4
      exact h4
    have h5 := condW_of h4 (w_not (w_lt w_lit (w_len_list (w_arg rfl))))
    rw [List.length_map] at h5
    refine Nat.le_of_not_lt fun q => ?_
    have q' : (n : Int) < ((ns.length : Nat) : Int) := by omega
    first
      | (rw [decide_eq_true q'] at h5; exact absurd h5 (by decide))
      | (simp at h5; omega)
  cases hwl with
  | cons w1 w2 =>
    cases w2
    cases w1 with
    | list ho hall => exact ⟨_, _, ns, rfl, rfl, ho, Zfn ns _ hall, hlen⟩
theorem Zqx (l : OpenLaw) (args : List WData) : l.row.toRowW.claim.post args (.bool true) args = true :=
  postW_of (r := l.row.toRowW) (X := (true == true))
    (show WShape.has [] (.bool true) .bool = true by first | rfl | decide | simp [WShape.has, WShape.arms, WShape.armsAll])
    (show (WTm.eq .res (.lit (.bool true))).value [] { args := args, res := some (.bool true), after := args } = some (.bool (true == true)) from w_eq_bool (w_res rfl) w_lit) rfl
theorem attach_call {l : OpenLaw} {n : Nat} {q : Program} {loose : List Str} {XP : (Str → Option Value) → Heap → Prop} {YP : World → Heap → Prop} {d : DefRec}
    (hn : l.most = some n) (hdf : d.params.defaults = [])
    (call : ∀ (w : World) (s₀ s₁ : Shared) (mg mb : Str → Option Value) (fa : Addr) (o : Obj) (pm cd doc : Value) (a : Addr) (vs : List Value) (ns : List Int),
      Ground q loose [] XP w s₀ mg mb s₁.heap → YP w s₁.heap →
      s₁.heap.get? fa = some o → o.data = .func (docDef d.name d.params d.body d.scope pm cd doc) → s₁.heap.CodeRec cd d.name → mg d.name = some (.ref fa) →
      s₁.heap.get? a = some { cls := .type "list", data := .seq vs.toArray } → IntsAre vs ns → ns.length ≤ n → s₁.gens = #[] →
      codeAny (model l.prog w) callerA (.call (.ref fa) ⟨[.ref a], []⟩) (fun r s' => r = .ok (.ret (.bool true)) ∧ OldK s₁.heap s'.heap ∧ s'.os = s₁.os ∧ AllBare s'.gens) s₁) :
    WalkO q loose XP YP l.row.toRowW d [] (fun f vs => PySem.call f vs) := by
  intro w s₀ s₁ mg mb G Y fa o pm cd doc dV kV ho hd hcd hD hmg hg args vals as hpre hlay hrd hwl hlo
  obtain rfl : dV = .none := Dflts.none hD hdf
  obtain rfl : kV = .none := Dflts.noKw hD
  obtain ⟨a, vs, ns, rfl, rfl, hobj, hints, hlen⟩ := Zq1 hn hpre hwl
  refine enter_call (codeAny_mono (call w s₀ s₁ mg mb fa o pm cd doc a vs ns G Y ho (fd_plain hd) hcd hmg hobj hints hlen hg) fun r s' hq => ?_)
  obtain ⟨rfl, h2, h3, h4⟩ := hq
  exact ⟨.inl ⟨.bool true, .bool true, [], rfl, fun _ => rfl, .bool true, Zqx l _, fun _ => ⟨List.Pairwise.nil, fun _ hm => (nomatch hm)⟩⟩, h2, h3, h4⟩
section
variable {prog : Program} {w : World} {A : Around} {E : Value → Shared → Prop} {s : Shared} {K : Frag}
end
end Att
namespace L2
open PySem PySem.Spec PyProof.Rows
theorem Zo4 {vs : List Value} {ns : List Int} (h : IntsAre vs ns) : Vals (ns.map V.int) vs := by
  induction h with
  | nil => exact .nil
  | cons n t h ih => exact .cons ⟨t, rfl⟩ ih
noncomputable def Only (H : Hp) : Prop := ∀ b, H b = none ∨ ∃ o xs, H b = some (.frz o (.lst xs))
theorem Zsp {P : Program} {w : World} {K : PySem.W.Frag} {mg mb : Str → Option Value} {CX : CXT} {k : Nat} {fa a : Addr} {fd : FuncData} {x : Str} {sp : Sp} {s₁ : Shared} {vs : List Value} {ns : List Int}
    (KX : K.In s₁.heap) (hns : s₁.heap.Ns mainGlobals mg) (hb : s₁.heap.Ns builtinsNs mb) (hbb : ∀ x : Str, x ≠ "__name__" → mb x = bootBuiltins x) (hlim : s₁.heap.NoLimit) (hg : s₁.gens = #[])
    (ha : s₁.heap.get? a = some { cls := .type "list", data := .seq vs.toArray }) (hi : IntsAre vs ns) (hl : ns.length ≤ sizeLine) (hr : Room k callerA)
    (F : ∀ base : Heap, K.In base → base.Ns mainGlobals mg → FnOk P w K mg base CX k fa fd [x] sp) (hbind : ∀ (s : Shared) (u : Value), BindsTo s fd ⟨[u], []⟩ [(x, u)])
    (hsp : ∀ H : Hp, Only H → SqL K H a (ns.map V.int) → sp [.ref a] H (fun v _ => v = .bl true) fun _ _ _ => False)
    (hCX : ∀ H e s', CX [] H s₁ (fun _ _ _ => False) e s' → False) :
    codeAny (model P w) callerA (.call (.ref fa) ⟨[.ref a], []⟩) (fun r s' => r = .ok (.ret (.bool true)) ∧ OldK s₁.heap s'.heap ∧ s'.os = s₁.os ∧ AllBare s'.gens) s₁ := by
  have rv := Zo4 hi
  have lenV := hi.length
  -- from an abstract heap in which nothing but the script may be tracked
  have core : ∀ H : Hp, Only H → SqL K H a (ns.map V.int) → HOk P w H s₁.heap → (∀ b, H b ≠ none → b = a) → (H a ≠ none → K.lookup a = none) →
      codeAny (model P w) callerA (.call (.ref fa) ⟨[.ref a], []⟩) (fun r s' => r = .ok (.ret (.bool true)) ∧ OldK s₁.heap s'.heap ∧ s'.os = s₁.os ∧ AllBare s'.gens) s₁ := by
    intro H hO hS hok hA hK
    have base_of : ∀ {b : Addr} {o : Obj}, s₁.heap.get? b = some o → H b = none → (Zs5 s₁.heap H).get? b = some o := fun e n => Zsn e n
    have noA : ∀ {b : Addr} {o : Obj} {es : Array DictEntry} {ep : Nat}, s₁.heap.get? b = some o → o.data = .dict es ep → H b = none := fun {b o es ep} e d => by
      cases q : H b with
      | none => rfl
      | some u =>
        have e' : b = a := hA b (by rw [q]; simp)
        subst e'
        rw [ha] at e; cases e
        have d' : Data.seq vs.toArray _ = Data.dict es ep := d
        cases d'
    have nsK : ∀ {b : Addr} {m : Str → Option Value}, s₁.heap.Ns b m → (Zs5 s₁.heap H).Ns b m := fun {b m} ⟨o, es, ep, e, d, r⟩ => ⟨o, es, ep, base_of e (noA e d), d, r⟩
    have hKb : K.In (Zs5 s₁.heap H) := fun b o e => base_of (KX b o e) (by
      cases q : H b with
      | none => rfl
      | some u =>
        have e' : b = a := hA b (by rw [q]; simp)
        subst e'
        rw [hK (by rw [q]; simp)] at e; cases e)
    have hM : Mod K mg (Zs5 s₁.heap H) := ⟨hKb, nsK hns, ⟨mb, nsK hb, hbb⟩, let ⟨mc, h1, h2⟩ := hlim; ⟨mc, nsK h1, h2⟩⟩
    have e0 : Z2c P w K mg (Zs5 s₁.heap H) callerA [] s₁ H := ⟨rfl, hM, fun b o e => Zvj e, Nat.le_of_eq (Zre _ _), trivial, fun b hb => absurd (show b ∈ ([] : List Addr) from hb) (by simp), hok, .of_eq hg⟩
    refine codeAny_mono ((F _ hKb (nsK hns)).run callerA [] s₁ H ⟨[.ref a], []⟩ [.ref a] [.ref a] _ _ hr e0 (hbind s₁ (.ref a)) (.cons rfl .nil) (hsp H hO hS)) fun r s' h => ?_
    cases r with
    | error e => exact (hCX H e s' h).elim
    | ok fl =>
      cases fl with
      | next => exact False.elim h
      | brk => exact False.elim h
      | cont => exact False.elim h
      | ret u =>
        obtain ⟨v, H', os, bare, un, hok', r', q⟩ := h
        have q' : v = .bl true := q
        subst q'
        obtain rfl : u = Value.bool true := r'
        refine ⟨rfl, OldK.of_keep fun b o e => ?_, os, bare⟩
        cases q : H b with
        | none => exact un.keep b o e q (by intro z; exact absurd (show b ∈ ([] : List Addr) from z) (by simp)) (by simp)
        | some u =>
          rcases hO b with z | ⟨ob, xs, z⟩
          · rw [q] at z; cases z
          · have z2 := un.frzs b ob _ z
            obtain ⟨e1, _⟩ := hok b _ z
            obtain ⟨e2, _⟩ := hok' b _ z2
            rw [e] at e1; cases e1
            exact e2
  cases hk : K.lookup a with
  | some o =>
    -- the script is one of the module's own objects
    have e := KX a o hk
    rw [ha] at e
    cases e
    refine core (fun _ => none) (fun _ => .inl rfl) (.inr ⟨_, vs.toArray, _, hk, rfl, rfl, rfl, by rw [List.size_toArray, lenV]; exact hl, by simpa using rv⟩) (fun b u z => by have z' : (none : Option HO) = some u := z; cases z') (fun b z => absurd rfl z) fun z => absurd rfl z
  | none =>
    refine core (fun b => if b = a then some (.frz { cls := .type "list", data := .seq vs.toArray } (.lst (ns.map V.int))) else none) (fun b => ?_) (.inl (.inr ⟨{ cls := .type "list", data := .seq vs.toArray }, if_pos rfl⟩)) (fun b u z => ?_) (fun b z => ?_) fun _ => hk
    · by_cases hb : b = a
      · exact .inr ⟨_, _, if_pos hb⟩
      · exact .inl (if_neg hb)
    · by_cases hb : b = a
      · have z' := (if_pos hb).symm.trans z
        cases z'
        subst hb
        exact ⟨ha, by rw [List.length_map]; exact hl, vs, _, rv, ha⟩
      · have z' := (if_neg hb).symm.trans z
        cases z'
    · by_cases hb : b = a
      · exact hb
      · exact absurd (if_neg hb) z
end L2
namespace L2
open PySem PySem.Spec PyProof.Rows
noncomputable abbrev KOf {K : PySem.W.Frag} {h : Heap} (_ : K.In h) : PySem.W.Frag := K
theorem Zwa {l : PySem.W.OpenLaw} {n k : Nat} {q : Program} {loose : List Str} {XP : (Str → Option Value) → Heap → Prop} {YP : World → Heap → Prop} {d : DefRec} {K : Params → PySem.W.Frag} {CX : World → CXT} {sp : World → Sp} {x : Str}
    (hn : l.most = some n) (hn2 : n ≤ sizeLine) (hdf : d.params.defaults = []) (hr : Room k callerA)
    (hY : ∀ (w : World) (h : Heap), YP w h → (K w.params).In h)
    (F : ∀ (w : World) (mg : Str → Option Value) (fa : Addr) (h : Heap), (K w.params).In h → h.Ns mainGlobals mg → mg d.name = some (.ref fa) →
      ∃ fd : FuncData, (∀ (s : Shared) (u : Value), BindsTo s fd ⟨[u], []⟩ [(x, u)]) ∧
        ∀ base : Heap, (K w.params).In base → base.Ns mainGlobals mg → FnOk l.prog w (K w.params) mg base (CX w) k fa fd [x] (sp w))
    (hsp : ∀ (w : World) (H : Hp) (a : Addr) (ns : List Int), ns.length ≤ n → Only H → SqL (K w.params) H a (ns.map V.int) → sp w [.ref a] H (fun v _ => v = .bl true) fun _ _ _ => False)
    (hCX : ∀ (w : World) (H : Hp) (s : Shared) (e : Value) (s' : Shared), CX w [] H s (fun _ _ _ => False) e s' → False) :
    PySem.W.WalkO q loose XP YP l.row.toRowW d [] (fun f vs => PySem.call f vs) := by
  refine Att.attach_call hn hdf fun w s₀ s₁ mg mb fa o pm cd doc a vs ns G Y ho hd hcd hmg hobj hints hlen hg => ?_
  have KX := hY w _ Y
  obtain ⟨fd, hb, hF⟩ := F w mg fa _ KX G.T.g hmg
  exact Zsp KX G.T.g G.T.b G.T.builtins G.T.nolimit hg hobj hints (Nat.le_trans hlen hn2) hr hF hb (fun H hO hS => hsp w H a ns hlen hO hS) fun H e s' => hCX w H s₁ e s'
end L2
namespace L2
open PySem PySem.Spec PyProof.Rows
noncomputable def Zei (s : Stmt) : Arguments := match s with
  | .FunctionDef _ a _ _ _ _ _ _ _ _ => a
  | _ => { posonlyargs := [], args := [], vararg := none, kwonlyargs := [], kw_defaults := [], kwarg := none, defaults := [] }
noncomputable def J8 (s : Stmt) : List Stmt := match s with
  | .FunctionDef _ _ b _ _ _ _ _ _ _ => b
  | _ => []
noncomputable def Zk (s : Stmt) : Scope := match s with
  | .FunctionDef _ _ _ _ _ _ sc _ _ _ => sc
  | _ => { kind := .function, names := [], isGenerator := false, isCoroutine := false }
noncomputable abbrev CX0 : CXT := fun _ _ _ _ _ _ => False
noncomputable abbrev E0 : XK := fun _ _ _ => False
theorem Zne {X : Cx} : Zj3 CX0 X E0 := fun _ _ _ _ _ _ _ h => h.elim
structure Fun (K : PySem.W.Frag) (x qual : Str) (st : Stmt) (f : Addr) (fd : FuncData) : Prop where
  ex : ∃ (oc : Value) (od : Option Addr) (kV doc pm : Value) (an : Option Addr) (cdv ct : Value) (osl : Array (Option Value)),
    fd = PySem.W.fnOf x qual (Zei st) (J8 st) (Zk st) .none kV doc pm an cdv ct ∧ K.lookup f = some ⟨oc, od, .func fd, osl⟩ ∧ PySem.W.codeIn K cdv qual = true
  kp : PySem.W.keepIn K (.ref f) = true
section
variable {P : Program} {w : World} {K : PySem.W.Frag} {mg : Str → Option Value} {base : Heap}
theorem Fun.ok {x qual : Str} {st : Stmt} {f : Addr} {fd : FuncData} {N ps : List Str} {k : Nat} {sp : Sp} (F : Fun K x qual st f fd) (S : Zv N ps (Zk st)) (len : ∀ vs H Q E, sp vs H Q E → vs.length = ps.length)
    (hbody : ∀ (cdv : Value) (A : Around) (outer : List Env) (s : Shared) (H : Hp) (vs : List V) (Q : VK) (E : XK), Room k (A.deeper (envOfC qual (Zk st) s.heap.objs.size f cdv)) → sp vs H Q E →
      ∃ t, PSs (Zrl CX0 P w K mg base N qual (Zk st) f cdv A outer s H E).nox (J8 st) t ∧ t { nx := fun _ H' => Q .non H', rt := Q } (start N vs) H) : FnOk P w K mg base CX0 (k + 1) f fd ps sp := by
  obtain ⟨oc, od, kV, doc, pm, an, cdv, ct, osl, rfl, lk, hcd⟩ := F.ex
  refine Z3y lk hcd S len fun A outer s H vs Q E hr hsp => ?_
  obtain ⟨t, h, q⟩ := hbody cdv A outer s H vs Q E hr hsp
  exact ⟨t, h.nox, q⟩
theorem Fun.binds {x qual : Str} {st : Stmt} {f : Addr} {fd : FuncData} {ps : List Str} (F : Fun K x qual st f fd)
    (h : ∀ (kV doc pm : Value) (an : Option Addr) (cdv ct : Value) (us : List Value), us.length = ps.length → bindArgs (PySem.W.fnOf x qual (Zei st) (J8 st) (Zk st) .none kV doc pm an cdv ct) ⟨us, []⟩ = pure (ps.zip us)) : Binds K fd ps [] := by
  obtain ⟨oc, od, kV, doc, pm, an, cdv, ct, osl, rfl, lk, hcd⟩ := F.ex
  exact .all (h kV doc pm an cdv ct)
theorem Z1h {x qual : Str} {st : Stmt} {f : Addr} {oc : Value} {od an : Option Addr} {osl : Array (Option Value)} {kV doc pm cdv ct : Value} (l : K.lookup f = some ⟨oc, od, .func (PySem.W.fnOf x qual (Zei st) (J8 st) (Zk st) .none kV doc pm an cdv ct), osl⟩)
    (c : PySem.W.codeIn K cdv qual = true) (k : PySem.W.keepIn K (.ref f) = true) : Fun K x qual st f (PySem.W.fnOf x qual (Zei st) (J8 st) (Zk st) .none kV doc pm an cdv ct) := ⟨⟨oc, od, kV, doc, pm, an, cdv, ct, osl, rfl, l, c⟩, k⟩
end
section
variable {X : Cx}
theorem pv (i : Nat) {x : Str} {pos : Pos} (hN : X.N[i]? = some x := by rfl) (hv : Vis X.env.scope x := by first | exact Or.inl rfl | exact Or.inr (Or.inl rfl) | exact Or.inr (Or.inr rfl)) (hd : (x == ("__debug__" : Str)) = false := by decide)
    (hcd : (x == ("__classdict__" : Str)) = false := by decide) : PE X (.Name x pos) (Z7c i) := Z1w hN hv hd hcd
end
noncomputable def Same (H H' : Hp) : Prop := ∀ b o, H b = some o → H' b = some o
theorem Same.refl (H : Hp) : Same H H := fun _ _ h => h
theorem Same.trans {H H1 H2 : Hp} (a : Same H H1) (b : Same H1 H2) : Same H H2 := fun c o h => b c o (a c o h)
theorem Same.free {H H' : Hp} (e : Same H H') {l : Addr} (h : H' l = Option.none) : H l = Option.none := by
  cases q : H l with
  | none => rfl
  | some o =>
    rw [e l o q] at h
    cases h
end L2
set_option maxHeartbeats 4000000
namespace L2
open PySem PySem.Spec PyProof.Rows
noncomputable def Bt (n : Nat) (x : Int) : Prop := x.natAbs < 2 ^ n
theorem Bt.neg {m : Nat} {x : Int} (h : Bt m x) : Bt m (-x) := by
  unfold Bt at *
  rw [Int.natAbs_neg]
  exact h
theorem Bt.of_le {m : Nat} {x y : Int} (h : Bt m x) (k : y.natAbs ≤ x.natAbs) : Bt m y := Nat.lt_of_le_of_lt k h
theorem Bt.of_lt {m : Nat} {x : Int} (h1 : -(2 ^ m) < x) (h2 : x < 2 ^ m) : Bt m x := by
  unfold Bt
  have e : ((2 ^ m : Nat) : Int) = 2 ^ m := by simp
  omega
theorem Bt.bits {m : Nat} {x : Int} (h : Bt m x) : Builtin.Int.intBits x ≤ m := by
  unfold Builtin.Int.intBits
  split
  · exact Nat.zero_le _
  · rename_i hx
    have hp : x.natAbs ≠ 0 := by
      intro e
      apply hx
      have : x = 0 := by omega
      subst this
      rfl
    have := (Nat.log2_lt hp).mpr h
    omega
theorem Bt.mulOk {m n : Nat} {x y : Int} (h : Bt m x) (k : Bt n y) (hmn : m + n ≤ 100000000 := by decide) : IntMulOk x y := by
  have h1 := h.bits
  have h2 := k.bits
  have h3 : Builtin.Int.intTooBig (Builtin.Int.intBits x + Builtin.Int.intBits y) = false := by
    unfold Builtin.Int.intTooBig bitsLine
    exact decide_eq_false (by omega)
  unfold IntMulOk
  rw [h3]
  simp
noncomputable def DivOk (_ j : Int) : Prop := j ≠ 0 ∧ j.natAbs.log2 < 9000
theorem DivOk.of {i j : Int} {n : Nat} (h0 : j ≠ 0) (h : Bt n j) (hn : n ≤ 9000 := by decide) : DivOk i j := by
  refine ⟨h0, ?_⟩
  have hp : j.natAbs ≠ 0 := by omega
  have := (Nat.log2_lt hp).mpr h
  omega
section
variable {X : Cx}
theorem Zw0 : OpR X (binaryOp .Mult) (rI IntMulOk fun i j => .int (i * j)) := opI fun _ _ _ _ _ _ _ hc q => mul_int q hc
theorem Zrz : OpR X (binaryOp .FloorDiv) (rI DivOk fun i j => .int (i.fdiv j)) := opI fun _ _ _ _ _ _ _ hc q => floordiv_int hc.1 q (.inl (PyProof.noPylong_of_log2 hc.2))
theorem Zvi : OpR X (binaryOp .Pow) (rI Z2s fun i j => .int (i ^ j.toNat)) := Z1l
end
theorem Zgw (elt target iter : Expr) (ifs : List Expr) (scope : Scope) (pos : Pos) (it acc : Value) (env : Env) :
    compTurn (.ListComp elt [⟨target, iter, ifs, 0⟩] scope pos) 0 it acc env = (standAt iter.pos >>= fun _ => pyNext it >>= fun r => match r with
      | none => pure (.done .next)
      | some v => letOwnedTupleGo target it v >>= fun _ => assign target env v >>= fun _ =>
        (forIn ifs true fun c r => if r = true then do let ok ← isTrue c env (eval c env); pure (ForInStep.yield ok) else pure (ForInStep.yield r)) >>= fun ok =>
          if ok = true then ((eval elt env >>= fun x => call (.builtin "list.append") [acc, x] >>= fun _ => pure ()) >>= fun _ =>
            again (.compLoop (.ListComp elt [⟨target, iter, ifs, 0⟩] scope pos) 0 it acc env))
          else again (.compLoop (.ListComp elt [⟨target, iter, ifs, 0⟩] scope pos) 0 it acc env)) := by rfl
end L2
namespace L2
open PySem PySem.Spec PyProof.Rows
theorem Zjs {prog : Program} {w : World} {A : Around} {R : Result → Shared → Prop} {s : Shared} {elt target iter : Expr} {ifs : List Expr} {scope : Scope} {pos : Pos} {it acc : Value} {env : Env} (I : Nat → Shared → Prop)
    (turn : ∀ n s, I n s → wpAny (model prog w) A (pyNext it) (fun r s₁ => match r with
      | none => R (.ok .next) s₁
      | some v => wpAny (model prog w) A (letOwnedTupleGo target it v) (fun _ s₁ => wpAny (model prog w) A (assign target env v) (fun _ s₂ =>
          wpAny (model prog w) A (forIn ifs true fun c r => if r = true then do let ok ← isTrue c env (eval c env); pure (ForInStep.yield ok) else pure (ForInStep.yield r)) (fun ok s₃ =>
            if ok = true then wpAny (model prog w) A (eval elt env) (fun x s₄ =>
              wpAny (model prog w) A (call (.builtin "list.append") [acc, x]) (fun _ s₅ => ∃ m, m < n ∧ I m s₅) (notedBy (model prog w) A env fun e s' => R (.error e) s') s₄) (notedBy (model prog w) A env fun e s' => R (.error e) s') s₃
            else ∃ m, m < n ∧ I m s₃) (notedBy (model prog w) A env fun e s' => R (.error e) s') s₂) (notedBy (model prog w) A env fun e s' => R (.error e) s') s₁) (notedBy (model prog w) A env fun e s' => R (.error e) s') s₁) (notedBy (model prog w) A env fun e s' => R (.error e) s') s)
    (n : Nat) (h : I n s) :
    codeAny (model prog w) A (.compLoop (.ListComp elt [⟨target, iter, ifs, 0⟩] scope pos) 0 it acc env) R s := by
  refine codeAny_loop rfl I (fun n s hI => ?_) n h
  show wpAny _ A ((compTurn (.ListComp elt [⟨target, iter, ifs, 0⟩] scope pos) 0 it acc env).onRaise (fun x => do noteFrame x env; theTreesLotGoes x)) _ _ s
  refine wpAny_noted ?_
  rw [Zgw]
  refine wpAny_bind (wpAny_standAt (wpAny_bind (wpAny_mono (turn n s hI) (fun r s₁ h₁ => ?_) fun _ _ h' => h')))
  cases r with
  | none => exact wpAny_pure h₁
  | some v =>
    refine wpAny_bind (wpAny_mono h₁ (fun _ s₂ h₂ => ?_) fun _ _ h' => h')
    refine wpAny_bind (wpAny_mono h₂ (fun _ s₂ h₂ => wpAny_bind (wpAny_mono h₂ (fun ok s₃ h₃ => ?_) fun _ _ h' => h')) fun _ _ h' => h')
    cases ok with
    | false => exact wpAny_pure ⟨rfl, h₃⟩
    | true =>
      exact wpAny_bind (wpAny_bind (wpAny_mono h₃ (fun x s₄ h₄ => wpAny_bind (wpAny_mono h₄ (fun _ s₅ h₅ => wpAny_pure (wpAny_pure ⟨rfl, h₅⟩)) fun _ _ h' => h')) fun _ _ h' => h'))
noncomputable def Zgu (env : Env) : List (Str × NameKind) → List (Str × Addr) → List (Str × Addr)
  | [], acc => acc
  | (n, k) :: r, acc => if k == .free then Zgu env r ((n, (env.cells.lookup n).getD 0) :: acc) else Zgu env r acc
theorem Zi5 {env : Env} : ∀ (names : List (Str × NameKind)) (acc : List (Str × Addr)), (∀ y ∈ names, y.2 = .free → ∃ c, env.cells.lookup y.1 = some c) →
    (forIn names acc (fun (y : Str × NameKind) cs => (if y.2 == .free then (cellOf env y.1 >>= fun c => pure (ForInStep.yield ((y.1, c) :: cs))) else pure (ForInStep.yield cs) : Sem (ForInStep (List (Str × Addr)))))) = pure (Zgu env names acc)
  | [], acc, _ => by rw [List.forIn_nil]; rfl
  | (n, k) :: r, acc, h => by
    by_cases hk : k = .free
    · subst hk
      obtain ⟨c, hc⟩ := h (n, .free) (.head _) rfl
      have hc' : env.cells.lookup n = some c := hc
      have e := Zi5 (env := env) r ((n, c) :: acc) fun y hy => h y (.tail _ hy)
      have ec : cellOf env n = pure c := by
        unfold cellOf
        rw [hc']
      rw [List.forIn_cons]
      simp only [beq_self_eq_true, if_true]
      rw [ec]
      simp only [Zgu, beq_self_eq_true, if_true, hc', Option.getD_some]
      exact e
    · have e := Zi5 (env := env) r acc fun y hy => h y (.tail _ hy)
      have hb : (k == NameKind.free) = false := by simpa using hk
      rw [List.forIn_cons]
      simp only [Zgu, hb, Bool.false_eq_true, if_false]
      exact e
theorem Zc3 {scope : Scope} {env : Env} (h : ∀ y ∈ scope.names, y.2 = .free → ∃ c, env.cells.lookup y.1 = some c) : closureFor scope env = pure (Zgu env scope.names []) := by
  have e := Zi5 scope.names [] h
  have e' : (forIn scope.names ([] : List (Str × Addr)) (fun (y : Str × NameKind) cs => (match y with | (name, kind) => do
      if kind == .free then do let a ← cellOf env name; pure (ForInStep.yield ((name, a) :: cs)) else pure (ForInStep.yield cs) : Sem (ForInStep (List (Str × Addr)))))) = pure (Zgu env scope.names []) := e
  exact congrArg (fun (m : Sem (List (Str × Addr))) => m >>= fun x => pure x) e'
theorem Zid {env : Env} : ∀ (names : List (Str × NameKind)) (acc : List (Str × Addr)), (∀ y ∈ names, y.2 = .free → ∃ c, env.cells.lookup y.1 = some c) →
    ∀ n c, (n, c) ∈ Zgu env names acc → (n, c) ∈ acc ∨ ((n, NameKind.free) ∈ names ∧ env.cells.lookup n = some c)
  | [], acc, _, n, c, h => .inl h
  | (m, k) :: r, acc, h, n, c, hm => by
    by_cases hk : k = .free
    · subst hk
      obtain ⟨d, hd⟩ := h (m, .free) (.head _) rfl
      have hd' : env.cells.lookup m = some d := hd
      simp only [Zgu, beq_self_eq_true, if_true, hd', Option.getD_some] at hm
      rcases Zid r _ (fun y hy => h y (.tail _ hy)) n c hm with z | ⟨z1, z2⟩
      · rcases List.mem_cons.mp z with z | z
        · cases z; exact .inr ⟨.head _, hd'⟩
        · exact .inl z
      · exact .inr ⟨.tail _ z1, z2⟩
    · have hb : (k == NameKind.free) = false := by simpa using hk
      simp only [Zgu, hb, Bool.false_eq_true, if_false] at hm
      refine (Zid r _ (fun y hy => h y (.tail _ hy)) n c hm).imp id fun qz9 => ?_
      obtain ⟨z1, z2⟩ := qz9
      exact ⟨.tail _ z1, z2⟩
theorem Zh5 {env : Env} : ∀ (names : List (Str × NameKind)) (acc : List (Str × Addr)), ∀ p ∈ acc, p ∈ Zgu env names acc
  | [], _, _, h => h
  | (m, k) :: r, acc, p, h => by
    unfold Zgu
    split
    · exact Zh5 r _ p (.tail _ h)
    · exact Zh5 r _ p h
theorem Zir {env : Env} : ∀ (names : List (Str × NameKind)) (acc : List (Str × Addr)) (n : Str), (n, NameKind.free) ∈ names → ∃ c, (n, c) ∈ Zgu env names acc
  | [], _, _, h => nomatch h
  | (m, k) :: r, acc, n, h => by
    rcases List.mem_cons.mp h with z | z
    · cases z
      exact ⟨_, by
        simp only [Zgu, beq_self_eq_true, if_true]
        exact Zh5 _ _ _ (.head _)⟩
    · unfold Zgu
      split
      · exact Zir r _ n z
      · exact Zir r _ n z
theorem Zeo {env : Env} (inj : ∀ x y c, env.cells.lookup x = some c → env.cells.lookup y = some c → x = y) : ∀ (names : List (Str × NameKind)) (acc : List (Str × Addr)),
    (∀ y ∈ names, y.2 = .free → ∃ c, env.cells.lookup y.1 = some c) → (names.map (·.1)).Nodup → (∀ p ∈ acc, env.cells.lookup p.1 = some p.2) → (∀ p ∈ acc, p.1 ∉ names.map (·.1)) → (acc.Pairwise fun x y => x.2 ≠ y.2) →
    (Zgu env names acc).Pairwise fun x y => x.2 ≠ y.2
  | [], _, _, _, _, _, h => h
  | (m, k) :: r, acc, hf, hn, ha, hd, hp => by
    rw [List.map_cons, List.nodup_cons] at hn
    have hf' : ∀ y ∈ r, y.2 = .free → ∃ c, env.cells.lookup y.1 = some c := fun y hy => hf y (.tail _ hy)
    have hd' : ∀ p ∈ acc, p.1 ∉ r.map (·.1) := fun p hp z => hd p hp (by rw [List.map_cons]; exact .tail _ z)
    by_cases hk : k = .free
    · subst hk
      obtain ⟨d, hd0⟩ := hf (m, .free) (.head _) rfl
      have hd1 : env.cells.lookup m = some d := hd0
      simp only [Zgu, beq_self_eq_true, if_true, hd1, Option.getD_some]
      refine Zeo inj r _ hf' hn.2 (fun p hp' => ?_) (fun p hp' => ?_) (List.pairwise_cons.mpr ⟨fun p hp' z => ?_, hp⟩)
      · rcases List.mem_cons.mp hp' with rfl | hp'
        · exact hd1
        · exact ha p hp'
      · rcases List.mem_cons.mp hp' with rfl | hp'
        · exact hn.1
        · exact hd' p hp'
      · have e : m = p.1 := inj m p.1 d hd1 (by rw [ha p hp', ← z])
        exact hd p hp' (by rw [List.map_cons, ← e]; exact .head _)
    · have hb : (k == NameKind.free) = false := by simpa using hk
      simp only [Zgu, hb, Bool.false_eq_true, if_false]
      exact Zeo inj r _ hf' hn.2 ha hd' hp
structure Znk (h : Heap) (lo : Nat) (names : List (Str × NameKind)) (acc cs : List (Str × Addr)) : Prop where
  mem : ∀ n c, (n, c) ∈ cs → (n, c) ∈ acc ∨ (h.IsCell c none ∧ lo ≤ c ∧ (n, NameKind.cell) ∈ names)
  has : ∀ n, (n, NameKind.cell) ∈ names → ∃ c, (n, c) ∈ cs
  old : ∀ p ∈ acc, p ∈ cs
theorem Zee : ∀ (names : List (Str × NameKind)) (h : Heap) (lo : Nat) (acc : List (Str × Addr)), lo ≤ h.objs.size → Znk (pushCells h names) lo names acc (cellsFrom h.objs.size names acc)
  | [], _, _, _, _ => ⟨fun _ _ m => .inl m, (fun _ m => nomatch m), fun _ m => m⟩
  | (name, kind) :: r, h, lo, acc, hlo => by
    by_cases hk : (kind == NameKind.cell) = true
    · have ek : kind = .cell := by simpa using hk
      subst ek
      have ih := Zee r (h.push { cls := .type "cell", data := .cell none }) lo ((name, h.objs.size) :: acc) (by rw [Heap.size_push]; omega)
      rw [Heap.size_push] at ih
      have e1 : cellsFrom h.objs.size ((name, .cell) :: r) acc = cellsFrom (h.objs.size + 1) r ((name, h.objs.size) :: acc) := by
        rw [cellsFrom, if_pos hk]
      have e2 : pushCells h ((name, .cell) :: r) = pushCells (h.push { cls := .type "cell", data := .cell none }) r := by
        rw [pushCells, if_pos hk]
      rw [e1, e2]
      refine ⟨fun n c m => ?_, fun n m => ?_, fun p m => ih.old p (.tail _ m)⟩
      · rcases ih.mem n c m with z | ⟨z1, z2, z3⟩
        · rcases List.mem_cons.mp z with z | z
          · cases z
            exact .inr ⟨⟨_, pushCells_keeps _ _ _ _ (Heap.get?_push_size _ rfl), rfl⟩, hlo, .head _⟩
          · exact .inl z
        · exact .inr ⟨z1, z2, .tail _ z3⟩
      · rcases List.mem_cons.mp m with z | z
        · cases z
          exact ⟨_, ih.old _ (.head _)⟩
        · exact ih.has n z
    · have ih := Zee r h lo acc hlo
      have e1 : cellsFrom h.objs.size ((name, kind) :: r) acc = cellsFrom h.objs.size r acc := by
        rw [cellsFrom, if_neg hk]
      have e2 : pushCells h ((name, kind) :: r) = pushCells h r := by
        rw [pushCells, if_neg hk]
      rw [e1, e2]
      refine ⟨fun n c m => (ih.mem n c m).imp id fun ⟨z1, z2, z3⟩ => ⟨z1, z2, .tail _ z3⟩, fun n m => ?_, ih.old⟩
      rcases List.mem_cons.mp m with z | z
      · cases z
        exact absurd rfl hk
      · exact ih.has n z
theorem Zgc (names : List (Str × NameKind)) : ∀ (h : Heap) (acc : List (Str × Addr)), (acc.Pairwise fun x y => x.2 ≠ y.2) → (∀ p ∈ acc, p.2 < h.objs.size) → (cellsFrom h.objs.size names acc).Pairwise fun x y => x.2 ≠ y.2 := by
  induction names with
  | nil => intro h acc ha _; exact ha
  | cons y r ih =>
    intro h acc ha hb
    obtain ⟨name, kind⟩ := y
    unfold cellsFrom
    split
    · have := ih (h.push { cls := .type "cell", data := .cell none }) ((name, h.objs.size) :: acc) (List.pairwise_cons.mpr ⟨fun p hp => Nat.ne_of_gt (hb p hp), ha⟩) (fun p hp => by
        rw [Heap.size_push]
        rcases List.mem_cons.mp hp with rfl | hp
        · exact Nat.lt_succ_self _
        · exact Nat.lt_succ_of_lt (hb p hp))
      rwa [Heap.size_push] at this
    · exact ih h acc ha hb
theorem Zg4 {M : Model} {A : Around} {E : Value → Shared → Prop} {s : Shared} {scope : Scope} {globals : Addr} {cl : List (Str × Addr)} {qual : Str} {env : Env} {Q : Env → Shared → Prop}
    (hQ : Q (newEnv scope s.heap.objs.size globals (cellsFrom (s.heap.objs.size + 1) scope.names cl) qual none .none (some env) builtinsNs)
      { s with heap := pushCells (s.heap.push { cls := .type "dict", data := .dict #[] }) scope.names }) :
    wpAny M A (newFunctionEnv scope globals cl [] qual none .none (some env)) Q E s := by
  simp only [newFunctionEnv, Option.isSome_some, if_true]
  refine wpAny_bind (wpAny_alloc ?_)
  refine wpAny_bind (wpAny_layCells _ (fun name kind cells => by cases hkc : kind == NameKind.cell <;> simp [hkc]) _ _ _ _ ?_)
  rw [show ({ s with heap := s.heap.push { cls := .type "dict", data := .dict #[] } } : Shared).heap.objs.size = s.heap.objs.size + 1 from Heap.size_push ..]
  rw [List.forIn_nil]
  exact wpAny_bind (wpAny_pure (wpAny_pure hQ))
end L2
namespace L2
open PySem PySem.Spec PyProof.Rows
noncomputable def Yy (X : Cx) (N' : List Str) (sc : Scope) (C : Addr) (cells : List (Str × Addr)) (s₂ : Shared) (H₂ : Hp) (fp : List Addr) : Cx :=
  { X with N := N', s₀ := s₂, H₀ := H₂, env := compEnvC sc cells C X.env, outer := X.stack, stack := X.stack, ex := fp, fn := fun x => sc.names.lookup x == some .cell, pn := [], xe := fun _ _ => False }
theorem Zcy {env : Env} : ∀ {names : List (Str × NameKind)} {x : Str} {k : NameKind}, names.lookup x = some k →
    (names.map fun (n, k) => if (k == NameKind.free && env.scope.kind == .function && env.kindOf n == some .cell) then (n, NameKind.cell) else (n, k)).lookup x =
      some (if (k == NameKind.free && env.scope.kind == .function && env.kindOf x == some .cell) then NameKind.cell else k)
  | [], _, _, h => by simp at h
  | (n, k') :: r, x, k, h => by
    have ih := @Zcy env r x k
    show List.lookup x ((if (k' == NameKind.free && env.scope.kind == .function && env.kindOf n == some .cell) = true then (n, NameKind.cell) else (n, k')) :: _) = _
    cases hx : x == n with
    | true =>
      simp only [List.lookup_cons, hx] at h
      cases h
      have e := beq_iff_eq.mp hx
      subst e
      split <;> simp [List.lookup_cons]
    | false =>
      simp only [List.lookup_cons, hx] at h
      split
      · simp only [List.lookup_cons, hx]; exact ih h
      · simp only [List.lookup_cons, hx]; exact ih h
theorem Zey {env : Env} : ∀ {names : List (Str × NameKind)} {x : Str}, names.lookup x = none →
    (names.map fun (n, k) => if (k == NameKind.free && env.scope.kind == .function && env.kindOf n == some .cell) then (n, NameKind.cell) else (n, k)).lookup x = none
  | [], _, _ => rfl
  | (n, k') :: r, x, h => by
    have ih := @Zey env r x
    show List.lookup x ((if (k' == NameKind.free && env.scope.kind == .function && env.kindOf n == some .cell) = true then (n, NameKind.cell) else (n, k')) :: _) = _
    cases hx : x == n with
    | true =>
      simp only [List.lookup_cons, hx] at h
      cases h
    | false =>
      simp only [List.lookup_cons, hx] at h
      split
      · simp only [List.lookup_cons, hx]; exact ih h
      · simp only [List.lookup_cons, hx]; exact ih h
theorem Zd8 {α : Type} : ∀ {l : List (Str × α)} {n : Str} {c : α}, (l.map (·.1)).Nodup → (n, c) ∈ l → l.lookup n = some c
  | (k, v) :: r, n, c, hd, h => by
    rw [List.map_cons, List.nodup_cons] at hd
    rcases List.mem_cons.mp h with e | hr
    · cases e
      simp [List.lookup_cons]
    · have hne : (n == k) = false := by
        refine Bool.eq_false_iff.mpr fun z => hd.1 ?_
        have e : n = k := beq_iff_eq.mp z
        rw [← e]
        exact List.mem_map.mpr ⟨(n, c), hr, rfl⟩
      rw [List.lookup_cons, hne]
      exact Zd8 hd.2 hr
theorem Yv {α : Type} : ∀ {l : List (Str × α)} {n : Str} {c : α}, (n, c) ∈ l → ∃ d, l.lookup n = some d ∧ (n, d) ∈ l
  | (k, v) :: r, n, c, h => by
    by_cases e : n = k
    · subst e
      exact ⟨v, by simp [List.lookup_cons], List.mem_cons_self⟩
    · have hne : (n == k) = false := by simpa using e
      rcases List.mem_cons.mp h with z | z
      · cases z; exact absurd rfl e
      · obtain ⟨d, h1, h2⟩ := Yv z
        exact ⟨d, by rw [List.lookup_cons, hne]; exact h1, .tail _ h2⟩
structure CompScope (X : Cx) (own : List Str) (caps : List Nat) (N' : List Str) (sc : Scope) : Prop where
  kind : sc.kind = .function
  nd : N'.Nodup
  names : N' = own ++ caps.map fun i => X.N.getD i Str.empty
  nn : (sc.names.map (·.1)).Nodup
  free : (sc.names.all fun y => y.2 != .free || (X.env.kindOf y.1 == some .cell || X.env.kindOf y.1 == some .free)) = true
  caps : (caps.all fun i => sc.names.lookup (X.N.getD i Str.empty) == some .free) = true
noncomputable def Jy (own : List Str) (caps : List Nat) (σ : St) : St := own.map (fun _ => none) ++ caps.map fun i => (σ[i]?).getD none
section
variable {X : Cx} {own : List Str} {caps : List Nat} {N' : List Str} {sc : Scope}
theorem CompScope.lk (S : CompScope X own caps N' sc) {n : Str} {k : NameKind} (h : (n, k) ∈ sc.names) : sc.names.lookup n = some k := Zd8 S.nn h
theorem CompScope.fr (S : CompScope X own caps N' sc) {n : Str} (h : (n, NameKind.free) ∈ sc.names) : X.env.kindOf n = some .cell ∨ X.env.kindOf n = some .free := by
  have := List.all_eq_true.mp S.free _ h
  simpa using this
theorem Znj {pins : List (Addr × Obj)} {σ : St} {H : Hp} {s : Shared} {fp : List Addr} {cl : List (Str × Addr)} (S : CompScope X own caps N' sc) (I : Inv X pins σ H s)
    (f : ∀ b ∈ fp, Zio X pins H b) (fo : ∀ b ∈ fp, ∃ o, s.heap.get? b = some o)
    (hcl : ∀ n c, (n, c) ∈ cl → (n, NameKind.free) ∈ sc.names ∧ X.env.cells.lookup n = some c) (hcl2 : ∀ n, (n, NameKind.free) ∈ sc.names → ∃ c, (n, c) ∈ cl) (hapart : cl.Pairwise fun x y => x.2 ≠ y.2) :
    Inv (Yy X N' sc (s.heap.objs.size + 1) (cellsFrom (s.heap.objs.size + 2) sc.names cl) s H fp) [] (Jy own caps σ) (upd H s.heap.objs.size (.lst []))
      { s with heap := pushCells ((s.heap.push { cls := .type "list", data := .seq #[] }).push { cls := .type "dict", data := .dict #[] }) sc.names } := by
  generalize hh1 : s.heap.push { cls := .type "list", data := .seq #[] } = h1
  have z1 : h1.objs.size = s.heap.objs.size + 1 := by rw [← hh1, Heap.size_push]
  generalize hh2 : h1.push { cls := .type "dict", data := .dict #[] } = h2
  have z2 : h2.objs.size = s.heap.objs.size + 2 := by rw [← hh2, Heap.size_push, z1]
  have BC := Zee sc.names h2 (s.heap.objs.size + 2) cl (by omega)
  have AP := Zgc sc.names h2 cl hapart (fun p hp => by
    obtain ⟨v, hv⟩ := I.cell p.1 p.2 (hcl p.1 p.2 hp).2
    exact Nat.lt_of_lt_of_le hv.lt (by omega))
  rw [z2] at BC AP
  have keep : ∀ b o, s.heap.get? b = some o → (pushCells h2 sc.names).get? b = some o := fun b o e => pushCells_keeps _ _ _ _ (by
    rw [← hh2]
    refine Heap.get?_push_of_some _ ?_
    rw [← hh1]
    exact Heap.get?_push_of_some _ e)
  have hD : (pushCells h2 sc.names).get? s.heap.objs.size = some { cls := .type "list", data := .seq #[] } := pushCells_keeps _ _ _ _ (by
    rw [← hh2]
    refine Heap.get?_push_of_some _ ?_
    rw [← hh1]
    exact Heap.get?_push_size _ rfl)
  have hC : (pushCells h2 sc.names).Ns (s.heap.objs.size + 1) (fun _ => none) := by
    refine Heap.Ns.keeps ?_ (pushCells_keeps _ _)
    have := Heap.Ns.new h1 (.type "dict")
    rw [hh2, z1] at this
    exact this
  have cellOld : ∀ n c, X.env.cells.lookup n = some c → c < s.heap.objs.size := fun n c e => by
    obtain ⟨v, hv⟩ := I.cell n c e
    exact hv.lt
  have lk' : ∀ n c, (cellsFrom (s.heap.objs.size + 2) sc.names cl).lookup n = some c → (n, c) ∈ cellsFrom (s.heap.objs.size + 2) sc.names cl := fun n c e => PySem.mem_of_lookup e
  have hnD : H s.heap.objs.size = none := I.fresh
  have fresh : ∀ c, s.heap.objs.size < c → upd H s.heap.objs.size (.lst []) c = none := fun c hc => by
    rw [Zz (Nat.ne_of_gt hc)]
    exact I.hok.fresh (Nat.le_of_lt hc)
  have isc : ∀ n c, (n, c) ∈ cellsFrom (s.heap.objs.size + 2) sc.names cl → ∃ v, (pushCells h2 sc.names).IsCell c v := fun n c m => by
    rcases BC.mem n c m with z | ⟨z, _⟩
    · obtain ⟨v, hv⟩ := I.cell n c (hcl n c z).2
      exact ⟨v, hv.keeps keep⟩
    · exact ⟨none, z⟩
  have okH : HOk X.prog X.w (upd H s.heap.objs.size (.lst [])) (pushCells h2 sc.names) := by
    refine I.hok.laid keep (Nat.le_refl _) ?_
    exact ⟨Nat.zero_le _, [], 0, .nil, hD⟩
  have kinds : ∀ x k, sc.names.lookup x = some k → (relabel sc X.env).names.lookup x = some (if (k == NameKind.free && X.env.scope.kind == .function && X.env.kindOf x == some .cell) then NameKind.cell else k) := fun x k e => Zcy e
  have kindsR : ∀ x k, (relabel sc X.env).names.lookup x = some k → ∃ k', (x, k') ∈ sc.names ∧ k = (if (k' == NameKind.free && X.env.scope.kind == .function && X.env.kindOf x == some .cell) then NameKind.cell else k') := fun x k e => by
    cases q : sc.names.lookup x with
    | none =>
      have := Zey (env := X.env) q
      rw [show (relabel sc X.env).names.lookup x = _ from this] at e
      cases e
    | some k' =>
      refine ⟨k', PySem.mem_of_lookup q, ?_⟩
      rw [kinds x k' q] at e
      exact (Option.some.inj e).symm
  refine ⟨⟨I.ok.mod, S.kind, I.ok.glob, I.ok.blt, ?_, ?_, ?_, ?_, I.ok.hd, I.ok.frames, .inl rfl, ?_, ?_, ?_, ?_, ?_, ?_, ?_⟩, rfl, I.bare, ?_, ?_, ?_, ?_, ?_, (fun p hp => nomatch hp), okH, ?_⟩
  · show s.heap.objs.size ≤ s.heap.objs.size + 1; omega
  · intro x y c e1 e2
    exact name_of_addr AP (lk' x c e1) (lk' y c e2)
  · intro x hx
    rcases hx with hx | hx
    · obtain ⟨k', hm, hk'⟩ := kindsR x _ hx
      cases k' with
      | cell =>
        obtain ⟨c, hc⟩ := BC.has x hm
        obtain ⟨d, h1, _⟩ := Yv hc
        exact ⟨d, h1⟩
      | free =>
        obtain ⟨c, hc⟩ := hcl2 _ hm
        obtain ⟨d, h1, _⟩ := Yv (BC.old _ hc)
        exact ⟨d, h1⟩
      | _ => simp at hk'
    · obtain ⟨k', hm, hk'⟩ := kindsR x _ hx
      cases k' with
      | free =>
        obtain ⟨c, hc⟩ := hcl2 _ hm
        obtain ⟨d, h1, _⟩ := Yv (BC.old _ hc)
        exact ⟨d, h1⟩
      | _ => simp at hk'
  · intro x c hf e
    have hf' : sc.names.lookup x = some .cell := by simpa [Yy] using hf
    rcases BC.mem x c (lk' x c e) with z | ⟨_, z, _⟩
    · -- a free one and a cell at once: the name stands once
      exfalso
      have q := S.lk (hcl x c z).1
      rw [hf'] at q
      cases q
    · show s.heap.objs.size ≤ c; omega
  · intro b hb
    obtain ⟨o, ho⟩ := fo b hb
    have hlt := Heap.lt_size ho
    refine ⟨Nat.ne_of_lt (Nat.lt_trans hlt (Nat.lt_succ_self _)), fun x c e z => ?_⟩
    rcases BC.mem x c (lk' x c e) with q | ⟨_, q, _⟩
    · exact (f b hb).2.2.2.2.1 x c (hcl x c q).2 z
    · subst z
      exact absurd hlt (Nat.not_lt.mpr (Nat.le_trans (Nat.le_add_right _ 2) q))
  · exact I.bs
  · exact Nat.le_trans I.ok.bsz I.sz
  · intro b o e hb
    rcases (f b hb).2.2.2.1 with z | z
    · exact I.ok.noex b o e z
    · exact absurd (Nat.lt_of_lt_of_le (Heap.lt_size e) I.ok.bsz) (Nat.not_lt.mpr z)
  · intro b hb z
    rcases List.mem_cons.mp (I.stkSub b z) with q | q
    · exact (f b hb).2.1 q
    · exact (f b hb).2.2.1 q
  · exact I.stack
  · exact I.stkFree
  · exact Un.laid keep (Nat.le_refl _) hnD
  · refine ⟨_, hC, fun i x v e1 e2 e3 => ?_⟩
    have e1' : (own ++ caps.map fun i => X.N.getD i Str.empty)[i]? = some x := by rw [← S.names]; exact e1
    have e2' : (own.map (fun _ => (none : Option V)) ++ caps.map fun i => (σ[i]?).getD none)[i]? = some (some v) := e2
    by_cases hi : i < own.length
    · rw [List.getElem?_append_left (by simpa using hi), List.getElem?_map] at e2'
      cases q : own[i]? with
      | none => rw [q] at e2'; cases e2'
      | some y => rw [q] at e2'; cases e2'
    · rw [List.getElem?_append_right (by simpa using hi), List.getElem?_map] at e2'
      rw [List.getElem?_append_right (by omega), List.getElem?_map] at e1'
      rw [List.length_map] at e2'
      cases q : caps[i - own.length]? with
      | none => rw [q] at e2'; cases e2'
      | some j =>
        rw [q] at e1' e2'
        have e1 : X.N.getD j Str.empty = x := Option.some.inj e1'
        have e2 : (σ[j]?).getD none = some v := Option.some.inj e2'
        have e4 : σ[j]? = some (some v) := by
          cases r : σ[j]? with
          | none => rw [r] at e2; cases e2
          | some o => rw [r] at e2; exact congrArg some e2
        have hj : j < X.N.length := by rw [← I.len]; exact (List.getElem?_eq_some_iff.mp e4).1
        have e5 : X.N[j]? = some x := by rw [← e1]; simp [List.getD_eq_getElem?_getD, hj]
        have hc := List.all_eq_true.mp S.caps j (List.mem_of_getElem? q)
        have e6 : sc.names.lookup x = some .free := by rw [← e1]; simpa using hc
        have hm := PySem.mem_of_lookup e6
        have kx := S.fr hm
        obtain ⟨m, hn, hl⟩ := I.loc
        obtain ⟨u, ru, lo⟩ := hl j x v e5 e4 (by rcases kx with z | z; exact .inr (.inl z); exact .inr (.inr z))
        refine ⟨u, ru, .inr ⟨?_, ?_⟩⟩
        · have := kinds x _ e6
          show (relabel sc X.env).names.lookup x = _ ∨ (relabel sc X.env).names.lookup x = _
          rw [this]
          split
          · exact .inl rfl
          · exact .inr rfl
        · rcases lo with ⟨z, _⟩ | ⟨_, c, hc1, hc2⟩
          · rcases kx with w | w <;> (rw [w] at z; cases z)
          · obtain ⟨d, hd⟩ := hcl2 x hm
            obtain ⟨d', h1, h2⟩ := Yv (BC.old _ hd)
            refine ⟨d', h1, ?_⟩
            rcases BC.mem x d' h2 with w | ⟨_, _, w⟩
            · have w' := (hcl x d' w).2
              rw [hc1] at w'
              cases w'
              exact hc2.keeps keep
            · have := S.lk w
              rw [e6] at this
              cases this
  · intro x c e
    exact isc x c (lk' x c e)
  · exact fresh _ (Nat.lt_succ_self _)
  · intro x c e
    rcases BC.mem x c (lk' x c e) with z | ⟨_, z, _⟩
    · have e' := (hcl x c z).2
      have hlt := cellOld x c e'
      rw [Zz (Nat.ne_of_lt hlt)]
      exact I.freeC x c e'
    · exact fresh c (by omega)
  · show (Jy own caps σ).length = N'.length
    rw [S.names]
    unfold Jy
    simp
end
end L2
namespace L2
open PySem PySem.Spec PyProof.Rows
noncomputable def Zvz (J : It) (g : TG) (tt : TT) (te : TE) (σ0 : St) (D : Addr) (Q : Hp → Prop) (H1 : Hp) : Prop :=
  ∃ W : Nat → Nat → St → Hp → Prop, (∃ m, W 0 m σ0 (upd H1 D (.lst []))) ∧ ∀ i m σ' H', W i m σ' H' →
    (J.stop i H' ∧ Q H') ∨ (J.go i H' ∧ ∀ x H2, J.yld i H' x H2 → g x σ' H2 fun σ2 H3 => tt σ2 H3 fun b H4 =>
      if b = true then te σ2 H4 fun y H5 => ∃ ys, H5 D = some (.lst ys) ∧ ys.length < sizeLine ∧ ∃ m', m' < m ∧ W (i + 1) m' σ2 (upd H5 D (.lst (ys ++ [y])))
      else ∃ m', m' < m ∧ W (i + 1) m' σ2 H4)
noncomputable def Zxg (own : List Str) (caps : List Nat) (wi : TI) (g : TG) (tt : TT) (te : TE) : TE := fun σ H Q => wi σ H fun J H1 => ∀ D, H1 D = none → Zvz J g tt te (Jy own caps σ) D (Q (.ref D)) H1
noncomputable def Z27 : TT := fun _ H Q => Q true H
noncomputable def Zvw (X : Cx) (ifs : List Expr) (t : TT) : Prop :=
  ∀ (pins : List (Addr × Obj)) (s : Shared) (σ : St) (H : Hp) (Q : Bool → Hp → Prop), Inv X pins σ H s → t σ H Q →
    wpAny (model X.prog X.w) X.A (forIn ifs true fun c r => if r = true then do let ok ← isTrue c X.env (eval c X.env); pure (ForInStep.yield ok) else pure (ForInStep.yield r)) (TP X pins σ Q) X.xe s
theorem Zx0 {X : Cx} : Zvw X [] Z27 := fun pins s σ H Q I h => by
  rw [List.forIn_nil]
  exact wpAny_pure ⟨H, I, h⟩
theorem Zvf {X : Cx} {c : Expr} {t : TT} (h : PT X c t) : Zvw X [c] t := fun pins s σ H Q I q => wpAny_tests_one (h pins s σ H Q I q)
theorem Zv8 {M : Model} {A : Around} {α : Type} {t : Sem α} {Q Q' : α → Shared → Prop} {E : Value → Shared → Prop} {s : Shared} (h : wpAny M A t Q (fun _ _ => False) s) (hQ : ∀ a s, Q a s → Q' a s) : wpAny M A t Q' E s :=
  wpAny_mono h hQ fun _ _ z => z.elim
section
variable {X : Cx} {own : List Str} {caps : List Nat} {N' : List Str} {sc : Scope} {tg elt iter : Expr} {ifs : List Expr} {pos : Pos} {wi : TI} {g : TG} {tt : TT} {te : TE}
theorem Zms {pins p' : List (Addr × Obj)} {σ σ' : St} {H H' : Hp} {s s' : Shared} {fp : List Addr} {C : Addr} {cells : List (Str × Addr)} {h' : Heap} (I : Inv X pins σ H s) (f : ∀ b ∈ fp, Zio X pins H b)
    (I' : Inv (Yy X N' sc C cells s H fp) p' σ' H' s') (hs : Heap.SameBut C s'.heap h') : Inv X pins σ H' { s' with heap := h' } := by
  have hC : s.heap.objs.size ≤ C := I'.ok.above
  have B := I'.base
  have ne : ∀ b o, s.heap.get? b = some o → b ≠ C := fun b o e => Nat.ne_of_lt (Nat.lt_of_lt_of_le (Heap.lt_size e) hC)
  obtain ⟨m, ⟨oC, _, _, hoC, _⟩, _⟩ := I'.loc
  refine I.call' (ch := fp) (s' := { s' with heap := h' }) I'.os ⟨fun b o e n hb hx => ?_, fun b o e n hb hx => ?_, B.free, fun b o e hx => ?_, B.tups, B.frzs, B.tbls⟩ (fun b ob e => ?_) I'.bare fun b hb => ?_
  · exact (hs.2 b (ne b o e)).trans (B.keep b o e n hb hx)
  · obtain ⟨sl, q⟩ := B.slot b o e n hb hx
    exact ⟨sl, (hs.2 b (ne b o e)).trans q⟩
  · obtain ⟨o', q⟩ := B.there b o e hx
    exact ⟨o', (hs.2 b (ne b o e)).trans q⟩
  · have hfree : H' C = none := I'.free
    refine (I'.hok b ob e).stay (fun c w' hc q => (hs.2 c ?_).trans q) (fun _ q => q) fun _ _ q => q
    rintro rfl
    rcases hc with rfl | hc
    · rw [hfree] at e; cases e
    · rw [hfree] at hc; cases hc
  · obtain ⟨_, f1, _, f3, f4, f5⟩ := f b hb
    exact ⟨f3, f1, f4, f5⟩
theorem Zg9 {Qf : Result → Shared → Prop} (S : CompScope X own caps N' sc) (hc : X.calm = true)
    (hg : ∀ C cells s₂ H₂ fp, PG (Yy X N' sc C cells s₂ H₂ fp) tg g) (ht : ∀ C cells s₂ H₂ fp, Zvw (Yy X N' sc C cells s₂ H₂ fp) ifs tt) (he : ∀ C cells s₂ H₂ fp, PE (Yy X N' sc C cells s₂ H₂ fp) elt te)
    {pins : List (Addr × Obj)} {σ : St} {H : Hp} {s : Shared} {fp : List Addr} {it : Addr} {tn : Nat → Heap → Prop} {J : It} {Q : Hp → Prop} (I : Inv X pins σ H s) (T : Turn X.prog X.w X.K tg J fp it tn) (st : tn 0 s.heap) (f : ∀ b ∈ fp, Zio X pins H b)
    (h : Zvz J g tt te (Jy own caps σ) s.heap.objs.size Q H)
    (fin : ∀ s' σ' H' p' C cells, Inv (Yy X N' sc C cells s H fp) p' σ' H' s' → C = s.heap.objs.size + 1 → Q H' → Qf (.ok .next) s') :
    wpAny (model X.prog X.w) X.A (newFunctionEnv sc X.env.globals (Zgu X.env sc.names []) [] X.env.qual none .none (some X.env)) (fun cenv s₄ =>
      cenv.locals = s.heap.objs.size + 1 ∧ codeAny (model X.prog X.w) X.A (.compStart (.ListComp elt [⟨tg, iter, ifs, 0⟩] sc pos) 0 (.ref it) (.ref s.heap.objs.size) { cenv with scope := relabel sc X.env }) Qf s₄) X.xe
        { s with heap := s.heap.push { cls := .type "list", data := .seq #[] } } := by
  have hf : ∀ y ∈ sc.names, y.2 = .free → ∃ c, X.env.cells.lookup y.1 = some c := fun y hy e => by
    obtain ⟨n, k⟩ := y
    have e' : k = .free := e
    subst e'
    exact I.ok.has n (S.fr hy)
  have hcl : ∀ n c, (n, c) ∈ Zgu X.env sc.names [] → (n, NameKind.free) ∈ sc.names ∧ X.env.cells.lookup n = some c := fun n c m => (Zid sc.names [] hf n c m).elim (fun z => nomatch z) id
  have hap := Zeo I.ok.inj sc.names [] hf S.nn (fun _ z => nomatch z) (fun _ z => nomatch z) .nil
  have I0 := Znj (cl := Zgu X.env sc.names []) S I f (fun b hb => let ⟨o, e, _⟩ := T.obj _ _ st b hb; ⟨o, e⟩) hcl (fun n m => Zir sc.names [] n m) hap
  refine Zg4 ?_
  rw [show ({ s with heap := s.heap.push { cls := .type "list", data := .seq #[] } } : Shared).heap.objs.size = s.heap.objs.size + 1 from Heap.size_push ..]
  refine ⟨rfl, ?_⟩
  dsimp only
  generalize hs0 : ({ s with heap := pushCells ((s.heap.push { cls := .type "list", data := .seq #[] }).push { cls := .type "dict", data := .dict #[] }) sc.names } : Shared) = s0 at I0 ⊢
  have st0 : tn 0 s0.heap := T.keep _ _ _ st fun b hb o e => by
    rw [← hs0]
    exact pushCells_keeps _ _ _ _ (Heap.get?_push_of_some _ (Heap.get?_push_of_some _ e))
  generalize hcells : cellsFrom (s.heap.objs.size + 1 + 1) sc.names (Zgu X.env sc.names []) = cells at I0 ⊢
  -- the loop
  obtain ⟨W, ⟨m0, w0⟩, turn⟩ := h
  have loop : codeAny (model X.prog X.w) X.A (.compLoop (.ListComp elt [⟨tg, iter, ifs, 0⟩] sc pos) 0 (.ref it) (.ref s.heap.objs.size) (Yy X N' sc (s.heap.objs.size + 1) cells s H fp).env) Qf s0 := by
    generalize hX' : Yy X N' sc (s.heap.objs.size + 1) cells s H fp = X' at I0 ⊢
    have hg' := hg (s.heap.objs.size + 1) cells s H fp
    have ht' := ht (s.heap.objs.size + 1) cells s H fp
    have he' := he (s.heap.objs.size + 1) cells s H fp
    have fin' := fun s' σ' H' p' (z : Inv (Yy X N' sc (s.heap.objs.size + 1) cells s H fp) p' σ' H' s') => fin s' σ' H' p' _ _ z rfl
    rw [hX'] at hg' ht' he' fin'
    have hxe : X'.xe = fun _ _ => False := by rw [← hX']; rfl
    have hpr : X'.prog = X.prog := by rw [← hX']; rfl
    have hw : X'.w = X.w := by rw [← hX']; rfl
    have hK : X'.K = X.K := by rw [← hX']; rfl
    have hA : X'.A = X.A := by rw [← hX']; rfl
    have hcm : X'.calm = true := by rw [← hX']; exact hc
    have hex : X'.ex = fp := by rw [← hX']; rfl
    have hpn : X'.pn = [] := by rw [← hX']; rfl
    have stat : ∀ {H' : Hp}, (∀ b ∈ fp, H' b = none) → ∀ b ∈ fp, Zio X' [] H' b := fun hn b hb => by
      have e1 := I0.ok.exf b (by rw [hex]; exact hb)
      have e2 := I0.ok.exfs b (by rw [hex]; exact hb)
      exact ⟨hn b hb, e1.1, e2, .inl (by rw [hex]; exact hb), e1.2, fun p hp => by rw [hpn] at hp; exact nomatch hp⟩
    have frD : ∀ b ∈ fp, (upd H s.heap.objs.size (.lst [])) b = none := fun b hb => by
      obtain ⟨o, e, _⟩ := T.obj _ _ st b hb
      rw [Zz (Nat.ne_of_lt (Heap.lt_size e))]
      exact (f b hb).1
    have T' : Turn X'.prog X'.w X'.K tg J fp it tn := by rw [hpr, hw, hK]; exact T
    rw [← hpr, ← hw, ← hA]
    refine Zjs (fun n s' => ∃ i σ' H', Inv X' [] σ' H' s' ∧ tn i s'.heap ∧ (∀ b ∈ fp, H' b = none) ∧ W i n σ' H') ?_ m0 ⟨0, _, _, I0, st0, frD, w0⟩
    rintro n s3 ⟨i, σ3, H3, I3, st3, fr3, w3⟩
    rcases turn i n σ3 H3 w3 with ⟨stop, qn⟩ | ⟨go, step⟩
    · refine Zv8 (T'.done X' rfl rfl rfl hcm i [] s3 σ3 H3 _ I3 (stat fr3) st3 stop) fun r s4 qz9 => ?_
      obtain ⟨hr, I4⟩ := qz9
      subst hr
      exact fin' s4 σ3 H3 [] I4 qn
    · refine Zv8 (T'.item X' rfl rfl rfl hcm i [] s3 σ3 H3 _ I3 (stat fr3) st3 go) fun r s4 qz9 => ?_
      obtain ⟨u, hr, h4⟩ := qz9
      subst hr
      refine Zv8 h4 fun _ s5 qz9 => ?_
      obtain ⟨x, H5, I5, r5, y5, st5, fr5⟩ := qz9
      have I5' := I5.pinned (stat fr5) (T.obj _ _ st5)
      have hgg := hg' _ s5 σ3 H5 x u _ I5' r5 (step x H5 y5)
      rw [hxe] at hgg
      refine Zv8 hgg fun _ s6 qz9 => ?_
      obtain ⟨σ6, H6, I6, q6⟩ := qz9
      have htt := ht' _ s6 σ6 H6 _ I6 q6
      rw [hxe] at htt
      refine Zv8 htt fun ok s7 qz9 => ?_
      obtain ⟨H7, I7, q7⟩ := qz9
      have again : ∀ {σ7 : St} {H7 : Hp} {s7 : Shared} {m : Nat}, Inv X' ([] ++ Zka fp s5.heap) σ7 H7 s7 → W (i + 1) m σ7 H7 → m < n → ∃ m, m < n ∧ ∃ i σ' H', Inv X' [] σ' H' s7 ∧ tn i s7.heap ∧ (∀ b ∈ fp, H' b = none) ∧ W i m σ' H' := fun {σ7 H7 s7 m} I7 w7 hm => by
        refine ⟨m, hm, i + 1, σ7, H7, I7.unpinned, T.keep _ _ _ st5 fun b hb o e => (I7.pin (b, o) (List.mem_append_right _ (List.mem_append_right _ (Zco hb e)))).1, fun b hb => ?_, w7⟩
        obtain ⟨o, e, d⟩ := T.obj _ _ st5 b hb
        exact (I7.pin (b, o) (List.mem_append_right _ (List.mem_append_right _ (Zco hb e)))).2.1
      cases ok with
      | false =>
        obtain ⟨m', hm, w7⟩ := q7
        rw [if_neg Bool.false_ne_true]
        exact again I7 w7 hm
      | true =>
        rw [if_pos rfl]
        have hee := he' _ s7 σ6 H7 _ I7 q7
        rw [hxe] at hee
        refine Zv8 hee fun y s8 qz9 => ?_
        obtain ⟨vy, H8, I8, r8, ys, hD, hlen, m', hm, w8⟩ := qz9
        have hap := Zj4 (X := X') _ s8 σ6 H8 (.ref s.heap.objs.size) [vy] (.ref s.heap.objs.size) [y] (fun _ H' => W (i + 1) m' σ6 H') I8 rfl (.cons r8 .nil) ⟨_, ys, vy, rfl, rfl, hD, hlen, w8⟩
        rw [hxe] at hap
        refine Zv8 hap fun z s9 qz9 => ?_
        obtain ⟨_, H9, I9, _, w9⟩ := qz9
        exact again I9 w9 hm
  exact codeAny_compStart_list loop (T.self _ 0 _ _ _ st0 loop)
theorem Zw9 (S : CompScope X own caps N' sc) (hc : X.calm = true) (hi : PI X tg iter wi)
    (hg : ∀ C cells s₂ H₂ fp, PG (Yy X N' sc C cells s₂ H₂ fp) tg g) (ht : ∀ C cells s₂ H₂ fp, Zvw (Yy X N' sc C cells s₂ H₂ fp) ifs tt) (he : ∀ C cells s₂ H₂ fp, PE (Yy X N' sc C cells s₂ H₂ fp) elt te)
    (hs : ∀ x, foldedSetIterable iter X.env x = pure x := by intro _; rfl) : PE X (.ListComp elt [⟨tg, iter, ifs, 0⟩] sc pos) (Zxg own caps wi g tt te) := by
  intro pins s σ H Q I h
  rw [eval_ListComp]
  have hf : ∀ y ∈ sc.names, y.2 = .free → ∃ c, X.env.cells.lookup y.1 = some c := fun y hy e => by
    obtain ⟨n, k⟩ := y
    have e' : k = .free := e
    subst e'
    exact I.ok.has n (S.fr hy)
  refine wpAny_comprehension_free (use := none) rfl hs (Zc3 hf) S.kind (fun y hy e => by obtain ⟨n, k⟩ := y; have e' : k = .local := e; subst e'; exact S.lk hy) ?_
  refine thn (hi pins s σ H _ I h) fun v s1 h1 => thn h1 fun itv s2 h2 => ?_
  obtain ⟨it, fp, tn, J, H2, e, I2, T, st2, f2, q⟩ := h2
  subst e
  refine wpAny_newObj_type ?_
  refine thn (Zg9 (iter := iter) (pos := pos) (Qf := compPost (model X.prog X.w) X.A X.xe none (EP X pins σ Q) (.ref s2.heap.objs.size) (s2.heap.objs.size + 1)) S hc hg ht he I2 T st2 f2 (q s2.heap.objs.size I2.fresh) ?_) fun cenv s4 ⟨hl, hr⟩ => ?_
  · intro s' σ' H' p' C cells I' eC q'
    subst eC
    obtain ⟨m, hn, _⟩ := id I'.loc
    exact ⟨m, hn, fun h' hs' => ⟨.ref s2.heap.objs.size, H', Zms I2 f2 I' hs', rfl, q'⟩⟩
  · rw [← hl] at hr
    exact hr
end
end L2
namespace L2
open PySem PySem.Spec PyProof.Rows
section
variable {X : Cx} {own : List Str} {caps : List Nat} {N' : List Str} {sc : Scope} {tg elt iter : Expr} {ifs : List Expr} {pos : Pos} {wi : TI} {g : TG} {tt : TT} {te : TE}
theorem Zhg {i : Nat} {y : Str} {py spos : Pos} (hN : X.N.Nodup) (hy : X.N[i]? = some y) (hx : Loc X.env.scope y) (S : CompScope X own caps N' sc) (hc : X.calm = true) (hi : PI X tg iter wi)
    (hg : ∀ C cells s₂ H₂ fp, PG (Yy X N' sc C cells s₂ H₂ fp) tg g) (ht : ∀ C cells s₂ H₂ fp, Zvw (Yy X N' sc C cells s₂ H₂ fp) ifs tt) (he : ∀ C cells s₂ H₂ fp, PE (Yy X N' sc C cells s₂ H₂ fp) elt te)
    (hsw : swapsWith (.ListComp elt [⟨tg, iter, ifs, 0⟩] sc pos) (some (.Name y py)) spos.line X.env = pure true := by rfl)
    (hs : ∀ x, foldedSetIterable iter X.env x = pure x := by intro _; rfl) (hf : X.fn y = true ∨ X.env.scope.names.lookup y = some .local := by first | exact .inl rfl | exact .inr rfl | assumption) :
    PS X (.Assign [.Name y py] (.ListComp elt [⟨tg, iter, ifs, 0⟩] sc pos) spos) (Zzj (Zxg own caps wi g tt te) (Zrf i)) := by
  intro pins s σ H D I h
  have hfr : ∀ y ∈ sc.names, y.2 = .free → ∃ c, X.env.cells.lookup y.1 = some c := fun y hy e => by
    obtain ⟨n, k⟩ := y
    have e' : k = .free := e
    subst e'
    exact I.ok.has n (S.fr hy)
  rw [exec_Assign_Name_used _ _ _ _ hsw]
  refine wpAny_bind (wpAny_standAt (wpAny_bind ?_))
  show wpAny _ X.A (do let _ ← comprehension (.ListComp elt [⟨tg, iter, ifs, 0⟩] sc pos) sc X.env _ (newList []) false (eval iter X.env) (some (assign (.Name y py) X.env))) _ _ s
  refine wpAny_bind (wpAny_mono (wpAny_comprehension_free (use := some (assign (.Name y py) X.env)) (Q := fun _ s' => SP X pins D .next s') rfl hs (Zc3 hfr) S.kind (fun y hy e => by obtain ⟨n, k⟩ := y; have e' : k = .local := e; subst e'; exact S.lk hy) ?_) (fun _ s' hq => wpAny_pure (wpAny_pure hq)) fun _ _ e => e)
  refine thn (hi pins s σ H _ I h) fun v s1 h1 => thn h1 fun itv s2 h2 => ?_
  obtain ⟨it, fp, tn, J, H2, e, I2, T, st2, f2, q⟩ := h2
  subst e
  refine wpAny_newObj_type ?_
  refine thn (Zg9 (iter := iter) (pos := pos) (Qf := compPost (model X.prog X.w) X.A X.xe (some (assign (.Name y py) X.env)) (fun _ s' => SP X pins D .next s') (.ref s2.heap.objs.size) (s2.heap.objs.size + 1)) S hc hg ht he I2 T st2 f2 (q s2.heap.objs.size I2.fresh) ?_) fun cenv s4 ⟨hl, hr⟩ => ?_
  · intro s' σ' H' p' C cells I' eC q'
    subst eC
    obtain ⟨m, hn, _⟩ := id I'.loc
    have I3 : Inv X pins σ H' s' := Zms I2 f2 I' (.refl ..)
    show wpAny _ X.A (assign (.Name y py) X.env (.ref s2.heap.objs.size)) _ _ s'
    refine wpAny_assign_Name (Zkh (v := .ref s2.heap.objs.size) I3 hN hy hx rfl (fun s5 I5 hsb => ?_) hf)
    have hC : s2.heap.objs.size < s2.heap.objs.size + 1 := Nat.lt_succ_self _
    have ltL : X.env.locals < s2.heap.objs.size := I2.lt
    have ltC : ∀ x c, X.env.cells.lookup x = some c → c < s2.heap.objs.size := fun x c e => by
      obtain ⟨w', z⟩ := I2.cell x c e
      exact z.lt
    refine ⟨m, ?_, fun h' hs' => ⟨σ.set i (some (.ref s2.heap.objs.size)), H', ?_, q'⟩⟩
    · obtain ⟨a, hsa, ha⟩ := hsb
      refine hn.sameBut hsa ?_
      rcases ha with ha | ha
      · rw [ha]; exact Nat.ne_of_gt (Nat.lt_trans ltL hC)
      · exact Nat.ne_of_gt (Nat.lt_trans (ltC _ _ ha) hC)
    · refine I5.turned (t' := s5.toks) (it := s2.heap.objs.size + 1) (fun b o hb e => (hs'.2 b hb).trans e) I'.free (Nat.ne_of_gt (Nat.lt_trans ltL hC)) (.inr (Nat.le_trans I2.sz (Nat.le_of_lt hC))) (fun x c e => Nat.ne_of_lt (Nat.lt_trans (ltC x c e) hC)) fun p hp => ?_
      obtain ⟨e, _⟩ := I2.pin p hp
      exact Nat.ne_of_lt (Nat.lt_trans (Heap.lt_size e) hC)
  · rw [← hl] at hr
    exact hr
end
section
variable (n : Nat) (D : Addr) (Pv : Nat → List V → St → Hp → Prop)
variable {n D Pv}
end
end L2
namespace L2
open PySem PySem.Spec PyProof.Rows
mutual
inductive Is (H : Hp) (L : Addr → Prop) : V → PyData → Prop where
  | non : Is H L .non .none
  | bl (b : Bool) : Is H L (.bl b) (.bool b)
  | int (i : Int) : Is H L (.int i) (.int i)
  | str (x : Str) : Is H L (.str x) (.str x)
  | lst {a : Addr} {xs : List V} {ds : List PyData} : L a → H a = some (.lst xs) → IsAll H L xs ds → Is H L (.ref a) (.list ds)
  | tup {a : Addr} {xs : List V} {ds : List PyData} : H a = some (.tup xs) → IsAll H L xs ds → Is H L (.ref a) (.tuple ds)
inductive IsAll (H : Hp) (L : Addr → Prop) : List V → List PyData → Prop where
  | nil : IsAll H L [] []
  | cons {x : V} {xs : List V} {d : PyData} {ds : List PyData} : Is H L x d → IsAll H L xs ds → IsAll H L (x :: xs) (d :: ds)
end
section
variable {H H' : Hp} {L L' : Addr → Prop}
theorem IsAll.ind {Q : List V → List PyData → Prop} (n : Q [] []) (c : ∀ {x : V} {xs : List V} {d : PyData} {ds : List PyData}, Is H L x d → IsAll H L xs ds → Q xs ds → Q (x :: xs) (d :: ds)) : ∀ {xs ds}, IsAll H L xs ds → Q xs ds := fun h =>
  IsAll.rec (motive_1 := fun _ _ _ => True) (motive_2 := fun xs ds _ => Q xs ds) trivial (fun _ => trivial) (fun _ => trivial) (fun _ => trivial) (fun _ _ _ _ => trivial) (fun _ _ _ => trivial) n (fun p q _ r => c p q r) h
theorem IsAll.length {xs : List V} {ds : List PyData} (h : IsAll H L xs ds) : xs.length = ds.length := IsAll.ind (Q := fun xs ds => xs.length = ds.length) rfl (fun _ _ r => congrArg (· + 1) r) h
theorem IsAll.set {xs : List V} {ds : List PyData} {x : V} {d : PyData} (i : Nat) (h : IsAll H L xs ds) (k : Is H L x d) : IsAll H L (xs.set i x) (ds.set i d) :=
  IsAll.ind (Q := fun xs ds => ∀ i, IsAll H L (xs.set i x) (ds.set i d)) (fun _ => .nil) (fun h q r i => Nat.casesOn i (.cons k q) fun i => .cons h (r i)) h i
end
section
variable {X : Cx} {pins : List (Addr × Obj)} {σ : St} {H : Hp} {s : Shared} {L L' : Addr → Prop}
end
noncomputable abbrev Shp (d : PyData) : Prop := SeqAt.shaped d = true
section
variable {X : Cx}
end
mutual
noncomputable def W2 : PyData → Bool
  | .none => true
  | .int _ => true
  | .str _ => true
  | .list ds => Ju ds
  | .tuple ds => Ju ds
  | _ => false
noncomputable def Ju : List PyData → Bool
  | [] => true
  | d :: ds => W2 d && Ju ds
end
mutual
theorem Zqr : ∀ (d e : PyData), W2 d = true → W2 e = true → (PyData.eqv d e = true ↔ d = e)
  | .none, e, _, he => by cases e <;> simp_all [PyData.eqv, W2]
  | .int i, e, _, he => by cases e <;> simp_all [PyData.eqv, W2]
  | .str i, e, _, he => by cases e <;> simp_all [PyData.eqv, W2]
  | .list ds, e, hd, he => by
    cases e with
    | list es =>
      rw [W2] at hd he
      rw [PyData.eqv, PyData.list.injEq]
      exact Zef ds es hd he
    | _ => simp_all [PyData.eqv, W2]
  | .tuple ds, e, hd, he => by
    cases e with
    | tuple es =>
      rw [W2] at hd he
      rw [PyData.eqv, PyData.tuple.injEq]
      exact Zef ds es hd he
    | _ => simp_all [PyData.eqv, W2]
  | .bool b, e, hd, _ => by simp [W2] at hd
  | .dict b, e, hd, _ => by simp [W2] at hd
theorem Zef : ∀ (ds es : List PyData), Ju ds = true → Ju es = true → (PyData.eqvAll ds es = true ↔ ds = es)
  | [], [], _, _ => by simp [PyData.eqvAll]
  | [], _ :: _, _, _ => by simp [PyData.eqvAll]
  | _ :: _, [], _, _ => by simp [PyData.eqvAll]
  | d :: ds, e :: es, hd, he => by
    rw [Ju, Bool.and_eq_true] at hd he
    rw [PyData.eqvAll, Bool.and_eq_true, Zqr d e hd.1 he.1, Zef ds es hd.2 he.2, List.cons.injEq]
end
theorem Zyj {d e : PyData} (h : W2 d = true) (k : W2 e = true) (q : d = e) : PyData.eqv d e = true := (Zqr d e h k).mpr q
noncomputable def fr (a b : Int) : PyData := .tuple [.int a, .int b]
end L2
namespace L2
open PySem PySem.Spec PyProof.Rows
theorem Zd3 {t b : Int} (hb : b ≠ 0) : 0 < (Int.gcd t b : Int) := by
  have := Int.gcd_pos_of_ne_zero_right t hb
  omega
theorem Wj {t g : Int} (hg : 0 < g) : t.fdiv g = t / g := Int.fdiv_eq_ediv_of_nonneg t (by omega)
theorem Zce {t g : Int} (hg : 0 < g) (h : g ∣ t) : t.fdiv (-g) = -(t / g) := by
  obtain ⟨k, rfl⟩ := h
  rw [Int.mul_ediv_cancel_left _ (by omega)]
  have e : g * k = (-k) * (-g) := by rw [Int.neg_mul_neg, Int.mul_comm]
  rw [e, Int.mul_fdiv_cancel _ (by omega)]
noncomputable def shr (t b : Int) : Int := if b < 0 then -(Int.gcd t b : Int) else (Int.gcd t b : Int)
theorem Zwi {t b : Int} (hb : b ≠ 0) : t.fdiv (shr t b) = (Rat.divInt t b).num := by
  have hg := Zd3 (t := t) hb
  have hd : (Int.gcd t b : Int) ∣ t := Int.gcd_dvd_left ..
  rw [Rat.num_divInt, Int.gcd_comm b t]
  unfold shr
  by_cases h : b < 0
  · rw [if_pos h, Zce hg hd, Int.sign_eq_neg_one_of_neg h, Int.neg_one_mul, Int.neg_ediv_of_dvd hd]
  · rw [if_neg h, Wj hg, Int.sign_eq_one_of_pos (by omega), Int.one_mul]
theorem Zv9 {t b : Int} (hb : b ≠ 0) : b.fdiv (shr t b) = ((Rat.divInt t b).den : Int) := by
  have hg := Zd3 (t := t) hb
  have hd : (Int.gcd t b : Int) ∣ b := Int.gcd_dvd_right ..
  rw [Rat.den_divInt, if_neg hb, Int.gcd_comm b t]
  unfold shr
  by_cases h : b < 0
  · have e : (b.natAbs : Int) = -b := by omega
    rw [if_pos h, Zce hg hd, Int.natCast_ediv, e, Int.neg_ediv_of_dvd hd]
  · have e : (b.natAbs : Int) = b := by omega
    rw [if_neg h, Wj hg, Int.natCast_ediv, e]
theorem Zu7 {t b : Int} (hb : b ≠ 0) : shr t b ≠ 0 := by
  have hg := Zd3 (t := t) hb
  unfold shr
  split <;> omega
theorem Zt9 {n : Nat} {t b : Int} (hb : b ≠ 0) (h : Bt n b) : Bt n (shr t b) := by
  have h1 : Bt n (Int.gcd t b : Int) := by
    refine Bt.of_le h ?_
    have := Int.gcd_le_natAbs_right t hb
    omega
  unfold shr
  split
  · exact h1.neg
  · exact h1
theorem Z12 {n : Nat} {t b : Int} (hb : b ≠ 0) (h : Bt n t) : Bt n (Rat.divInt t b).num := by
  rw [Rat.num_divInt]
  refine Bt.of_le h ?_
  refine Nat.le_trans (Int.natAbs_ediv_le_natAbs _ _) ?_
  rw [Int.natAbs_mul]
  have : b.sign.natAbs ≤ 1 := by
    rw [Int.natAbs_sign]
    split <;> omega
  calc b.sign.natAbs * t.natAbs ≤ 1 * t.natAbs := Nat.mul_le_mul_right _ this
    _ = t.natAbs := Nat.one_mul _
theorem Zn7 (q : Rat) : (q.den : Int) ≠ 0 := by
  have := q.den_pos
  omega
theorem Zi8 (q : Rat) : (0 : Int) < (q.den : Int) := by
  have := q.den_pos
  omega
noncomputable def frD (q : Rat) : PyData := fr q.num (q.den : Int)
noncomputable def BQ (n : Nat) (q : Rat) : Prop := Bt n q.num ∧ Bt n (q.den : Int)
theorem BQ.zero : BQ 1 0 := ⟨by unfold Bt; decide, by unfold Bt; decide⟩
end L2
namespace L2
open PySem PySem.Spec PyProof.Rows
section
variable {X : Cx}
end
end L2
namespace L2
open PySem PySem.Spec PyProof.Rows
section
variable {X : Cx} {K : PySem.W.Frag} {a b o e : Expr} {ta tb tl to : TE} {pos : Pos}
theorem Zr1 (hK : X.K = K) : IxR X (Z4z K) := hK ▸ Zrh
theorem Zi1 (hK : X.K = K) : IxR X (rIx K) := hK ▸ Zyr
theorem Zss (hK : X.K = K) : SlR X (Z6f K) := hK ▸ Zw5
noncomputable def Z6c (K : PySem.W.Frag) : List V → Hp → VK → Prop := fun xs H Q => ∃ p ys, xs = [.ref p] ∧ (SqL K H p ys ∨ SqT K H p ys) ∧ Q (.int ys.length) H
theorem Zbd (hK : X.K = K) : Zdm X (.builtin "len") (Z6c K) := by subst hK; exact Zkm
noncomputable def Zoq (K : PySem.W.Frag) : List V → Hp → VK → Prop := fun xs H Q => ∃ p ys, xs = [.ref p] ∧ (SqL K H p ys ∨ SqT K H p ys) ∧ ∀ l, H l = none → Q (.ref l) (upd H l (.lst ys))
theorem Zg6 (hK : X.K = K) : Zdm X (.type "list") (Zoq K) := by subst hK; exact Zkq
noncomputable def Z7v (K : PySem.W.Frag) (ta : TE) : TT := fun σ H Q => ta σ H fun x H' => ∃ k, Z4t K x H' k ∧ Q k H'
theorem Zxm (hK : X.K = K) (ha : PE X a ta) (he : ∀ whole, isTrue a X.env whole = (do let v ← whole; standAt a.pos; holding [v] (truthy v))) : PT X a (Z7v K ta) := by subst hK; exact Zrt ha he
theorem Ztv {tg l : Expr} (hK : X.K = K) (hl : PE X l tl) : PI X tg l (Z11 K tl) := by subst hK; exact Zvk hl
theorem Zud (hK : X.K = K) : OpR X (compareOp .In) (rIn K false) := by subst hK; exact Zob
theorem Zkl (hK : X.K = K) : OpR X (compareOp .NotIn) (rIn K true) := by subst hK; exact Zkj
end
end L2
namespace L2
open PySem PySem.Spec PyProof.Rows
theorem Z7 {H : Hp} {p : Addr} (h : H p = none) (o : HO) : Same H (upd H p o) := fun b u q => by rw [Zz (Y6 q h)]; exact q
noncomputable def But (p : Addr) (H H' : Hp) : Prop := ∀ b o, b ≠ p → H b = some o → H' b = some o
theorem But.upd (p : Addr) (H : Hp) (o : HO) : But p H (upd H p o) := fun b u n e => by rw [Zz n]; exact e
noncomputable def Pl (H : Hp) (p : Addr) (n : Nat) : Prop := ∃ a b c : Int, H p = some (.lst [.int a, .int b, .int c]) ∧ 0 ≤ c ∧ c ≤ n
theorem Pl.at {H : Hp} {p : Addr} {n : Nat} (h : Pl H p n) : ∃ xs, H p = some (.lst xs) := by
  obtain ⟨a, b, c, e, h1, h2⟩ := h
  exact ⟨_, e⟩
namespace B
theorem boot_abs : bootBuiltins "abs" = some (.builtin "abs") := by decide +kernel
theorem boot_len : bootBuiltins "len" = some (.builtin "len") := by decide +kernel
theorem boot_max : bootBuiltins "max" = some (.builtin "max") := by decide +kernel
theorem boot_isinstance : bootBuiltins "isinstance" = some (.builtin "isinstance") := by decide +kernel
theorem boot_sorted : bootBuiltins "sorted" = some (.builtin "sorted") := by decide +kernel
theorem boot_int : bootBuiltins "int" = some (.type "int") := by decide +kernel
theorem boot_bool : bootBuiltins "bool" = some (.type "bool") := by decide +kernel
theorem boot_str : bootBuiltins "str" = some (.type "str") := by decide +kernel
theorem boot_list : bootBuiltins "list" = some (.type "list") := by decide +kernel
theorem boot_tuple : bootBuiltins "tuple" = some (.type "tuple") := by decide +kernel
theorem boot_range : bootBuiltins "range" = some (.type "range") := by decide +kernel
theorem boot_zip : bootBuiltins "zip" = some (.type "zip") := by decide +kernel
end B
theorem Zd7 {a b : Int} (hb : 0 < b) : a.fmod b = a % b := Int.fmod_eq_emod_of_nonneg a (by omega)
theorem Ztb {x y : Int} (hx : 0 ≤ x) (hy : 0 < y) : Int.gcd y (x.fmod y) = Int.gcd x y := by
  rw [Zd7 hy, Int.gcd_comm x y]
  have e := Int.emod_add_mul_ediv x y
  conv => rhs; rw [← e]
  rw [Int.gcd_add_mul_left_right]
theorem Zzd : (2 : Nat) ≤ sizeLine := by decide
end L2
namespace L2
open PySem PySem.Spec PyProof.Rows
section
variable {X : Cx} {K : PySem.W.Frag} {pos : Pos}
end
end L2
namespace L2
open PySem PySem.Spec PyProof.Rows
theorem Zr4 (q : Rat) : Rat.divInt q.num (q.den : Int) = q := Rat.num_divInt_den q
end L2
namespace L2
open PySem PySem.Spec PyProof.Rows
section
variable {X : Cx}
end
end L2
namespace L2
open PySem PySem.Spec PyProof.Rows
theorem BQ.n {n : Nat} {q : Rat} (h : BQ n q) : Bt n q.num := h.1
theorem BQ.d {n : Nat} {q : Rat} (h : BQ n q) : Bt n (q.den : Int) := h.2
theorem Z8h (q : Rat) : (((q.den : Int)) : Rat) ≠ 0 := by
  intro z
  exact Zn7 q (Rat.intCast_eq_zero_iff.mp z)
theorem Z76 (q : Rat) : ((q.num : Int) : Rat) = q * (((q.den : Int)) : Rat) := by
  have h := Zr4 q
  rw [Rat.divInt_eq_div] at h
  have d := Z8h q
  conv => rhs; lhs; rw [← h]
  grind
end L2
namespace L2
end L2
namespace L2
end L2
namespace L2
open PySem PySem.Spec PyProof.Rows
variable {G : PySem.W.Frag}
noncomputable def KS (G : PySem.W.Frag) (a : Addr) (ns : List Int) : Prop := ∃ (o : Obj) (its : Array Value) (n : Nat), G.lookup a = some o ∧ o.cls = .type "list" ∧ o.dict = none ∧ o.data = .seq its n ∧ its.size ≤ sizeLine ∧ Vals (ns.map V.int) its.toList
theorem KS.sq {G : PySem.W.Frag} {H : Hp} {a : Addr} {ns : List Int} (h : KS G a ns) : SqL G H a (ns.map V.int) := .inr h
noncomputable def exD (x : Str) : PyData := .dict [(.str x, .none)]
noncomputable def fnD (x : Str) : PyData := .dict [(.str x, .bool true)]
noncomputable def Zgi : PyData → Bool | .dict ((_, .bool _) :: _) => true | _ => false
noncomputable def ClsAt (G : PySem.W.Frag) (x : Str) (C : Addr) : Prop := PySem.W.nsIn G mainGlobals x = some (some (.ref C))
structure Zh7 (G : PySem.W.Frag) (C : Addr) : Prop where
  ga : PySem.W.findIn G (.ref C) "__getattribute__" = some (some (.builtin "BaseException.__getattribute__"))
  gt : PySem.W.findIn G (.ref C) "__getattr__" = some none
  cl : PySem.W.findIn G (.ref C) "__class__" = some (some (.builtin "object.__class__"))
  isB : PySem.W.subIn G (.ref C) (.type "BaseException") = some true
  isO : PySem.W.subIn G (.ref C) (.type "object") = some true
  isC : (PySem.W.clsIn G C).isSome = true
  k1 : PySem.W.kitOne G (.ref C) (.type "int") = some false
  k2 : PySem.W.kitOne G (.ref C) (.type "bool") = some false
  k3 : PySem.W.kitOne G (.ref C) (.type "str") = some false
  k4 : PySem.W.kitOne G (.ref C) (.type "list") = some false
  k5 : PySem.W.kitOne G (.ref C) (.type "tuple") = some false
noncomputable def ExO (C a : Addr) (h : Heap) : Prop := ∃ o vs, h.get? a = some o ∧ o.cls = .ref C ∧ o.data = .fields vs
inductive ImO where
  | tup (xs : List V)
  | ext (φ : Heap → Prop)
noncomputable def ImO.ho : ImO → HO
  | .tup xs => .tup xs
  | .ext φ => .ext φ
inductive MuO where
  | lst (xs : List V)
  | dK (kvs : List (Key × V))
  | dT (kvs : List (List Key × V))
noncomputable def MuO.ho : MuO → HO
  | .lst xs => .lst xs
  | .dK kvs => .dK kvs
  | .dT kvs => .dT kvs
noncomputable def Z5p : Key → PyData
  | .inl i => .int i
  | .inr x => .str x
noncomputable def Z8d (ks : List Key) : PyData := .tuple (ks.map Z5p)
noncomputable abbrev KY := Sum Key (List Key)
noncomputable def kyD : KY → PyData
  | .inl k => Z5p k
  | .inr ks => Z8d ks
noncomputable def MuO.dic (t : Bool) (ks : List KY) (xs : List V) : MuO → Prop
  | .lst _ => False
  | .dK kvs => t = false ∧ ks = kvs.map (fun p => .inl p.1) ∧ xs = kvs.map (·.2)
  | .dT kvs => t = true ∧ ks = kvs.map (fun p => .inr p.1) ∧ xs = kvs.map (·.2)
noncomputable def dcD (t : Bool) (ks : List KY) (ds : List PyData) : PyData := .dict ((.none, .bool t) :: (ks.map kyD).zip ds)
theorem ImO.nm {H : Hp} {a : Addr} {x : ImO} {y : MuO} (h : H a = some x.ho) (h' : H a = some y.ho) : False := by
  rw [h] at h'
  cases x <;> cases y <;> cases h'
theorem ImO.nl {H : Hp} {a : Addr} {x : ImO} {ys : List V} (h : H a = some x.ho) (h' : H a = some (.lst ys)) : False := by
  rw [h] at h'
  cases x <;> cases h'
mutual
inductive Da (G : PySem.W.Frag) (H : Hp) (L : Addr → Prop) : V → PyData → Prop where
  | non : Da G H L .non .none
  | bl (b : Bool) : Da G H L (.bl b) (.bool b)
  | int (i : Int) : Da G H L (.int i) (.int i)
  | str (x : Str) : Da G H L (.str x) (.str x)
  | lst {a : Addr} {xs : List V} {ds : List PyData} : L a → Rd H a (.lst xs) → Das G H L xs ds → Da G H L (.ref a) (.list ds)
  | tup {a : Addr} {xs : List V} {ds : List PyData} : H a = some (.tup xs) → Das G H L xs ds → Da G H L (.ref a) (.tuple ds)
  | scr {a : Addr} {ns : List Int} : KS G a ns → Da G H L (.ref a) (.list (ns.map PyData.int))
  | exc {a C : Addr} {x : Str} : Zh7 G C → ClsAt G x C → H a = some (.ext (ExO C a)) → Da G H L (.ref a) (exD x)
  | fn {a : Addr} {x : Str} : ClsAt G x a → Da G H L (.ref a) (fnD x)
  | dic {a : Addr} {o : MuO} {t : Bool} {ks : List KY} {xs : List V} {ds : List PyData} : L a → Rd H a o.ho → o.dic t ks xs → Das G H L xs ds → Da G H L (.ref a) (dcD t ks ds)
inductive Das (G : PySem.W.Frag) (H : Hp) (L : Addr → Prop) : List V → List PyData → Prop where
  | nil : Das G H L [] []
  | cons {x : V} {xs : List V} {d : PyData} {ds : List PyData} : Da G H L x d → Das G H L xs ds → Das G H L (x :: xs) (d :: ds)
end
section
variable {H H' : Hp} {L L' : Addr → Prop}
theorem Da.both {P : V → PyData → Prop} {Q : List V → List PyData → Prop} (c1 : P .non .none) (c2 : ∀ b, P (.bl b) (.bool b)) (c3 : ∀ i, P (.int i) (.int i)) (c4 : ∀ x, P (.str x) (.str x))
    (c5 : ∀ {a : Addr} {xs : List V} {ds : List PyData}, L a → Rd H a (.lst xs) → Q xs ds → P (.ref a) (.list ds)) (c6 : ∀ {a : Addr} {xs : List V} {ds : List PyData}, H a = some (.tup xs) → Q xs ds → P (.ref a) (.tuple ds))
    (c7 : ∀ {a : Addr} {ns : List Int}, KS G a ns → P (.ref a) (.list (ns.map PyData.int))) (c8 : ∀ {a C : Addr} {x : Str}, Zh7 G C → ClsAt G x C → H a = some (.ext (ExO C a)) → P (.ref a) (exD x)) (c9 : ∀ {a : Addr} {x : Str}, ClsAt G x a → P (.ref a) (fnD x))
    (c10 : ∀ {a : Addr} {o : MuO} {t : Bool} {ks : List KY} {xs : List V} {ds : List PyData}, L a → Rd H a o.ho → o.dic t ks xs → Q xs ds → P (.ref a) (dcD t ks ds)) (n : Q [] []) (c : ∀ {x : V} {xs : List V} {d : PyData} {ds : List PyData}, P x d → Q xs ds → Q (x :: xs) (d :: ds)) : (∀ {v d}, Da G H L v d → P v d) ∧ ∀ {xs ds}, Das G H L xs ds → Q xs ds :=
  ⟨fun h => Da.rec (motive_1 := fun v d _ => P v d) (motive_2 := fun xs ds _ => Q xs ds) c1 c2 c3 c4 (fun p e _ r => c5 p e r) (fun e _ r => c6 e r) (fun k => c7 k) (fun k l m => c8 k l m) (fun k => c9 k) (fun p e k _ r => c10 p e k r) n (fun _ _ p q => c p q) h,
   fun h => Das.rec (motive_1 := fun v d _ => P v d) (motive_2 := fun xs ds _ => Q xs ds) c1 c2 c3 c4 (fun p e _ r => c5 p e r) (fun e _ r => c6 e r) (fun k => c7 k) (fun k l m => c8 k l m) (fun k => c9 k) (fun p e k _ r => c10 p e k r) n (fun _ _ p q => c p q) h⟩
theorem Das.ind {Q : List V → List PyData → Prop} (n : Q [] []) (c : ∀ {x : V} {xs : List V} {d : PyData} {ds : List PyData}, Da G H L x d → Das G H L xs ds → Q xs ds → Q (x :: xs) (d :: ds)) : ∀ {xs ds}, Das G H L xs ds → Q xs ds := fun h =>
  Das.rec (motive_1 := fun _ _ _ => True) (motive_2 := fun xs ds _ => Q xs ds) trivial (fun _ => trivial) (fun _ => trivial) (fun _ => trivial) (fun _ _ _ _ => trivial) (fun _ _ _ => trivial) (fun _ => trivial) (fun _ _ _ => trivial) (fun _ => trivial) (fun _ _ _ _ _ => trivial) n (fun p q _ r => c p q r) h
theorem Da.frame2 (hl : ∀ a (xs : MuO), L a → Rd H a xs.ho → L' a ∧ Rd H' a xs.ho) (ht : ∀ a (xs : ImO), H a = some xs.ho → H' a = some xs.ho) : (∀ {v : V} {d : PyData}, Da G H L v d → Da G H' L' v d) ∧ ∀ {xs : List V} {ds : List PyData}, Das G H L xs ds → Das G H' L' xs ds :=
  Da.both .non .bl .int .str (fun {_ xs _} p e r => .lst (hl _ (.lst xs) p e).1 (hl _ (.lst xs) p e).2 r) (fun {_ xs _} e r => .tup (ht _ (.tup xs) e) r) .scr (fun c n e => .exc c n (ht _ (.ext _) e)) .fn (fun p e k r => .dic (hl _ _ p e).1 (hl _ _ p e).2 k r) .nil .cons
theorem Da.frame (hl : ∀ a (xs : MuO), L a → Rd H a xs.ho → L' a ∧ Rd H' a xs.ho) (ht : ∀ a (xs : ImO), H a = some xs.ho → H' a = some xs.ho) {v : V} {d : PyData} (h : Da G H L v d) : Da G H' L' v d := (Da.frame2 hl ht).1 h
theorem Das.frame (hl : ∀ a (xs : MuO), L a → Rd H a xs.ho → L' a ∧ Rd H' a xs.ho) (ht : ∀ a (xs : ImO), H a = some xs.ho → H' a = some xs.ho) {xs : List V} {ds : List PyData} (h : Das G H L xs ds) : Das G H' L' xs ds := (Da.frame2 hl ht).2 h
theorem Rd.same {a : Addr} {u : HO} (s : Same H H') (h : Rd H a u) : Rd H' a u := h.imp (s _ _) fun ⟨o, h⟩ => ⟨o, s _ _ h⟩
theorem Rd.some {a : Addr} {u : HO} (h : Rd H a u) : H a ≠ Option.none := by
  rcases h with h | ⟨o, h⟩ <;> rw [h] <;> intro z <;> cases z
theorem Da.same (h : Same H H') {v : V} {d : PyData} (x : Da G H L v d) : Da G H' L v d := x.frame (fun a xs p e => ⟨p, e.same h⟩) fun a xs e => h _ _ e
theorem Das.same (h : Same H H') {v : List V} {d : List PyData} (x : Das G H L v d) : Das G H' L v d := x.frame (fun a xs p e => ⟨p, e.same h⟩) fun a xs e => h _ _ e
theorem Da.wide (h : ∀ a, L a → H a ≠ none → L' a) {v : V} {d : PyData} (x : Da G H L v d) : Da G H L' v d := x.frame (fun a xs p e => ⟨h a p e.some, e⟩) fun a xs e => e
theorem Das.wide (h : ∀ a, L a → H a ≠ none → L' a) {v : List V} {d : List PyData} (x : Das G H L v d) : Das G H L' v d := x.frame (fun a xs p e => ⟨h a p e.some, e⟩) fun a xs e => e
theorem Das.length {xs : List V} {ds : List PyData} (h : Das G H L xs ds) : xs.length = ds.length := Das.ind (Q := fun xs ds => xs.length = ds.length) rfl (fun _ _ r => congrArg (· + 1) r) h
theorem Das.append {xs ys : List V} {ds es : List PyData} (h : Das G H L xs ds) (k : Das G H L ys es) : Das G H L (xs ++ ys) (ds ++ es) := Das.ind (Q := fun xs ds => Das G H L (xs ++ ys) (ds ++ es)) k (fun h _ r => .cons h r) h
theorem Das.get {xs : List V} {ds : List PyData} {i : Nat} {d : PyData} (h : Das G H L xs ds) : ds[i]? = some d → ∃ x, xs[i]? = some x ∧ Da G H L x d :=
  Das.ind (Q := fun xs ds => ∀ i, ds[i]? = some d → ∃ x, xs[i]? = some x ∧ Da G H L x d) (fun _ e => (Option.some_ne_none _ (e.symm.trans List.getElem?_nil)).elim) (fun {x _ _ _} h _ r i => Nat.casesOn i (fun e => ⟨x, rfl, Option.some.inj e ▸ h⟩) fun i e => r i e) h i
theorem Das.take {xs : List V} {ds : List PyData} (n : Nat) (h : Das G H L xs ds) : Das G H L (xs.take n) (ds.take n) :=
  Das.ind (Q := fun xs ds => ∀ n, Das G H L (xs.take n) (ds.take n)) (fun n => by rw [List.take_nil, List.take_nil]; exact .nil) (fun h _ r n => Nat.casesOn n .nil fun n => .cons h (r n)) h n
theorem Das.drop {xs : List V} {ds : List PyData} (n : Nat) (h : Das G H L xs ds) : Das G H L (xs.drop n) (ds.drop n) :=
  Das.ind (Q := fun xs ds => ∀ n, Das G H L (xs.drop n) (ds.drop n)) (fun n => by rw [List.drop_nil, List.drop_nil]; exact .nil) (fun h q r n => Nat.casesOn n (.cons h q) fun n => r n) h n
theorem Das.ints (ns : List Int) : Das G H L (ns.map V.int) (ns.map PyData.int) := by
  induction ns with
  | nil => exact .nil
  | cons n ns ih => exact .cons (.int n) ih
theorem Das.int_inv {xs : List V} {ns : List Int} (h : Das G H L xs (ns.map PyData.int)) : xs = ns.map V.int := by
  induction ns generalizing xs with
  | nil => cases h; rfl
  | cons n ns ih =>
    rw [List.map_cons] at h
    cases h with
    | cons h r => cases h; rw [ih r]; rfl
end
theorem Zni {h : Heap} (ns : List Int) {us : List Value} (v : Vals (ns.map V.int) us) : ∃ as, ReadsAll h us (ns.map PyData.int) as := by
  induction ns generalizing us with
  | nil => cases v; exact ⟨_, .nil⟩
  | cons n ns ih =>
    rw [List.map_cons] at v
    cases v with
    | cons r rs =>
      obtain ⟨t, e⟩ := (show ∃ t, _ = Value.int n t from r)
      subst e
      obtain ⟨bs, k'⟩ := ih rs
      exact ⟨_, .cons (.int n t) k'⟩
section
variable {X : Cx} {pins : List (Addr × Obj)} {σ : St} {H : Hp} {s : Shared} {L L' : Addr → Prop}
theorem Da.reads2 (hG : X.K = G) (I : Inv X pins σ H s) : (∀ {v : V} {d : PyData}, Da G H L v d → ∀ u, RelV v u → d.canLay0 = true → ∃ as, Reads s.heap u d as) ∧ ∀ {xs : List V} {ds : List PyData}, Das G H L xs ds → ∀ us, Vals xs us → PyData.canLayAll0 ds = true → ∃ as, ReadsAll s.heap us ds as := by
  refine Da.both ?_ ?_ ?_ ?_ ?_ ?_ ?_ ?_ ?_ ?_ ?_ ?_
  · intro u r _
    cases (show _ = Value.none from r)
    exact ⟨_, .none⟩
  · intro b u r _
    cases (show _ = Value.bool b from r)
    exact ⟨_, .bool b⟩
  · intro i u r _
    obtain ⟨t, e⟩ := (show ∃ t, _ = Value.int i t from r)
    subst e
    exact ⟨_, .int i t⟩
  · intro x u r _
    obtain ⟨t, e⟩ := (show ∃ t, _ = Value.str x t from r)
    subst e
    exact ⟨_, .str x t⟩
  · intro a xs ds _ e q u r hcl
    cases (show _ = Value.ref a from r)
    obtain ⟨_, its, n, vs, h1⟩ := (show ObjOk X.prog X.w H s.heap a (.lst xs) from e.ok I.hok)
    rw [PyData.canLay0] at hcl
    obtain ⟨as, k⟩ := q _ vs hcl
    exact ⟨_, Reads.list h1 rfl rfl k⟩
  · intro a xs ds e q u r hcl
    cases (show _ = Value.ref a from r)
    obtain ⟨_, its, vs, o, ho, hc, n, hd⟩ := (show ObjOk X.prog X.w H s.heap a (.tup xs) from I.hok a _ e)
    rw [PyData.canLay0] at hcl
    obtain ⟨as, k⟩ := q _ vs hcl
    exact ⟨_, Reads.tuple ho hc hd k⟩
  · intro a ns k u r _
    cases (show _ = Value.ref a from r)
    subst hG
    obtain ⟨its, vs, ⟨o, n, ho, hc, hd, hs⟩, _⟩ := I.list (k.sq (H := H))
    obtain ⟨as, q⟩ := Zni ns vs
    exact ⟨_, Reads.list ho hc hs q⟩
  · intro a C x _ _ e u r hc
    rw [exD, PyData.canLay0] at hc
    cases hc
  · intro a x _ u r hc
    rw [fnD, PyData.canLay0] at hc
    cases hc
  · intro a o t ks xs ds _ _ _ _ u r hc
    rw [dcD, PyData.canLay0] at hc
    cases hc
  · intro us v _
    cases v
    exact ⟨_, .nil⟩
  · intro x xs d ds h q us v hc
    cases v with
    | cons r rs =>
      rw [PyData.canLayAll0, Bool.and_eq_true] at hc
      obtain ⟨as, k⟩ := h _ r hc.1
      obtain ⟨bs, k'⟩ := q _ rs hc.2
      exact ⟨_, .cons k k'⟩
theorem Da.reads (hG : X.K = G) (I : Inv X pins σ H s) {v : V} {d : PyData} {u : Value} (h : Da G H L v d) (r : RelV v u) (c : d.canLay0 = true) : ∃ as, Reads s.heap u d as := (Da.reads2 hG I).1 h u r c
end
inductive OT where
  | fz (d : PyData)
  | nd (ts : List OT)
  | tp (ts : List OT)
  | dc (t : Bool) (ks : List KY) (ds : List PyData)
mutual
noncomputable def OT.data : OT → PyData
  | .fz d => d
  | .nd ts => .list (OT.datas ts)
  | .tp ts => .tuple (OT.datas ts)
  | .dc t ks ds => dcD t ks ds
noncomputable def OT.datas : List OT → List PyData
  | [] => []
  | t :: ts => t.data :: OT.datas ts
end
theorem OT.datas_map : ∀ (ts : List OT), OT.datas ts = ts.map OT.data
  | [] => rfl
  | t :: ts => by rw [OT.datas, OT.datas_map ts]; rfl
@[simp] theorem OT.data_fz (d : PyData) : (OT.fz d).data = d := by rw [OT.data]
@[simp] theorem OT.data_nd (ts : List OT) : (OT.nd ts).data = .list (ts.map OT.data) := by rw [OT.data, OT.datas_map]
@[simp] theorem OT.data_tp (ts : List OT) : (OT.tp ts).data = .tuple (ts.map OT.data) := by rw [OT.data, OT.datas_map]
theorem OT.data_dc (t : Bool) (ks : List KY) (ds : List PyData) : (OT.dc t ks ds).data = dcD t ks ds := by rw [OT.data]
@[simp] theorem OT.map_fz (ds : List PyData) : (ds.map OT.fz).map OT.data = ds := by
  rw [List.map_map]
  exact (List.map_congr_left fun d _ => OT.data_fz d).trans (List.map_id _)
mutual
inductive Own (G : PySem.W.Frag) (H : Hp) (L : Addr → Prop) : V → OT → List Addr → Prop where
  | fz {v : V} {d : PyData} : Da G H L v d → Own G H L v (.fz d) []
  | nd {a : Addr} {xs : List V} {ts : List OT} {bs : List Addr} : H a = some (.lst xs) → Owns G H L xs ts bs → Own G H L (.ref a) (.nd ts) (a :: bs)
  | tp {a : Addr} {xs : List V} {ts : List OT} {bs : List Addr} : H a = some (.tup xs) → Owns G H L xs ts bs → Own G H L (.ref a) (.tp ts) bs
  | dc {a : Addr} {o : MuO} {t : Bool} {ks : List KY} {xs : List V} {ds : List PyData} : H a = some o.ho → o.dic t ks xs → Das G H L xs ds → Own G H L (.ref a) (.dc t ks ds) [a]
inductive Owns (G : PySem.W.Frag) (H : Hp) (L : Addr → Prop) : List V → List OT → List Addr → Prop where
  | nil : Owns G H L [] [] []
  | cons {x : V} {xs : List V} {t : OT} {ts : List OT} {as bs : List Addr} : Own G H L x t as → Owns G H L xs ts bs → Owns G H L (x :: xs) (t :: ts) (as ++ bs)
end
section
variable {H H' : Hp} {L L' : Addr → Prop}
theorem Own.both {P : V → OT → List Addr → Prop} {Q : List V → List OT → List Addr → Prop} (c1 : ∀ {v : V} {d : PyData}, Da G H L v d → P v (.fz d) []) (c2 : ∀ {a : Addr} {xs : List V} {ts : List OT} {bs : List Addr}, H a = some (.lst xs) → Q xs ts bs → P (.ref a) (.nd ts) (a :: bs))
    (c3 : ∀ {a : Addr} {xs : List V} {ts : List OT} {bs : List Addr}, H a = some (.tup xs) → Q xs ts bs → P (.ref a) (.tp ts) bs) (c4 : ∀ {a : Addr} {o : MuO} {t : Bool} {ks : List KY} {xs : List V} {ds : List PyData}, H a = some o.ho → o.dic t ks xs → Das G H L xs ds → P (.ref a) (.dc t ks ds) [a]) (n : Q [] [] []) (c : ∀ {x : V} {xs : List V} {t : OT} {ts : List OT} {as bs : List Addr}, P x t as → Q xs ts bs → Q (x :: xs) (t :: ts) (as ++ bs)) :
    (∀ {v t as}, Own G H L v t as → P v t as) ∧ ∀ {xs ts as}, Owns G H L xs ts as → Q xs ts as :=
  ⟨fun h => Own.rec (motive_1 := fun v t as _ => P v t as) (motive_2 := fun xs ts as _ => Q xs ts as) c1 (fun e _ r => c2 e r) (fun e _ r => c3 e r) (fun e k r => c4 e k r) n (fun _ _ p q => c p q) h,
   fun h => Owns.rec (motive_1 := fun v t as _ => P v t as) (motive_2 := fun xs ts as _ => Q xs ts as) c1 (fun e _ r => c2 e r) (fun e _ r => c3 e r) (fun e k r => c4 e k r) n (fun _ _ p q => c p q) h⟩
theorem Own.frame2 (hl : ∀ a (xs : MuO), L a → Rd H a xs.ho → L' a ∧ Rd H' a xs.ho) (ht : ∀ a (xs : ImO), H a = some xs.ho → H' a = some xs.ho) :
    (∀ {v : V} {t : OT} {as : List Addr}, Own G H L v t as → (∀ a ∈ as, ∀ xs : MuO, H a = some xs.ho → H' a = some xs.ho) → Own G H' L' v t as) ∧ ∀ {xs : List V} {ts : List OT} {as : List Addr}, Owns G H L xs ts as → (∀ a ∈ as, ∀ xs : MuO, H a = some xs.ho → H' a = some xs.ho) → Owns G H' L' xs ts as :=
  Own.both (fun h _ => .fz (h.frame hl ht)) (fun {_ xs _ _} e r ha => .nd (ha _ (.head _) (.lst xs) e) (r fun a m => ha a (.tail _ m))) (fun {_ xs _ _} e r ha => .tp (ht _ (.tup xs) e) (r ha)) (fun e k r ha => .dc (ha _ (.head _) _ e) k (r.frame hl ht)) (fun _ => .nil) (fun h r ha => .cons (h fun a m => ha a (List.mem_append_left _ m)) (r fun a m => ha a (List.mem_append_right _ m)))
theorem Own.frame (hl : ∀ a (xs : MuO), L a → Rd H a xs.ho → L' a ∧ Rd H' a xs.ho) (ht : ∀ a (xs : ImO), H a = some xs.ho → H' a = some xs.ho) {v : V} {t : OT} {as : List Addr} (ha : ∀ a ∈ as, ∀ xs : MuO, H a = some xs.ho → H' a = some xs.ho) (h : Own G H L v t as) : Own G H' L' v t as := (Own.frame2 hl ht).1 h ha
theorem Owns.frame (hl : ∀ a (xs : MuO), L a → Rd H a xs.ho → L' a ∧ Rd H' a xs.ho) (ht : ∀ a (xs : ImO), H a = some xs.ho → H' a = some xs.ho) {xs : List V} {ts : List OT} {as : List Addr} (ha : ∀ a ∈ as, ∀ xs : MuO, H a = some xs.ho → H' a = some xs.ho) (h : Owns G H L xs ts as) : Owns G H' L' xs ts as := (Own.frame2 hl ht).2 h ha
theorem Own.same (h : Same H H') {v : V} {t : OT} {as : List Addr} (x : Own G H L v t as) : Own G H' L v t as := x.frame (fun a xs p e => ⟨p, e.same h⟩) (fun a xs e => h _ _ e) fun a _ xs e => h _ _ e
theorem Own.wide (h : ∀ a, L a → H a ≠ none → L' a) {v : V} {t : OT} {as : List Addr} (x : Own G H L v t as) : Own G H L' v t as := x.frame (fun a xs p e => ⟨h a p e.some, e⟩) (fun a xs e => e) fun a _ xs e => e
theorem Owns.wide (h : ∀ a, L a → H a ≠ none → L' a) {v : List V} {t : List OT} {as : List Addr} (x : Owns G H L v t as) : Owns G H L' v t as := x.frame (fun a xs p e => ⟨h a p e.some, e⟩) (fun a xs e => e) fun a _ xs e => e
theorem Owns.same (h : Same H H') {v : List V} {t : List OT} {as : List Addr} (x : Owns G H L v t as) : Owns G H' L v t as := x.frame (fun a xs p e => ⟨p, e.same h⟩) (fun a xs e => h _ _ e) fun a _ xs e => h _ _ e
theorem Own.da2 (h : ∀ a, L a → H a ≠ none → L' a) : (∀ {v : V} {t : OT} {as : List Addr}, Own G H L v t as → (∀ a ∈ as, L' a) → Da G H L' v t.data) ∧ ∀ {v : List V} {t : List OT} {as : List Addr}, Owns G H L v t as → (∀ a ∈ as, L' a) → Das G H L' v (OT.datas t) :=
  Own.both (fun k _ => by rw [OT.data_fz]; exact k.wide h) (fun e r ha => by rw [OT.data]; exact .lst (ha _ (.head _)) (.inl e) (r fun a m => ha a (.tail _ m))) (fun e r ha => by rw [OT.data]; exact .tup e (r ha)) (fun e k r ha => by rw [OT.data]; exact .dic (ha _ (.head _)) (.inl e) k (r.wide h)) (fun _ => .nil) (fun k r ha => .cons (k fun a m => ha a (List.mem_append_left _ m)) (r fun a m => ha a (List.mem_append_right _ m)))
theorem Own.da (h : ∀ a, L a → H a ≠ none → L' a) {v : V} {t : OT} {as : List Addr} (ha : ∀ a ∈ as, L' a) (k : Own G H L v t as) : Da G H L' v t.data := (Own.da2 h).1 k ha
theorem Owns.das (h : ∀ a, L a → H a ≠ none → L' a) {v : List V} {t : List OT} {as : List Addr} (ha : ∀ a ∈ as, L' a) (k : Owns G H L v t as) : Das G H L' v (OT.datas t) := (Own.da2 h).2 k ha
theorem Own.some2 : (∀ {v : V} {t : OT} {as : List Addr}, Own G H L v t as → ∀ a ∈ as, ∃ xs : MuO, H a = some xs.ho) ∧ ∀ {v : List V} {t : List OT} {as : List Addr}, Owns G H L v t as → ∀ a ∈ as, ∃ xs : MuO, H a = some xs.ho :=
  Own.both (fun _ _ m => nomatch m) (fun {_ xs _ _} e r a m => (List.mem_cons.mp m).elim (fun q => ⟨.lst xs, q ▸ e⟩) (r a)) (fun _ r => r) (fun {_ o _ _ _ _} e _ _ a m => ⟨o, List.mem_singleton.mp m ▸ e⟩) (fun _ m => nomatch m) (fun k r a m => (List.mem_append.mp m).elim (k a) (r a))
theorem Own.some {v : V} {t : OT} {as : List Addr} (h : Own G H L v t as) : ∀ a ∈ as, ∃ xs : MuO, H a = some xs.ho := Own.some2.1 h
theorem Owns.some {v : List V} {t : List OT} {as : List Addr} (h : Owns G H L v t as) : ∀ a ∈ as, ∃ xs : MuO, H a = some xs.ho := Own.some2.2 h
theorem Owns.length {xs : List V} {ts : List OT} {as : List Addr} (h : Owns G H L xs ts as) : xs.length = ts.length := (Own.both (P := fun _ _ _ => True) (Q := fun xs ts _ => xs.length = ts.length) (fun _ => trivial) (fun _ _ => trivial) (fun _ _ => trivial) (fun _ _ _ => trivial) rfl (fun _ r => congrArg (· + 1) r)).2 h
theorem Das.owns {xs : List V} {ds : List PyData} (h : Das G H L xs ds) : Owns G H L xs (ds.map OT.fz) [] := Das.ind (Q := fun xs ds => Owns G H L xs (ds.map OT.fz) []) .nil (fun h _ r => .cons (.fz h) r) h
end
end L2
namespace L2
open PySem PySem.Spec PyProof.Rows
variable {G : PySem.W.Frag}
noncomputable abbrev Zh := List (Option OT)
noncomputable abbrev Fp := Nat → List Addr
set_option genInjectivity false in
structure MC (G : PySem.W.Frag) where
  H₀ : Hp
  as₀ : Addr → Prop
  L : Addr → Prop
  σ₀ : St
noncomputable def Foot (fp : Fp) (a : Addr) : Prop := ∃ i, a ∈ fp i
noncomputable def Lf (C : MC G) (fp : Fp) (ex : Addr → Prop) (a : Addr) : Prop := ¬ Foot fp a ∧ ¬ ex a ∧ (C.L a ∨ C.H₀ a = none)
structure Rel (C : MC G) (io : List Nat) (H : Hp) (σ : St) (δ : Zh) (fp : Fp) (ex : Addr → Prop) : Prop where
  len : σ.length = δ.length
  own : ∀ (i : Nat) (t : OT), δ[i]? = some (some t) → ∃ v, σ[i]? = some (some v) ∧ Own G H (Lf C fp ex) v t (fp i)
  emp : ∀ i : Nat, (∀ t, δ[i]? ≠ some (some t)) → fp i = []
  nd : ∀ i, (fp i).Nodup
  dj : ∀ i j a, a ∈ fp i → a ∈ fp j → i = j
  dx : ∀ i a, a ∈ fp i → ¬ ex a
  xa : ∀ a, ex a → H a ≠ none
  fr : ∀ b o, C.H₀ b = some o → ¬ C.as₀ b → H b = some o
  al : ∀ b, H b = none → C.H₀ b = none
  new : ∀ i a, a ∈ fp i → (i ∈ io ∧ C.as₀ a) ∨ C.H₀ a = none
  io : ∀ i ∈ io, σ[i]? = C.σ₀[i]?
structure Stp (p : Bool) (H : Hp) (δ : Zh) (fp : Fp) (H' : Hp) (δ' : Zh) (fp' : Fp) : Prop where
  keep : ∀ b o, H b = some o → (p = true ∨ ¬ Foot fp b) → H' b = some o
  env : p = true → δ' = δ ∧ fp' = fp
  grow : ∀ a, Foot fp' a → Foot fp a ∨ H a = none
  al : ∀ b, H' b = none → H b = none
section
variable {C : MC G} {io : List Nat} {H H' H'' : Hp} {σ : St} {δ δ' δ'' : Zh} {fp fp' fp'' : Fp} {ex ex' : Addr → Prop} {p p' c : Bool} {v : V} {d : PyData} {r : OT} {new : List Addr}
theorem Rel.foot (R : Rel C io H σ δ fp ex) {a : Addr} (h : Foot fp a) : ∃ xs : MuO, H a = some xs.ho := by
  obtain ⟨i, h⟩ := h
  by_cases q : ∃ t, δ[i]? = some (some t)
  · obtain ⟨t, q⟩ := q
    obtain ⟨v, _, o⟩ := R.own i t q
    exact o.some a h
  · rw [R.emp i (fun t z => q ⟨t, z⟩)] at h
    exact nomatch h
theorem Rel.footSome (R : Rel C io H σ δ fp ex) {a : Addr} (h : H a = none) : ¬ Foot fp a := fun z => by
  obtain ⟨xs, e⟩ := R.foot z
  rw [h] at e
  cases e
theorem Stp.refl (p : Bool) (H : Hp) (δ : Zh) (fp : Fp) : Stp p H δ fp H δ fp := ⟨fun _ _ h _ => h, fun _ => ⟨rfl, rfl⟩, fun _ h => .inl h, fun _ h => h⟩
theorem Stp.same (h : Same H H') (hn : ∀ b, H' b = none → H b = none) : Stp p H δ fp H' δ fp := ⟨fun _ _ q _ => h _ _ q, fun _ => ⟨rfl, rfl⟩, fun _ h => .inl h, hn⟩
theorem Same.al (h : Same H H') : ∀ b, H' b = none → H b = none := fun _ q => h.free q
theorem Stp.trans (a : Stp p H δ fp H' δ' fp') (b : Stp p' H' δ' fp' H'' δ'' fp'') : Stp (p && p') H δ fp H'' δ'' fp'' where
  keep := fun x o e h => by
    rcases h with h | h
    · rw [Bool.and_eq_true] at h
      exact b.keep x o (a.keep x o e (.inl h.1)) (.inl h.2)
    · refine b.keep x o (a.keep x o e (.inr h)) (.inr fun z => ?_)
      rcases a.grow x z with z | z
      · exact h z
      · rw [e] at z; cases z
  env := fun h => by
    rw [Bool.and_eq_true] at h
    obtain ⟨e1, e2⟩ := a.env h.1
    obtain ⟨e3, e4⟩ := b.env h.2
    exact ⟨e3.trans e1, e4.trans e2⟩
  grow := fun x h => by
    rcases b.grow x h with h | h
    · exact a.grow x h
    · exact .inr (a.al x h)
  al := fun x h => a.al x (b.al x h)
theorem Rel.frameL (R : Rel C io H σ δ fp ex) (S : Stp p H δ fp H' δ' fp') (hc : p = true ∨ c = true) (hx : ∀ a, ex' a → ex a ∨ H a = none) :
    (∀ a (xs : MuO), (c = true → Lf C fp ex a) → Rd H a xs.ho → (c = true → Lf C fp' ex' a) ∧ Rd H' a xs.ho) ∧ (∀ a (xs : ImO), H a = some xs.ho → H' a = some xs.ho) := by
  have nf : ∀ a, Foot fp a → ∃ xs : MuO, H a = some xs.ho := fun a h => R.foot h
  refine ⟨fun a xs l q => ⟨fun hc' => ?_, ?_⟩, fun a xs q => S.keep a _ q (.inr fun z => ?_)⟩
  · obtain ⟨l1, l2, l3⟩ := l hc'
    refine ⟨fun z => ?_, fun z => ?_, l3⟩
    · rcases S.grow a z with z | z
      · exact l1 z
      · exact q.some z
    · rcases hx a z with z | z
      · exact l2 z
      · exact q.some z
  · have hk : p = true ∨ ¬ Foot fp a := by
      rcases hc with h | h
      · exact .inl h
      · exact .inr (l h).1
    rcases q with q | ⟨o, q⟩
    · exact .inl (S.keep a _ q hk)
    · exact .inr ⟨o, S.keep a _ q hk⟩
  · obtain ⟨ys, e⟩ := nf a z
    exact ImO.nm q e
theorem Rel.own_step (R : Rel C io H σ δ fp ex) (S : Stp p H δ fp H' δ' fp') (hc : p = true ∨ c = true) (hx : ∀ a, ex' a → ex a ∨ H a = none) (hn : ∀ a ∈ new, ex a)
    (x : Own G H (fun a => c = true → Lf C fp ex a) v r new) : Own G H' (fun a => c = true → Lf C fp' ex' a) v r new :=
  x.frame (R.frameL S hc hx).1 (R.frameL S hc hx).2 fun a m xs e => S.keep a _ e (.inr fun ⟨i, z⟩ => R.dx i a z (hn a m))
theorem Rel.owns_step (R : Rel C io H σ δ fp ex) (S : Stp p H δ fp H' δ' fp') (hc : p = true ∨ c = true) (hx : ∀ a, ex' a → ex a ∨ H a = none) (hn : ∀ a ∈ new, ex a) {vs : List V} {rs : List OT}
    (x : Owns G H (fun a => c = true → Lf C fp ex a) vs rs new) : Owns G H' (fun a => c = true → Lf C fp' ex' a) vs rs new :=
  x.frame (R.frameL S hc hx).1 (R.frameL S hc hx).2 fun a m xs e => S.keep a _ e (.inr fun ⟨i, z⟩ => R.dx i a z (hn a m))
theorem Rel.drop (R : Rel C io H σ δ fp ex) (h : ∀ a, ex' a → ex a) : Rel C io H σ δ fp ex' :=
  ⟨R.len, fun i t e => by
    obtain ⟨v, e1, o⟩ := R.own i t e
    exact ⟨v, e1, o.wide fun a l _ => ⟨l.1, fun z => l.2.1 (h a z), l.2.2⟩⟩, R.emp, R.nd, R.dj, fun i a m z => R.dx i a m (h a z), fun a z => R.xa a (h a z), R.fr, R.al, R.new, R.io⟩
theorem Rel.made (R : Rel C io H σ δ fp ex) (s : Same H H') (hn : ∀ a ∈ new, H a = none ∧ H' a ≠ none) : Rel C io H' σ δ fp (fun a => ex a ∨ a ∈ new) :=
  ⟨R.len, fun i t e => by
    obtain ⟨v, e1, o⟩ := R.own i t e
    refine ⟨v, e1, (o.wide fun a l q => ⟨l.1, fun z => ?_, l.2.2⟩).same s⟩
    rcases z with z | z
    · exact l.2.1 z
    · exact q (hn a z).1, R.emp, R.nd, R.dj, fun i a m z => by
      rcases z with z | z
      · exact R.dx i a m z
      · exact R.footSome (hn a z).1 ⟨i, m⟩, fun a z => by
      rcases z with z | z
      · intro q; exact R.xa a z (s.free q)
      · exact (hn a z).2, fun b o e n => s _ _ (R.fr b o e n), fun b q => R.al b (s.free q), R.new, R.io⟩
end
noncomputable abbrev MEt := Zh → (OT → Zh → Prop) → Prop
noncomputable abbrev MAt := Zh → (List OT → Zh → Prop) → Prop
noncomputable abbrev MTt := Zh → (Bool → Zh → Prop) → Prop
noncomputable abbrev exu (ex : Addr → Prop) (new : List Addr) : Addr → Prop := fun a => ex a ∨ a ∈ new
structure RE (C : MC G) (io : List Nat) (p c : Bool) (H : Hp) (σ : St) (δ : Zh) (fp : Fp) (ex : Addr → Prop) (H' : Hp) (v : V) (r : OT) (δ' : Zh) (fp' : Fp) (new : List Addr) : Prop where
  rel : Rel C io H' σ δ' fp' (exu ex new)
  stp : Stp p H δ fp H' δ' fp'
  own : Own G H' (fun a => c = true → Lf C fp' (exu ex new) a) v r new
  nd : new.Nodup
  fresh : ∀ a ∈ new, H a = none
structure RA (C : MC G) (io : List Nat) (p c : Bool) (H : Hp) (σ : St) (δ : Zh) (fp : Fp) (ex : Addr → Prop) (H' : Hp) (v : List V) (r : List OT) (δ' : Zh) (fp' : Fp) (new : List Addr) : Prop where
  rel : Rel C io H' σ δ' fp' (exu ex new)
  stp : Stp p H δ fp H' δ' fp'
  own : Owns G H' (fun a => c = true → Lf C fp' (exu ex new) a) v r new
  nd : new.Nodup
  fresh : ∀ a ∈ new, H a = none
noncomputable def SE (G : PySem.W.Frag) (io : List Nat) (p c : Bool) (t : TE) (m : MEt) : Prop := ∀ (C : MC G) (H : Hp) (σ : St) (δ : Zh) (fp : Fp) (ex : Addr → Prop) (K : OT → Zh → Prop) (Q : VK), Rel C io H σ δ fp ex → m δ K →
  (∀ H' v r δ' fp' new, RE C io p c H σ δ fp ex H' v r δ' fp' new → K r δ' → Q v H') → t σ H Q
noncomputable def SA (G : PySem.W.Frag) (io : List Nat) (p c : Bool) (t : TA) (m : MAt) : Prop := ∀ (C : MC G) (H : Hp) (σ : St) (δ : Zh) (fp : Fp) (ex : Addr → Prop) (K : List OT → Zh → Prop) (Q : List V → Hp → Prop), Rel C io H σ δ fp ex → m δ K →
  (∀ H' v r δ' fp' new, RA C io p c H σ δ fp ex H' v r δ' fp' new → K r δ' → Q v H') → t σ H Q
noncomputable def STt (G : PySem.W.Frag) (io : List Nat) (p : Bool) (t : TT) (m : MTt) : Prop := ∀ (C : MC G) (H : Hp) (σ : St) (δ : Zh) (fp : Fp) (ex : Addr → Prop) (K : Bool → Zh → Prop) (Q : Bool → Hp → Prop), Rel C io H σ δ fp ex → m δ K →
  (∀ H' b δ' fp', Rel C io H' σ δ' fp' ex → Stp p H δ fp H' δ' fp' → K b δ' → Q b H') → t σ H Q
noncomputable def ME (X : Cx) (io : List Nat) (p c : Bool) (e : Expr) (m : MEt) : Prop := ∃ t, PE X e t ∧ SE X.K io p c t m
noncomputable def MA (X : Cx) (io : List Nat) (p c : Bool) (e : List Expr) (m : MAt) : Prop := ∃ t, PA X e t ∧ SA X.K io p c t m
noncomputable def MT (X : Cx) (io : List Nat) (p : Bool) (e : Expr) (m : MTt) : Prop := ∃ t, PT X e t ∧ STt X.K io p t m
noncomputable def MW (X : Cx) (io : List Nat) (p : Bool) (e : Expr) (m : MTt) : Prop := ∃ t, PW X e t ∧ STt X.K io p t m
section
variable {C : MC G} {io : List Nat} {H H' H'' : Hp} {σ : St} {δ δ' δ'' : Zh} {fp fp' fp'' : Fp} {ex ex' : Addr → Prop} {p p' c : Bool} {v : V} {d : PyData} {r : OT} {vs : List V} {rs : List OT} {new : List Addr}
theorem Rel.newOk (R : Rel C io H σ δ fp ex) {a : Addr} (h : H a = none) : ¬ Foot fp a ∧ ¬ ex a ∧ C.H₀ a = none := ⟨R.footSome h, fun z => R.xa a z h, R.al a h⟩
theorem RE.da (R : RE C io p c H σ δ fp ex H' v r δ' fp' new) (R0 : Rel C io H σ δ fp ex) : Da G H' (fun a => c = true → Lf C fp' ex a) v r.data := by
  refine R.own.da (fun a l _ h => ?_) (fun a m _ => ?_)
  · exact ⟨(l h).1, fun z => (l h).2.1 (.inl z), (l h).2.2⟩
  · refine ⟨fun qz9 => ?_, (R0.newOk (R.fresh a m)).2.1, .inr (R0.newOk (R.fresh a m)).2.2⟩
    obtain ⟨i, z⟩ := qz9
    exact R.rel.dx i a z (.inr m)
theorem RA.das (R : RA C io p c H σ δ fp ex H' vs rs δ' fp' new) (R0 : Rel C io H σ δ fp ex) : Das G H' (fun a => c = true → Lf C fp' ex a) vs (OT.datas rs) := by
  refine R.own.das (fun a l _ h => ?_) (fun a m _ => ?_)
  · exact ⟨(l h).1, fun z => (l h).2.1 (.inl z), (l h).2.2⟩
  · refine ⟨fun qz9 => ?_, (R0.newOk (R.fresh a m)).2.1, .inr (R0.newOk (R.fresh a m)).2.2⟩
    obtain ⟨i, z⟩ := qz9
    exact R.rel.dx i a z (.inr m)
theorem RE.base (R : RE C io p c H σ δ fp ex H' v r δ' fp' new) : Rel C io H' σ δ' fp' ex := R.rel.drop fun a z => .inl z
theorem RA.base (R : RA C io p c H σ δ fp ex H' vs rs δ' fp' new) : Rel C io H' σ δ' fp' ex := R.rel.drop fun a z => .inl z
theorem Zca {a : Addr} : exu ex [] a ↔ ex a := by simp [exu]
theorem RE.fz (R : Rel C io H' σ δ' fp' ex) (S : Stp p H δ fp H' δ' fp') (h : Da G H' (fun a => c = true → Lf C fp' ex a) v d) : RE C io p c H σ δ fp ex H' v (.fz d) δ' fp' [] :=
  ⟨R.drop fun a z => Zca.mp z, S, .fz (h.wide fun a l _ hc => ⟨(l hc).1, fun z => (l hc).2.1 (Zca.mp z), (l hc).2.2⟩), .nil, fun a m => nomatch m⟩
theorem RE.tree {H1 : Hp} (R0 : Rel C io H σ δ fp ex) (R : Rel C io H1 σ δ' fp' ex) (S : Stp p H δ fp H1 δ' fp') (s : Same H1 H') (hn : ∀ a ∈ new, H1 a = none) (nd : new.Nodup)
    (o : Own G H' (fun a => ((c = true → Lf C fp' ex a) ∨ H1 a = none) ∧ a ∉ new) v r new) : RE C io p c H σ δ fp ex H' v r δ' fp' new := by
  refine ⟨R.made s fun a m => ⟨hn a m, fun z => ?_⟩, ?_, o.wide fun a l q hc => ?_, nd, fun a m => S.al a (hn a m)⟩
  · obtain ⟨xs, e⟩ := o.some a m
    rw [z] at e; cases e
  · have := S.trans (p' := true) (Stp.same (p := true) (δ := δ') (fp := fp') s s.al)
    rwa [Bool.and_true] at this
  · rcases l.1 with l1 | l1
    · exact ⟨(l1 hc).1, fun z => z.elim (l1 hc).2.1 l.2, (l1 hc).2.2⟩
    · exact ⟨R.footSome l1, fun z => z.elim (fun z => R.xa a z l1) l.2, .inr (R.al a l1)⟩
end
inductive ScD : V → PyData → Prop where
  | non : ScD .non .none
  | bl (b : Bool) : ScD (.bl b) (.bool b)
  | int (i : Int) : ScD (.int i) (.int i)
  | str (x : Str) : ScD (.str x) (.str x)
theorem ScD.da {H : Hp} {L : Addr → Prop} {v : V} {d : PyData} (h : ScD v d) : Da G H L v d := by
  cases h
  · exact .non
  · exact .bl _
  · exact .int _
  · exact .str _
section
variable {X : Cx} {io : List Nat} {p p' c c' : Bool} {e a b : Expr} {m ma mb : MEt} {es : List Expr}
noncomputable def Z2o (i : Nat) : MEt := fun δ K => match δ[i]? with | some (some (.fz d)) => K (.fz d) δ | _ => False
noncomputable def Z2q (i : Nat) : MEt := fun δ K => match δ[i]? with | some (some t) => K (.fz t.data) δ | _ => False
noncomputable def mC (d : PyData) : MEt := fun δ K => K (.fz d) δ
theorem mv (i : Nat) {x : Str} {pos : Pos} (hN : X.N[i]? = some x := by rfl) (hv : Vis X.env.scope x := by first | exact Or.inl rfl | exact Or.inr (Or.inl rfl) | exact Or.inr (Or.inr rfl)) (hd : (x == ("__debug__" : Str)) = false := by decide)
    (hcd : (x == ("__classdict__" : Str)) = false := by decide) : ME X io true true (.Name x pos) (Z2o i) := by
  refine ⟨_, pv i hN hv hd hcd, fun C H σ δ fp ex K Q R h k => ?_⟩
  unfold Z2o at h
  split at h
  · rename_i d hd
    obtain ⟨v, e, o⟩ := R.own i _ hd
    refine ⟨v, e, k H v _ δ fp [] (.fz R (.refl _ _ _ _) ?_) h⟩
    generalize fp i = as at o
    cases o with
    | fz q => exact q.wide fun a l _ _ => l
  · exact h.elim
theorem mo (i : Nat) {x : Str} {pos : Pos} (hN : X.N[i]? = some x := by rfl) (hv : Vis X.env.scope x := by first | exact Or.inl rfl | exact Or.inr (Or.inl rfl) | exact Or.inr (Or.inr rfl)) (hd : (x == ("__debug__" : Str)) = false := by decide)
    (hcd : (x == ("__classdict__" : Str)) = false := by decide) : ME X io true false (.Name x pos) (Z2q i) := by
  refine ⟨_, pv i hN hv hd hcd, fun C H σ δ fp ex K Q R h k => ?_⟩
  unfold Z2q at h
  split at h
  · rename_i d hd
    obtain ⟨v, e, o⟩ := R.own i _ hd
    exact ⟨v, e, k H v _ δ fp [] (.fz R (.refl _ _ _ _) (o.da (fun a _ _ z => (nomatch z)) fun a _ z => (nomatch z))) h⟩
  · exact h.elim
theorem Zld {t : V} {d : PyData} (h : PE X e (tC t)) (s : ScD t d) : ME X io true true e (mC d) :=
  ⟨_, h, fun C H σ δ fp ex K Q R h k => k H t _ δ fp [] (.fz R (.refl _ _ _ _) s.da) h⟩
theorem Zhl {i j pos} : ME X io true true (.Constant (.int i) j pos) (mC (.int i)) := Zld Z1a (.int i)
theorem Zgv {b j pos} : ME X io true true (.Constant (.bool b) j pos) (mC (.bool b)) := Zld Z47 (.bl b)
theorem Zfr {j pos} : ME X io true true (.Constant .none j pos) (mC .none) := Zld Z1g .non
theorem SE.two {ta tb : TE} (ha : SE G io p c ta ma) (hb : SE G io p' c' tb mb) (hc : p' = true ∨ c = true) {C : MC G} {H : Hp} {σ : St} {δ : Zh} {fp : Fp} {ex : Addr → Prop} {K : OT → OT → Zh → Prop} {Q : V → V → Hp → Prop}
    (R : Rel C io H σ δ fp ex) (h : ma δ fun x δ1 => mb δ1 fun y δ2 => K x y δ2)
    (k : ∀ H' x y u v δ' fp', Rel C io H' σ δ' fp' ex → Stp (p && p') H δ fp H' δ' fp' → Da G H' (fun a => (c && c') = true → Lf C fp' ex a) x u.data → Da G H' (fun a => (c && c') = true → Lf C fp' ex a) y v.data → K u v δ' → Q x y H') :
    ta σ H fun x H1 => tb σ H1 fun y H2 => Q x y H2 := by
  refine ha C H σ δ fp ex _ _ R h fun H1 x u δ1 fp1 new1 r1 h1 => ?_
  refine hb C H1 σ δ1 fp1 (exu ex new1) _ _ r1.rel h1 fun H2 y v δ2 fp2 new2 r2 h2 => ?_
  have o1 := r1.rel.own_step (ex' := exu (exu ex new1) new2) r2.stp (c := c) hc (fun a z => z.imp id fun z => r2.fresh a z) (fun a m => .inr m) r1.own
  have R2 : Rel C io H2 σ δ2 fp2 ex := r2.rel.drop fun a z => .inl (.inl z)
  have q1 : Da G H2 (fun a => c = true → Lf C fp2 ex a) x u.data := by
    refine o1.da (fun a l _ z => ?_) (fun a m z => ?_)
    · exact ⟨(l z).1, fun w => (l z).2.1 (.inl (.inl w)), (l z).2.2⟩
    · have := R.newOk (r1.fresh a m)
      refine ⟨fun qz9 => ?_, this.2.1, .inr this.2.2⟩
      obtain ⟨i, w⟩ := qz9
      exact r2.rel.dx i a w (.inl (.inr m))
  have q2 := r2.da r1.rel
  refine k H2 x y u v δ2 fp2 R2 (r1.stp.trans r2.stp) (q1.wide fun a l _ z => l (by rw [Bool.and_eq_true] at z; exact z.1)) (q2.wide fun a l _ z => ?_) h2
  have l := l (by rw [Bool.and_eq_true] at z; exact z.2)
  exact ⟨l.1, fun w => l.2.1 (.inl w), l.2.2⟩
noncomputable def P2s (G : PySem.W.Frag) (r : R2) (rp : PyData → PyData → (PyData → Prop) → Prop) : Prop := ∀ (H : Hp) (L : Addr → Prop) (x y : V) (d e : PyData) (k : PyData → Prop) (Q : VK), Da G H L x d → Da G H L y e → rp d e k → (∀ v d', ScD v d' → k d' → Q v H) → r x y H Q
noncomputable def P2 (G : PySem.W.Frag) (r : R2) (rp : PyData → PyData → (OT → Prop) → Prop) : Prop := ∀ (H : Hp) (L : Addr → Prop) (x y : V) (d e : PyData) (k : OT → Prop) (Q : VK), Da G H L x d → Da G H L y e → rp d e k →
  (∀ H' v o new, Same H H' → Own G H' (fun a => (L a ∨ H a = none) ∧ a ∉ new) v o new → new.Nodup → (∀ a ∈ new, H a = none) → k o → Q v H') → r x y H Q
noncomputable def Zlf (rp : PyData → PyData → (PyData → Prop) → Prop) (ma mb : MEt) : MEt := fun δ K => ma δ fun x δ1 => mb δ1 fun y δ2 => rp x.data y.data fun d => K (.fz d) δ2
noncomputable def Z2p (rp : PyData → PyData → (OT → Prop) → Prop) (ma mb : MEt) : MEt := fun δ K => ma δ fun x δ1 => mb δ1 fun y δ2 => rp x.data y.data fun d => K d δ2
theorem Zvd {r : R2} {rp} {ta tb : TE} (P : P2s G r rp) (ha : SE G io p c ta ma) (hb : SE G io p' c' tb mb) (hc : p' = true ∨ c = true) : SE G io (p && p') true (tOp r ta tb) (Zlf rp ma mb) := by
  intro C H σ δ fp ex K Q R h k
  refine SE.two (K := fun x y δ2 => rp x.data y.data fun d => K (.fz d) δ2) (Q := fun x y H2 => r x y H2 Q) ha hb hc R h fun H' x y u v δ' fp' R' S q1 q2 h' => ?_
  exact P H' _ x y _ _ _ _ q1 q2 h' fun w d' sc h'' => k H' w _ δ' fp' [] (.fz R' S sc.da) h''
theorem Z60 {r : R2} {rp} {ta tb : TE} (P : P2 G r rp) (ha : SE G io p c ta ma) (hb : SE G io p' c' tb mb) (hc : p' = true ∨ c = true) : SE G io (p && p') (c && c') (tOp r ta tb) (Z2p rp ma mb) := by
  intro C H σ δ fp ex K Q R h k
  refine SE.two (K := fun x y δ2 => rp x.data y.data fun d => K d δ2) (Q := fun x y H2 => r x y H2 Q) ha hb hc R h fun H' x y u v δ' fp' R' S q1 q2 h' => ?_
  exact P H' _ x y _ _ _ _ q1 q2 h' fun H2 w o new s ow nd hn h'' => k H2 w o δ' fp' new (RE.tree R R' S s hn nd ow) h''
theorem Zk1 {op : Operator} {r : R2} {rp} {pos : Pos} (ho : OpR X (binaryOp op) r) (P : P2s X.K r rp) (ha : ME X io p c a ma) (hb : ME X io p' c' b mb) (hc : p' = true ∨ c = true := by first | exact Or.inl rfl | exact Or.inr rfl) : ME X io (p && p') true (.BinOp a op b pos) (Zlf rp ma mb) := by
  obtain ⟨_, A, sa⟩ := ha
  obtain ⟨_, B, sb⟩ := hb
  exact ⟨_, Zxu ho A B, Zvd P sa sb hc⟩
theorem Zue {op : Operator} {r : R2} {rp} {pos : Pos} (ho : OpR X (binaryOp op) r) (P : P2 X.K r rp) (ha : ME X io p c a ma) (hb : ME X io p' c' b mb) (hc : p' = true ∨ c = true := by first | exact Or.inl rfl | exact Or.inr rfl) : ME X io (p && p') (c && c') (.BinOp a op b pos) (Z2p rp ma mb) := by
  obtain ⟨_, A, sa⟩ := ha
  obtain ⟨_, B, sb⟩ := hb
  exact ⟨_, Zxu ho A B, Z60 P sa sb hc⟩
theorem Zpc {op : CmpOp} {r : R2} {rp} {pos : Pos} (ho : OpR X (compareOp op) r) (P : P2s X.K r rp) (ha : ME X io p c a ma) (hb : ME X io p' c' b mb) (hc : p' = true ∨ c = true := by first | exact Or.inl rfl | exact Or.inr rfl) (hm : behindInMarks op b = false) : ME X io (p && p') true (.Compare a [op] [b] pos) (Zlf rp ma mb) := by
  obtain ⟨_, A, sa⟩ := ha
  obtain ⟨_, B, sb⟩ := hb
  exact ⟨_, Zxl ho A B hm, Zvd P sa sb hc⟩
theorem Z5a {r : R2} {rp} {pos : Pos} (ho : IxR X r) (P : P2 X.K r rp) (ha : ME X io p c a ma) (hb : ME X io p' c' b mb) (hc : p' = true ∨ c = true := by first | exact Or.inl rfl | exact Or.inr rfl) (hs : Zfo b) : ME X io (p && p') (c && c') (.Subscript a b pos) (Z2p rp ma mb) := by
  obtain ⟨_, A, sa⟩ := ha
  obtain ⟨_, B, sb⟩ := hb
  exact ⟨_, Zwx ho A B hs, Z60 P sa sb hc⟩
noncomputable def kB (K : Bool → Zh → Prop) : OT → Zh → Prop := fun o δ => match o with | .fz (.bool b) => K b δ | _ => False
theorem Z3p {t : TE} (h : SE G io p c t m) : STt G io p (Z0s t) (fun δ K => m δ (kB K)) := by
  intro C H σ δ fp ex K Q R h' k
  refine h C H σ δ fp ex _ _ R h' fun H' v r δ' fp' new r1 h1 => ?_
  cases r with
  | nd ts => exact h1.elim
  | tp ts => exact h1.elim
  | dc _ _ _ => exact h1.elim
  | fz d =>
    cases d with
    | bool b =>
      cases r1.own with
      | fz q =>
        cases q
        exact ⟨b, rfl, k H' b δ' fp' r1.base r1.stp h1⟩
    | _ => exact h1.elim
theorem Zar {op : CmpOp} {r : R2} {rp} {pos : Pos} (ho : OpR X (compareOp op) r) (P : P2s X.K r rp) (ha : ME X io p c a ma) (hb : ME X io p' c' b mb) (hc : p' = true ∨ c = true := by first | exact Or.inl rfl | exact Or.inr rfl) (hm : behindInMarks op b = false) :
    MT X io (p && p') (.Compare a [op] [b] pos) (fun δ K => Zlf rp ma mb δ (kB K)) := by
  obtain ⟨_, A, sa⟩ := ha
  obtain ⟨_, B, sb⟩ := hb
  exact ⟨_, Zv4 ho A B hm, Z3p (Zvd P sa sb hc)⟩
end
end L2
namespace L2
open PySem PySem.Spec PyProof.Rows
variable {G : PySem.W.Frag}
section
variable {X : Cx} {io : List Nat} {p p' p'' c c' : Bool} {e a b : Expr} {m ma mb : MEt} {es rest : List Expr} {ta tb : MTt} {pos : Pos}
noncomputable def Z7g (t : MTt) : MTt := fun δ K => t δ fun b δ' => K (!b) δ'
noncomputable def Z56 (t u : MTt) : MTt := fun δ K => t δ fun b δ' => if b = true then u δ' K else K false δ'
noncomputable def mOr (t u : MTt) : MTt := fun δ K => t δ fun b δ' => if b = true then K true δ' else u δ' K
theorem Zuv (h : MT X io p a ta) : MT X io p (.UnaryOp .Not a pos) (Z7g ta) := by
  obtain ⟨_, A, sa⟩ := h
  exact ⟨_, Z08 A, fun C H σ δ fp ex K Q R h k => sa C H σ δ fp ex _ _ R h fun H' b δ' fp' R' S h' => k H' (!b) δ' fp' R' S h'⟩
theorem Zia (h : MT X io p a ta) : MW X io p (.BoolOp .And [a] pos) ta := by
  obtain ⟨_, A, sa⟩ := h
  exact ⟨_, Zw2 A, sa⟩
theorem Zuc (h : MT X io p a ta) : MW X io p (.BoolOp .Or [a] pos) ta := by
  obtain ⟨_, A, sa⟩ := h
  exact ⟨_, Zyt A, sa⟩
theorem Stp.andL {H H' : Hp} {δ δ' : Zh} {fp fp' : Fp} (S : Stp p H δ fp H' δ' fp') : Stp (p && p') H δ fp H' δ' fp' := by
  have := S.trans (Stp.refl p' H' δ' fp')
  exact this
theorem Zmf (h : MT X io p a ta) (g : MW X io p' (.BoolOp .And (b :: rest) pos) tb) : MW X io (p && p') (.BoolOp .And (a :: b :: rest) pos) (Z56 ta tb) := by
  obtain ⟨_, A, sa⟩ := h
  obtain ⟨_, B, sb⟩ := g
  exact ⟨_, Zyg A B, fun C H σ δ fp ex K Q R h k => sa C H σ δ fp ex _ _ R h fun H' b δ' fp' R' S h' => by
    cases b with
    | true =>
      rw [if_pos rfl] at h' ⊢
      exact sb C H' σ δ' fp' ex _ _ R' h' fun H2 b2 δ2 fp2 R2 S2 h2 => k H2 b2 δ2 fp2 R2 (S.trans S2) h2
    | false =>
      rw [if_neg Bool.false_ne_true] at h' ⊢
      exact k H' false δ' fp' R' S.andL h'⟩
theorem Z0d (h : MT X io p a ta) (g : MW X io p' (.BoolOp .Or (b :: rest) pos) tb) : MW X io (p && p') (.BoolOp .Or (a :: b :: rest) pos) (mOr ta tb) := by
  obtain ⟨_, A, sa⟩ := h
  obtain ⟨_, B, sb⟩ := g
  exact ⟨_, Z3a A B, fun C H σ δ fp ex K Q R h k => sa C H σ δ fp ex _ _ R h fun H' b δ' fp' R' S h' => by
    cases b with
    | true =>
      rw [if_pos rfl] at h' ⊢
      exact k H' true δ' fp' R' S.andL h'
    | false =>
      rw [if_neg Bool.false_ne_true] at h' ⊢
      exact sb C H' σ δ' fp' ex _ _ R' h' fun H2 b2 δ2 fp2 R2 S2 h2 => k H2 b2 δ2 fp2 R2 (S.trans S2) h2⟩
theorem MW.mt (h : MW X io p e ta) : MT X io p e ta := by
  obtain ⟨_, A, sa⟩ := h
  exact ⟨_, A.pt, sa⟩
noncomputable def Zsu : PyData → Option Bool
  | .none => some false
  | .bool b => some b
  | .int i => some (i != 0)
  | .list ds => some (!ds.isEmpty)
  | .tuple ds => some (!ds.isEmpty)
  | _ => none
noncomputable def Z6s (m : MEt) : MTt := fun δ K => m δ fun r δ' => match Zsu r.data with | some b => K b δ' | none => False
theorem Das.isEmpty {H : Hp} {L : Addr → Prop} {xs : List V} {ds : List PyData} (h : Das G H L xs ds) : xs.isEmpty = ds.isEmpty := by cases h <;> rfl
theorem Zez (ha : ME X io p c a ma) (he : ∀ whole, isTrue a X.env whole = (do let v ← whole; standAt a.pos; holding [v] (truthy v))) : MT X io p a (Z6s ma) := by
  obtain ⟨_, A, sa⟩ := ha
  exact ⟨_, Zxm rfl A he, fun C H σ δ fp ex K' Q R h k => sa C H σ δ fp ex _ _ R h fun H' v r δ' fp' new r1 h1 => by
    have q := r1.da R
    generalize r.data = d at q h1
    cases q with
    | non => exact ⟨_, rfl, k H' _ δ' fp' r1.base r1.stp h1⟩
    | bl b => exact ⟨_, rfl, k H' _ δ' fp' r1.base r1.stp h1⟩
    | int b => exact ⟨_, rfl, k H' _ δ' fp' r1.base r1.stp h1⟩
    | str x => exact h1.elim
    | lst _ e q => exact ⟨_, .inl ⟨_, .inl e, rfl⟩, k H' _ δ' fp' r1.base r1.stp (by rw [q.isEmpty]; exact h1)⟩
    | tup e q => exact ⟨_, .inr (.inl ⟨_, .inl (.inl e), rfl⟩), k H' _ δ' fp' r1.base r1.stp (by rw [q.isEmpty]; exact h1)⟩
    | scr q => exact ⟨_, .inl ⟨_, q.sq, rfl⟩, k H' _ δ' fp' r1.base r1.stp (by simpa [Zsu] using h1)⟩
    | exc _ _ _ => exact h1.elim
    | fn _ => exact h1.elim
    | dic _ _ _ _ => exact h1.elim⟩
noncomputable def asB (d : PyData) (k : Bool → Prop) : Prop := match d with | .bool b => k b | _ => False
noncomputable def Z1e (a b : MEt) : MEt := fun δ K => a δ fun x δ1 => asB x.data fun c => if c = true then b δ1 K else K (.fz (.bool false)) δ1
noncomputable def Zyv (a : MEt) : MEt := fun δ K => a δ fun x δ1 => asB x.data fun c => K (.fz (.bool (!c))) δ1
theorem Da.boolInv {H : Hp} {L : Addr → Prop} {v : V} {d : PyData} {k : Bool → Prop} (q : Da G H L v d) (h : asB d k) : ∃ b, v = .bl b ∧ k b := by
  cases q with
  | bl b => exact ⟨b, rfl, h⟩
  | _ => exact h.elim
theorem RE.step {C : MC G} {H H1 H2 : Hp} {σ : St} {δ δ1 δ2 : Zh} {fp fp1 fp2 : Fp} {ex : Addr → Prop} {v : V} {r : OT} {new : List Addr} (S : Stp p H δ fp H1 δ1 fp1) (R : RE C io p' c H1 σ δ1 fp1 ex H2 v r δ2 fp2 new) :
    RE C io (p && p') c H σ δ fp ex H2 v r δ2 fp2 new := ⟨R.rel, S.trans R.stp, R.own, R.nd, fun a m => S.al a (R.fresh a m)⟩
theorem Zxq {op} (h : ME X io p c a ma) : ME X io p c (.BoolOp op [a] pos) ma := by
  obtain ⟨_, A, sa⟩ := h
  exact ⟨_, Zyl A, sa⟩
theorem Zsf (ha : ME X io p c a ma) (hb : ME X io p' c' (.BoolOp .And (b :: rest) pos) mb) : ME X io (p && p') c' (.BoolOp .And (a :: b :: rest) pos) (Z1e ma mb) := by
  obtain ⟨_, A, sa⟩ := ha
  obtain ⟨_, B, sb⟩ := hb
  exact ⟨_, Z1r A B, fun C H σ δ fp ex K Q R h k => sa C H σ δ fp ex _ _ R h fun H' v r δ' fp' new r1 h1 => by
    obtain ⟨b, rfl, h1⟩ := (r1.da R).boolInv h1
    refine ⟨b, rfl, ?_⟩
    cases b with
    | true =>
      rw [if_pos rfl] at h1 ⊢
      exact sb C H' σ δ' fp' ex _ _ r1.base h1 fun H2 w r2 δ2 fp2 new2 R2 h2 => k H2 w r2 δ2 fp2 new2 (R2.step r1.stp) h2
    | false =>
      rw [if_neg Bool.false_ne_true] at h1 ⊢
      exact k H' _ _ δ' fp' [] (RE.fz r1.base r1.stp.andL (.bl false)) h1⟩
theorem Z3b (ha : ME X io p c a ma) : ME X io p true (.UnaryOp .Not a pos) (Zyv ma) := by
  obtain ⟨_, A, sa⟩ := ha
  exact ⟨_, Zy7 A, fun C H σ δ fp ex K Q R h k => sa C H σ δ fp ex _ _ R h fun H' v r δ' fp' new r1 h1 => by
    obtain ⟨b, rfl, h1⟩ := (r1.da R).boolInv h1
    exact ⟨b, rfl, k H' _ _ δ' fp' [] (RE.fz r1.base r1.stp (.bl _)) h1⟩⟩
theorem Stp.cast {p p' : Bool} {H H' : Hp} {δ δ' : Zh} {fp fp' : Fp} (h : p' = true → p = true) (S : Stp p H δ fp H' δ' fp') : Stp p' H δ fp H' δ' fp' :=
  ⟨fun b o e q => S.keep b o e (q.imp h id), fun q => S.env (h q), S.grow, S.al⟩
end
section
variable {X : Cx} {io : List Nat} {p p' p'' c c' : Bool} {e a b : Expr} {m ma mb : MEt} {es rest : List Expr} {mr : MAt} {pos : Pos}
noncomputable def Z5u : MAt := fun δ K => K [] δ
noncomputable def Zzk (m : MEt) (mr : MAt) : MAt := fun δ K => m δ fun r δ1 => mr δ1 fun rs δ2 => K (r :: rs) δ2
theorem Zan : MA X io true true [] Z5u := ⟨_, Zd0, fun C H σ δ fp ex K Q R h k => k H [] [] δ fp [] ⟨R.drop fun a z => Zca.mp z, .refl _ _ _ _, .nil, .nil, fun a m => nomatch m⟩ h⟩
theorem Zxh (ha : ME X io p c e m) (hr : MA X io p' c' es mr) (hc : p' = true ∨ c = true) (hs : starEach (e :: es) X.env = (false, eval e X.env) :: starEach es X.env := by rfl) : MA X io (p && p') (c && c') (e :: es) (Zzk m mr) := by
  obtain ⟨tA, A, sa⟩ := ha
  obtain ⟨tB, B, sb⟩ := hr
  refine ⟨_, Zaw A B hs, fun C H σ δ fp ex K Q R h k => ?_⟩
  refine sa C H σ δ fp ex _ _ R h fun H1 x u δ1 fp1 new1 r1 h1 => ?_
  refine sb C H1 σ δ1 fp1 (exu ex new1) _ _ r1.rel h1 fun H2 ys us δ2 fp2 new2 r2 h2 => ?_
  have o1 := r1.rel.own_step (ex' := exu (exu ex new1) new2) r2.stp (c := c) hc (fun a z => z.imp id fun z => r2.fresh a z) (fun a m => .inr m) r1.own
  have eqx : ∀ a, exu ex (new1 ++ new2) a → exu (exu ex new1) new2 a := fun a z => by
    rcases z with z | z
    · exact .inl (.inl z)
    · rcases List.mem_append.mp z with z | z
      · exact .inl (.inr z)
      · exact .inr z
  refine k H2 (x :: ys) (u :: us) δ2 fp2 (new1 ++ new2) ⟨r2.rel.drop eqx, r1.stp.trans r2.stp, .cons (o1.wide fun a l _ z => ?_) (r2.own.wide fun a l _ z => ?_), ?_, ?_⟩ h2
  · have l := l (by rw [Bool.and_eq_true] at z; exact z.1)
    exact ⟨l.1, fun w => l.2.1 (eqx a w), l.2.2⟩
  · have l := l (by rw [Bool.and_eq_true] at z; exact z.2)
    exact ⟨l.1, fun w => l.2.1 (eqx a w), l.2.2⟩
  · refine List.nodup_append.mpr ⟨r1.nd, r2.nd, fun a m b m' z => ?_⟩
    subst z
    obtain ⟨xs, e⟩ := r1.own.some a m
    rw [r2.fresh a m'] at e
    cases e
  · intro a m
    rcases List.mem_append.mp m with m | m
    · exact r1.fresh a m
    · exact r1.stp.al a (r2.fresh a m)
noncomputable def Z7m (m : MAt) : MEt := fun δ K => m δ fun rs δ' => rs.length ≤ sizeLine ∧ K (.fz (.tuple (OT.datas rs))) δ'
noncomputable def Z5k (m : MAt) : MEt := fun δ K => m δ fun rs δ' => rs.length ≤ sizeLine ∧ K (.nd rs) δ'
theorem Z4c {x1} (h : MA X io p c es mr) : ME X io p c (.Tuple es x1 pos) (Z7m mr) := by
  obtain ⟨tA, A, sa⟩ := h
  refine ⟨_, Z03 A, fun C H σ δ fp ex K Q R h k => ?_⟩
  refine sa C H σ δ fp ex _ _ R h fun H1 vs rs δ1 fp1 new1 r1 h1 => ⟨by rw [r1.own.length]; exact h1.1, fun q hq => ?_⟩
  have s := Z7 hq (.tup vs)
  have R1 := r1.base
  have S := r1.stp.trans (p' := true) (Stp.same (p := true) (δ := δ1) (fp := fp1) s s.al)
  rw [Bool.and_true] at S
  refine k _ _ _ δ1 fp1 [] (.fz ?_ S (.tup Z8 ((r1.das R).same s))) h1.2
  exact (R1.made (new := []) s fun a m => nomatch m).drop fun a z => .inl z
theorem Zwk (h : MA X io p c es mr) : ME X io p c (.List es pos) (Z5k mr) := by
  obtain ⟨tA, A, sa⟩ := h
  refine ⟨_, Zu3 A, fun C H σ δ fp ex K Q R h k => ?_⟩
  refine sa C H σ δ fp ex _ _ R h fun H1 vs rs δ1 fp1 new1 r1 h1 => ⟨by rw [r1.own.length]; exact h1.1, fun q hq => ?_⟩
  have s := Z7 hq (.lst vs)
  have S := r1.stp.trans (p' := true) (Stp.same (p := true) (δ := δ1) (fp := fp1) s s.al)
  rw [Bool.and_true] at S
  have hqn : q ∉ new1 := fun m => by
    obtain ⟨xs, e⟩ := r1.own.some q m
    rw [hq] at e; cases e
  have R2 := (r1.rel.made (new := [q]) s fun a m => by
    rcases List.mem_singleton.mp m with rfl
    exact ⟨hq, by rw [Z8]; intro z; cases z⟩)
  have eqx : ∀ a, exu ex (q :: new1) a → exu (exu ex new1) [q] a := fun a z => by
    rcases z with z | z
    · exact .inl (.inl z)
    · rcases List.mem_cons.mp z with z | z
      · exact .inr (List.mem_singleton.mpr z)
      · exact .inl (.inr z)
  refine k _ _ _ δ1 fp1 (q :: new1) ⟨R2.drop eqx, S, .nd Z8 ((r1.own.wide fun a l w z => ?_).same s), List.nodup_cons.mpr ⟨hqn, r1.nd⟩, fun a m => ?_⟩ h1.2
  · have l := l z
    refine ⟨l.1, fun y => ?_, l.2.2⟩
    rcases eqx a y with y | y
    · exact l.2.1 y
    · rcases List.mem_singleton.mp y with rfl
      exact w hq
  · rcases List.mem_cons.mp m with rfl | m
    · exact r1.stp.al _ hq
    · exact r1.fresh a m
end
end L2
namespace L2
open PySem PySem.Spec PyProof.Rows
variable {G : PySem.W.Frag}
noncomputable def spD (G : PySem.W.Frag) (S : List PyData → (OT → Prop) → Prop) : Sp := fun vs H Q _ => ∃ L ds k, Das G H L vs ds ∧ S ds k ∧
  ∀ r v H' new, k r → Same H H' → Own G H' (fun a => (L a ∨ H a = none) ∧ a ∉ new) v r new → new.Nodup → (∀ a ∈ new, H a = none) → Q v H'
section
variable {X : Cx} {io : List Nat} {p p' p'' c c' : Bool} {e a b : Expr} {m ma mb : MEt} {es rest : List Expr} {mr : MAt} {pos : Pos}
variable {CX : CXT} {k : Nat} {f : Addr} {fd : FuncData} {ps : List Str} {E : XK} {x : Str} {pp : Pos}
noncomputable def Zx2 (S : List PyData → (OT → Prop) → Prop) (mr : MAt) : MEt := fun δ K => mr δ fun rs δ1 => S (OT.datas rs) fun r => K r δ1
theorem Z3u {S} {t : TA} (sa : SA G io p c t mr) : SE G io p c (Zv3 (spD G S) [] E t) (Zx2 S mr) := by
  intro C H σ δ fp ex K Q R h kk
  refine sa C H σ δ fp ex _ _ R h fun H1 vs rs δ1 fp1 new1 r1 h1 => ?_
  rw [List.append_nil]
  refine ⟨_, _, _, r1.das R, h1, fun r v H' new kr s o nd hn => ?_⟩
  exact kk H' v r δ1 fp1 new (RE.tree R r1.base r1.stp s hn nd o) kr
theorem Zmm {S} (F : FnOk X.prog X.w X.K X.mg X.base CX k f fd ps (spD X.K S)) (hr : Room k X.A) (hg : Gl X x) (hm : X.mg x = some (.ref f)) (hk : PySem.W.keepIn X.K (.ref f) = true) (hb : Binds X.K fd ps []) (hx : Zj3 CX X E)
    (ha : MA X io p c (e :: es) mr) (hdb : (x == ("__debug__" : Str)) = false := by decide) (he : starEach (e :: es) X.env = (false, eval e X.env) :: starEach es X.env := by rfl) (hpl : (backTo pos (starEach es X.env)).any (·.1) = false := by rfl) :
    ME X io p c (.Call (.Name x pp) (e :: es) [] pos) (Zx2 S mr) := by
  obtain ⟨_, A, sa⟩ := ha
  exact ⟨_, Zp3 F hr hg hm hk hb .nil hx A hdb he hpl, Z3u sa⟩
noncomputable def fpu (fp : Fp) (i : Nat) (as : List Addr) : Fp := fun j => if j = i then as else fp j
theorem Yg {fp : Fp} {i : Nat} {as : List Addr} : fpu fp i as i = as := if_pos rfl
theorem Wc {fp : Fp} {i j : Nat} {as : List Addr} (h : j ≠ i) : fpu fp i as j = fp j := if_neg h
theorem Foot.of_u {fp : Fp} {i : Nat} {as : List Addr} {a : Addr} (h : Foot (fpu fp i as) a) : a ∈ as ∨ ∃ j, j ≠ i ∧ a ∈ fp j := by
  obtain ⟨j, h⟩ := h
  by_cases e : j = i
  · subst e; rw [Yg] at h; exact .inl h
  · rw [Wc e] at h; exact .inr ⟨j, e, h⟩
theorem Rel.change {C : MC G} {H H' : Hp} {σ : St} {δ : Zh} {fp : Fp} {ex : Addr → Prop} {i : Nat} {t t' : OT} {v : V} {as' new : List Addr} (R : Rel C io H σ δ fp ex) (hi : δ[i]? = some (some t)) (hv : σ[i]? = some (some v))
    (keep : ∀ b o, H b = some o → b ∉ fp i → H' b = some o) (al : ∀ b, H' b = none → H b = none) (o : Own G H' (Lf C (fpu fp i as') (exu ex new)) v t' as') (nd : as'.Nodup) (new' : ∀ a ∈ as', a ∈ fp i ∨ H a = none)
    (hn : ∀ a ∈ new, H a = none ∧ H' a ≠ none ∧ a ∉ as') :
    Rel C io H' σ (δ.set i (some t')) (fpu fp i as') (exu ex new) ∧ Stp false H δ fp H' (δ.set i (some t')) (fpu fp i as') := by
  have hil : i < δ.length := (List.getElem?_eq_some_iff.mp hi).1
  have apart : ∀ j a, j ≠ i → a ∈ fp j → a ∉ as' := fun j a e m z => by
    rcases new' a z with z | z
    · exact e (R.dj j i a m z)
    · exact R.footSome z ⟨j, m⟩
  constructor
  · refine ⟨by rw [List.length_set]; exact R.len, fun j t'' e => ?_, fun j h => ?_, fun j => ?_, fun j k a h1 h2 => ?_, fun j a h z => ?_, fun a z w => z.elim (fun z => R.xa a z (al a w)) (fun z => (hn a z).2.1 w), fun b ob e n => ?_, fun b z => R.al b (al b z), fun j a h => ?_, R.io⟩
    · by_cases ej : j = i
      · subst ej
        rw [List.getElem?_set_self hil] at e
        cases e
        exact ⟨v, hv, by rw [Yg]; exact o⟩
      · rw [List.getElem?_set_ne (Ne.symm ej)] at e
        obtain ⟨w, e1, o1⟩ := R.own j t'' e
        refine ⟨w, e1, ?_⟩
        rw [Wc ej]
        refine o1.frame (fun a xs l q => ?_) (fun a xs q => keep a _ q fun z => ?_) fun a m xs q => keep a _ q fun z => ej (R.dj j i a m z)
        · have na : a ∉ fp i := fun z => l.1 ⟨i, z⟩
          refine ⟨⟨fun z => ?_, fun z => z.elim l.2.1 fun z => q.some (hn a z).1, l.2.2⟩, ?_⟩
          · rcases z.of_u with z | ⟨k, _, z⟩
            · rcases new' a z with z | z
              · exact na z
              · exact q.some z
            · exact l.1 ⟨k, z⟩
          · rcases q with q | ⟨u, q⟩
            · exact .inl (keep a _ q na)
            · exact .inr ⟨u, keep a _ q na⟩
        · obtain ⟨ys, e⟩ := R.foot ⟨i, z⟩
          exact ImO.nm q e
    · by_cases ej : j = i
      · subst ej
        exact absurd (List.getElem?_set_self hil) (h t')
      · rw [Wc ej]
        refine R.emp j fun t'' z => h t'' ?_
        rw [List.getElem?_set_ne (Ne.symm ej)]
        exact z
    · by_cases ej : j = i
      · subst ej; rw [Yg]; exact nd
      · rw [Wc ej]; exact R.nd j
    · by_cases ej : j = i
      · subst ej
        rw [Yg] at h1
        by_cases ek : k = j
        · exact ek.symm
        · rw [Wc ek] at h2
          exact absurd h1 (apart k a ek h2)
      · rw [Wc ej] at h1
        by_cases ek : k = i
        · subst ek
          rw [Yg] at h2
          exact absurd h2 (apart j a ej h1)
        · rw [Wc ek] at h2
          exact R.dj j k a h1 h2
    · by_cases ej : j = i
      · subst ej
        rw [Yg] at h
        rcases z with z | z
        · rcases new' a h with w | w
          · exact R.dx _ a w z
          · exact R.xa a z w
        · exact (hn a z).2.2 h
      · rw [Wc ej] at h
        rcases z with z | z
        · exact R.dx j a h z
        · exact R.footSome (hn a z).1 ⟨j, h⟩
    · refine keep b ob (R.fr b ob e n) fun z => ?_
      rcases R.new i b z with w | w
      · exact n w.2
      · rw [e] at w; cases w
    · by_cases ej : j = i
      · subst ej
        rw [Yg] at h
        rcases new' a h with w | w
        · exact R.new _ a w
        · exact .inr (R.al a w)
      · rw [Wc ej] at h
        exact R.new j a h
  · refine ⟨fun b ob e q => keep b ob e fun z => (q.resolve_left (by decide)) ⟨i, z⟩, fun z => (nomatch z), fun a z => ?_, al⟩
    rcases z.of_u with z | ⟨j, _, z⟩
    · exact (new' a z).imp (fun w => ⟨i, w⟩) id
    · exact .inl ⟨j, z⟩
noncomputable def PNs (G : PySem.W.Frag) (r : List V → Hp → VK → Prop) (rp : List PyData → (PyData → Prop) → Prop) : Prop := ∀ (H : Hp) (L : Addr → Prop) (xs : List V) (ds : List PyData) (k : PyData → Prop) (Q : VK), Das G H L xs ds → rp ds k → (∀ v d', ScD v d' → k d' → Q v H) → r xs H Q
noncomputable def PN (G : PySem.W.Frag) (r : List V → Hp → VK → Prop) (rp : List PyData → (OT → Prop) → Prop) : Prop := ∀ (H : Hp) (L : Addr → Prop) (xs : List V) (ds : List PyData) (k : OT → Prop) (Q : VK), Das G H L xs ds → rp ds k →
  (∀ H' v o new, Same H H' → Own G H' (fun a => (L a ∨ H a = none) ∧ a ∉ new) v o new → new.Nodup → (∀ a ∈ new, H a = none) → k o → Q v H') → r xs H Q
noncomputable def Z3z (rp : List PyData → (PyData → Prop) → Prop) (mr : MAt) : MEt := fun δ K => mr δ fun rs δ1 => rp (OT.datas rs) fun d => K (.fz d) δ1
noncomputable def mBl (rp : List PyData → (OT → Prop) → Prop) (mr : MAt) : MEt := fun δ K => mr δ fun rs δ1 => rp (OT.datas rs) fun o => K o δ1
theorem Z8y {r rp} {t : TA} (P : PNs G r rp) (sa : SA G io p c t mr) : SE G io p true (tCB r t) (Z3z rp mr) := fun C H σ δ fp ex K Q R h kk =>
  sa C H σ δ fp ex _ _ R h fun H1 vs rs δ1 fp1 new1 r1 h1 => P H1 _ vs _ _ _ (r1.das R) h1 fun v d' sc h2 => kk H1 v _ δ1 fp1 [] (.fz r1.base r1.stp sc.da) h2
theorem sBl {r rp} {t : TA} (P : PN G r rp) (sa : SA G io p c t mr) : SE G io p c (tCB r t) (mBl rp mr) := fun C H σ δ fp ex K Q R h kk =>
  sa C H σ δ fp ex _ _ R h fun H1 vs rs δ1 fp1 new1 r1 h1 => P H1 _ vs _ _ _ (r1.das R) h1 fun H' v o new s ow nd hn h2 => kk H' v o δ1 fp1 new (RE.tree R r1.base r1.stp s hn nd ow) h2
variable {id T : String} {r : List V → Hp → VK → Prop}
theorem Zgy {rp} (P : PNs X.K r rp) (hc : Zdm X (.builtin id) r) (hg : Gl X x) (hm : X.mg x = none) (hv : bootBuiltins x = some (.builtin id)) (ha : MA X io p c (e :: es) mr) (hn : x ≠ "__name__" := by decide) (hdb : (x == ("__debug__" : Str)) = false := by decide)
    (he : starEach (e :: es) X.env = (false, eval e X.env) :: starEach es X.env := by rfl) (hpl : (backTo pos (starEach es X.env)).any (·.1) = false := by rfl) : ME X io p true (.Call (.Name x pp) (e :: es) [] pos) (Z3z rp mr) := by
  obtain ⟨_, A, sa⟩ := ha
  exact ⟨_, Zhz hc hg hm hv A hn hdb he hpl, Z8y P sa⟩
theorem Z7l {rp} (P : PN X.K r rp) (hc : Zdm X (.builtin id) r) (hg : Gl X x) (hm : X.mg x = none) (hv : bootBuiltins x = some (.builtin id)) (ha : MA X io p c (e :: es) mr) (hn : x ≠ "__name__" := by decide) (hdb : (x == ("__debug__" : Str)) = false := by decide)
    (he : starEach (e :: es) X.env = (false, eval e X.env) :: starEach es X.env := by rfl) (hpl : (backTo pos (starEach es X.env)).any (·.1) = false := by rfl) : ME X io p c (.Call (.Name x pp) (e :: es) [] pos) (mBl rp mr) := by
  obtain ⟨_, A, sa⟩ := ha
  exact ⟨_, Zhz hc hg hm hv A hn hdb he hpl, sBl P sa⟩
theorem Z8b {rp} (P : PN X.K r rp) (hc : Zdm X (.type T) r) (hg : Gl X x) (hm : X.mg x = none) (hv : bootBuiltins x = some (.type T)) (ha : MA X io p c (e :: es) mr) (hn : x ≠ "__name__" := by decide) (hdb : (x == ("__debug__" : Str)) = false := by decide)
    (he : starEach (e :: es) X.env = (false, eval e X.env) :: starEach es X.env := by rfl) (hpl : (backTo pos (starEach es X.env)).any (·.1) = false := by rfl) : ME X io p c (.Call (.Name x pp) (e :: es) [] pos) (mBl rp mr) := by
  obtain ⟨_, A, sa⟩ := ha
  exact ⟨_, Zdz hc hg hm hv A hn hdb he hpl, sBl P sa⟩
end
end L2
namespace L2
open PySem PySem.Spec PyProof.Rows
variable {G : PySem.W.Frag}
mutual
noncomputable def Zay : PyData → Bool
  | .none => true
  | .bool _ => true
  | .int _ => true
  | .str _ => true
  | .tuple ds => Zkf ds
  | .list _ => false
  | .dict _ => false
noncomputable def Zkf : List PyData → Bool
  | [] => true
  | d :: ds => Zay d && Zkf ds
end
theorem Da.flat2 {H : Hp} {L L' : Addr → Prop} : (∀ {v : V} {d : PyData}, Da G H L v d → Zay d = true → Da G H L' v d) ∧ ∀ {v : List V} {d : List PyData}, Das G H L v d → Zkf d = true → Das G H L' v d :=
  Da.both (fun _ => .non) (fun b _ => .bl b) (fun i _ => .int i) (fun x _ => .str x) (fun _ _ _ h => by rw [Zay] at h; cases h) (fun e r h => .tup e (r (by rw [Zay] at h; exact h))) (fun k _ => .scr k) (fun c n e _ => .exc c n e) (fun k _ => .fn k) (fun _ _ _ _ h => by rw [dcD, Zay] at h; cases h) (fun _ => .nil)
    (fun k r h => by rw [Zkf, Bool.and_eq_true] at h; exact .cons (k h.1) (r h.2))
theorem Da.flat {H : Hp} {L L' : Addr → Prop} {v : V} {d : PyData} (h : Da G H L v d) (f : Zay d = true) : Da G H L' v d := Da.flat2.1 h f
set_option genInjectivity false in
structure Zg1 where
  nx : Zh → Prop
  rt : OT → Zh → Prop
  bk : Zh → Prop := fun _ => False
  ct : Zh → Prop := fun _ => False
noncomputable abbrev MSt := Zg1 → Zh → Prop
noncomputable abbrev Kp (H : Hp) (fp : Fp) (H' : Hp) (fp' : Fp) : Prop := Stp false H [] fp H' [] fp'
theorem Stp.kp {p : Bool} {H H' : Hp} {δ δ' : Zh} {fp fp' : Fp} (S : Stp p H δ fp H' δ' fp') : Kp H fp H' fp' := ⟨fun b o e q => S.keep b o e (.inr (q.resolve_left (by decide))), fun z => (nomatch z), S.grow, S.al⟩
theorem Kp.trans {H H1 H2 : Hp} {fp fp1 fp2 : Fp} (a : Kp H fp H1 fp1) (b : Kp H1 fp1 H2 fp2) : Kp H fp H2 fp2 := Stp.trans a b
theorem Kp.refl (H : Hp) (fp : Fp) : Kp H fp H fp := Stp.refl _ _ _ _
structure RelEnds (C : MC G) (io : List Nat) (ex : Addr → Prop) (H : Hp) (fp : Fp) (D : Zg1) (D' : Ends) : Prop where
  nx : ∀ H' σ' δ' fp', Rel C io H' σ' δ' fp' ex → Kp H fp H' fp' → D.nx δ' → D'.nx σ' H'
  bk : ∀ H' σ' δ' fp', Rel C io H' σ' δ' fp' ex → Kp H fp H' fp' → D.bk δ' → D'.bk σ' H'
  ct : ∀ H' σ' δ' fp', Rel C io H' σ' δ' fp' ex → Kp H fp H' fp' → D.ct δ' → D'.ct σ' H'
  rt : ∀ H' σ' v r δ' fp' new, Rel C io H' σ' δ' fp' (exu ex new) → Own G H' (Lf C fp' (exu ex new)) v r new → new.Nodup → (∀ a ∈ new, C.H₀ a = none) → D.rt r δ' → D'.rt v H'
theorem RelEnds.shift {C : MC G} {io : List Nat} {ex : Addr → Prop} {H H1 : Hp} {fp fp1 : Fp} {D : Zg1} {D' : Ends} (E : RelEnds C io ex H fp D D') (k : Kp H fp H1 fp1) : RelEnds C io ex H1 fp1 D D' :=
  ⟨fun H' σ' δ' fp' R q => E.nx H' σ' δ' fp' R (k.trans q), fun H' σ' δ' fp' R q => E.bk H' σ' δ' fp' R (k.trans q), fun H' σ' δ' fp' R q => E.ct H' σ' δ' fp' R (k.trans q), E.rt⟩
noncomputable def SS (G : PySem.W.Frag) (io : List Nat) (t : TS) (m : MSt) : Prop := ∀ (C : MC G) (H : Hp) (σ : St) (δ : Zh) (fp : Fp) (ex : Addr → Prop) (D : Zg1) (D' : Ends), Rel C io H σ δ fp ex → m D δ → RelEnds C io ex H fp D D' → t D' σ H
noncomputable def MS (X : Cx) (io : List Nat) (st : Stmt) (m : MSt) : Prop := ∃ t, PS X st t ∧ SS X.K io t m
noncomputable def MSs (X : Cx) (io : List Nat) (st : List Stmt) (m : MSt) : Prop := ∃ t, PSs X st t ∧ SS X.K io t m
section
variable {X : Cx} {io : List Nat} {p p' p'' c c' : Bool} {e a b : Expr} {m ma mb : MEt} {es rest : List Expr} {mr : MAt} {pos : Pos} {st : Stmt} {sts : List Stmt} {u w : MSt} {mt : MTt}
noncomputable def Z0j : MSt := fun D δ => D.nx δ
noncomputable def Z77 (w : MSt) (D : Zg1) (δ : Zh) : Prop := w D δ
noncomputable def Z3h (u w : MSt) : MSt := fun D δ => u { D with nx := Z77 w D } δ
theorem Zbr : MSs X io [] Z0j := ⟨_, Zxe, fun C H σ δ fp ex D D' R h E => E.nx H σ δ fp R (.refl _ _) h⟩
theorem Zi (h : MS X io st u) : MSs X io [st] u := by
  obtain ⟨_, A, s⟩ := h
  exact ⟨_, Zwc A, s⟩
theorem Jk (h : MS X io st u) (g : MSs X io sts w) : MSs X io (st :: sts) (Z3h u w) := by
  obtain ⟨_, A, s⟩ := h
  obtain ⟨tb, B, s'⟩ := g
  exact ⟨_, Zs3 A B, fun C H σ δ fp ex D D' R h E => s C H σ δ fp ex _ _ R h ⟨fun H1 σ1 δ1 fp1 R1 k1 h1 => s' C H1 σ1 δ1 fp1 ex D D' R1 h1 (E.shift k1), E.bk, E.ct, E.rt⟩⟩
noncomputable def Z2j (m : MEt) : MSt := fun D δ => m δ fun r δ' => D.rt r δ'
theorem Ze7 (he : ME X io p true e m) : MS X io (.Return (some e) pos) (Z2j m) := by
  obtain ⟨_, A, s⟩ := he
  exact ⟨_, Zp9 A, fun C H σ δ fp ex D D' R h E => s C H σ δ fp ex _ _ R h fun H' v r δ' fp' new r1 h1 => E.rt H' σ v r δ' fp' new r1.rel (r1.own.wide fun a l _ => l rfl) r1.nd (fun a m => (R.newOk (r1.fresh a m)).2.2) h1⟩
noncomputable def Zku (i : Nat) : MSt := fun D δ => match δ[i]? with | some (some t) => D.rt t (δ.set i none) | _ => False
theorem Rel.take {C : MC G} {H : Hp} {σ : St} {δ : Zh} {fp : Fp} {ex : Addr → Prop} {i : Nat} {t : OT} (R : Rel C io H σ δ fp ex) (hi : δ[i]? = some (some t)) : Rel C io H σ (δ.set i none) (fpu fp i []) (exu ex (fp i)) := by
  have hil : i < δ.length := (List.getElem?_eq_some_iff.mp hi).1
  have get : ∀ j (t' : OT), (δ.set i none)[j]? = some (some t') → j ≠ i ∧ δ[j]? = some (some t') := fun j t' e => by
    by_cases ej : j = i
    · subst ej; rw [List.getElem?_set_self hil] at e; cases e
    · rw [List.getElem?_set_ne (Ne.symm ej)] at e; exact ⟨ej, e⟩
  have sub : ∀ j a, a ∈ fpu fp i [] j → j ≠ i ∧ a ∈ fp j := fun j a m => by
    by_cases ej : j = i
    · subst ej; rw [Yg] at m; exact nomatch m
    · rw [Wc ej] at m; exact ⟨ej, m⟩
  have lw : ∀ a, Lf C fp ex a → Lf C (fpu fp i []) (exu ex (fp i)) a := fun a l => ⟨fun ⟨j, z⟩ => l.1 ⟨j, (sub j a z).2⟩, fun z => z.elim l.2.1 fun z => l.1 ⟨i, z⟩, l.2.2⟩
  refine ⟨by rw [List.length_set]; exact R.len, fun j t' e => ?_, fun j h => ?_, fun j => ?_, fun j k a h1 h2 => R.dj j k a (sub j a h1).2 (sub k a h2).2, fun j a h z => ?_, fun a z w => ?_, R.fr, R.al, fun j a h => R.new j a (sub j a h).2, R.io⟩
  · obtain ⟨ej, e⟩ := get j t' e
    obtain ⟨w, e1, o⟩ := R.own j t' e
    exact ⟨w, e1, by rw [Wc ej]; exact o.wide fun a l _ => lw a l⟩
  · by_cases ej : j = i
    · subst ej; rw [Yg]
    · rw [Wc ej]
      exact R.emp j fun t' z => h t' (by rw [List.getElem?_set_ne (Ne.symm ej)]; exact z)
  · by_cases ej : j = i
    · subst ej; rw [Yg]; exact .nil
    · rw [Wc ej]; exact R.nd j
  · obtain ⟨ej, h⟩ := sub j a h
    rcases z with z | z
    · exact R.dx j a h z
    · exact ej (R.dj j i a h z)
  · rcases z with z | z
    · exact R.xa a z w
    · exact R.footSome w ⟨i, z⟩
theorem Zbl (i : Nat) {x : Str} {px : Pos} (hio : i ∉ io := by decide) (hN : X.N[i]? = some x := by rfl) (hv : Vis X.env.scope x := by first | exact Or.inl rfl | exact Or.inr (Or.inl rfl) | exact Or.inr (Or.inr rfl)) (hd : (x == ("__debug__" : Str)) = false := by decide)
    (hcd : (x == ("__classdict__" : Str)) = false := by decide) : MS X io (.Return (some (.Name x px)) pos) (Zku i) := by
  refine ⟨_, Zp9 (pv i hN hv hd hcd), fun C H σ δ fp ex D D' R h E => ?_⟩
  unfold Zku at h
  split at h
  case h_2 => exact h.elim
  rename_i t hi
  obtain ⟨v, e, o⟩ := R.own i t hi
  have lw : ∀ a, Lf C fp ex a → H a ≠ none → Lf C (fpu fp i []) (exu ex (fp i)) a := fun a l _ => ⟨fun z => by
    rcases z.of_u with z | ⟨j, _, z⟩
    · exact nomatch z
    · exact l.1 ⟨j, z⟩, fun z => z.elim l.2.1 fun z => l.1 ⟨i, z⟩, l.2.2⟩
  have hn : ∀ a ∈ fp i, C.H₀ a = none := fun a m => by
    rcases R.new i a m with z | z
    · exact absurd z.1 hio
    · exact z
  exact ⟨v, e, E.rt H σ v t _ _ (fp i) (R.take hi) (o.wide lw) (R.nd i) hn h⟩
noncomputable def Z2t (t : MTt) (u w : MSt) : MSt := fun D δ => t δ fun b δ' => if b = true then u D δ' else w D δ'
theorem Zh4 {cnd : Expr} {ss ss' : List Stmt} (hc : MT X io p cnd mt) (ha : MSs X io ss u) (hb : MSs X io ss' w) : MS X io (.If cnd ss ss' pos) (Z2t mt u w) := by
  obtain ⟨_, T, s⟩ := hc
  obtain ⟨_, A, sa⟩ := ha
  obtain ⟨_, B, sb⟩ := hb
  exact ⟨_, Z30 T A B, fun C H σ δ fp ex D D' R h E => s C H σ δ fp ex _ _ R h fun H' b δ' fp' R' S h' => by
    cases b with
    | true =>
      rw [if_pos rfl] at h' ⊢
      exact sa C H' σ δ' fp' ex D D' R' h' (E.shift S.kp)
    | false =>
      rw [if_neg Bool.false_ne_true] at h' ⊢
      exact sb C H' σ δ' fp' ex D D' R' h' (E.shift S.kp)⟩
theorem Rel.put {C : MC G} {H : Hp} {σ : St} {δ : Zh} {fp : Fp} {ex : Addr → Prop} {i : Nat} {v : V} {r : OT} {new : List Addr} (R : Rel C io H σ δ fp (exu ex new)) (hio : i ∉ io) (o : Own G H (Lf C fp (exu ex new)) v r new) (nd : new.Nodup)
    (hn : ∀ a ∈ new, C.H₀ a = none ∧ ¬ ex a) : ∃ fp', Rel C io H (σ.set i (some v)) (δ.set i (some r)) fp' ex ∧ ∀ a, Foot fp' a → Foot fp a ∨ a ∈ new := by
  by_cases hil : i < δ.length
  case neg =>
    refine ⟨fp, ?_, fun a h => .inl h⟩
    have hl := R.len
    rw [List.set_eq_of_length_le (show δ.length ≤ i by omega), List.set_eq_of_length_le (show σ.length ≤ i by omega)]
    exact R.drop fun a z => .inl z
  have hsl : i < σ.length := by rw [R.len]; exact hil
  have sub : ∀ a, Foot (fpu fp i new) a → Foot fp a ∨ a ∈ new := fun a z => by
    rcases z.of_u with z | ⟨j, _, z⟩
    · exact .inr z
    · exact .inl ⟨j, z⟩
  have lw : ∀ a, Lf C fp (exu ex new) a → Lf C (fpu fp i new) ex a := fun a l => ⟨fun z => (sub a z).elim l.1 fun z => l.2.1 (.inr z), fun z => l.2.1 (.inl z), l.2.2⟩
  refine ⟨fpu fp i new, ⟨by rw [List.length_set, List.length_set]; exact R.len, fun j t' e => ?_, fun j h => ?_, fun j => ?_, fun j k a h1 h2 => ?_, fun j a h z => ?_, fun a z => R.xa a (.inl z), R.fr, R.al, fun j a h => ?_, fun j hj => ?_⟩, sub⟩
  · by_cases ej : j = i
    · subst ej
      rw [List.getElem?_set_self hil] at e
      cases e
      exact ⟨v, List.getElem?_set_self hsl, by rw [Yg]; exact o.wide fun a l _ => lw a l⟩
    · rw [List.getElem?_set_ne (Ne.symm ej)] at e
      obtain ⟨w, e1, o1⟩ := R.own j t' e
      exact ⟨w, by rw [List.getElem?_set_ne (Ne.symm ej)]; exact e1, by rw [Wc ej]; exact o1.wide fun a l _ => lw a l⟩
  · by_cases ej : j = i
    · subst ej; exact absurd (List.getElem?_set_self hil) (h r)
    · rw [Wc ej]
      exact R.emp j fun t' z => h t' (by rw [List.getElem?_set_ne (Ne.symm ej)]; exact z)
  · by_cases ej : j = i
    · subst ej; rw [Yg]; exact nd
    · rw [Wc ej]; exact R.nd j
  · by_cases ej : j = i
    · subst ej
      rw [Yg] at h1
      by_cases ek : k = j
      · exact ek.symm
      · rw [Wc ek] at h2
        exact absurd (.inr h1) (R.dx k a h2)
    · rw [Wc ej] at h1
      by_cases ek : k = i
      · subst ek
        rw [Yg] at h2
        exact absurd (.inr h2) (R.dx j a h1)
      · rw [Wc ek] at h2
        exact R.dj j k a h1 h2
  · by_cases ej : j = i
    · subst ej
      rw [Yg] at h
      exact (hn a h).2 z
    · rw [Wc ej] at h
      exact R.dx j a h (.inl z)
  · by_cases ej : j = i
    · subst ej
      rw [Yg] at h
      exact .inr (hn a h).1
    · rw [Wc ej] at h
      exact R.new j a h
  · have ej : j ≠ i := fun z => hio (z ▸ hj)
    rw [List.getElem?_set_ne (Ne.symm ej)]
    exact R.io j hj
theorem RE.put {C : MC G} {H H' : Hp} {σ : St} {δ δ' : Zh} {fp fp' : Fp} {ex : Addr → Prop} {i : Nat} {v : V} {r : OT} {new : List Addr} (R : RE C io p true H σ δ fp ex H' v r δ' fp' new) (R0 : Rel C io H σ δ fp ex) (hio : i ∉ io) :
    ∃ fp2, Rel C io H' (σ.set i (some v)) (δ'.set i (some r)) fp2 ex ∧ Kp H fp H' fp2 := by
  obtain ⟨fp2, R2, g⟩ := R.rel.put hio (R.own.wide fun a l _ => l rfl) R.nd fun a m => ⟨(R0.newOk (R.fresh a m)).2.2, (R0.newOk (R.fresh a m)).2.1⟩
  refine ⟨fp2, R2, fun b o e q => R.stp.keep b o e (.inr (q.resolve_left (by decide))), fun z => (nomatch z), fun a z => ?_, R.stp.al⟩
  rcases g a z with z | z
  · exact R.stp.grow a z
  · exact .inr (R.fresh a z)
theorem RE.fzc {C : MC G} {H H' : Hp} {σ : St} {δ δ' : Zh} {fp fp' : Fp} {ex : Addr → Prop} {v : V} {r : OT} {new : List Addr} (R : RE C io p c H σ δ fp ex H' v r δ' fp' new) (R0 : Rel C io H σ δ fp ex) :
    RE C io p c H σ δ fp ex H' v (.fz r.data) δ' fp' [] := .fz R.base R.stp (R.da R0)
theorem RE.fzs {C : MC G} {H H' : Hp} {σ : St} {δ δ' : Zh} {fp fp' : Fp} {ex : Addr → Prop} {v : V} {r : OT} {new : List Addr} (R : RE C io p c H σ δ fp ex H' v r δ' fp' new) (R0 : Rel C io H σ δ fp ex) (h : Zay r.data = true) :
    RE C io p true H σ δ fp ex H' v (.fz r.data) δ' fp' [] := .fz R.base R.stp ((R.da R0).flat h)
noncomputable def Zyb (i : Nat) (m : MEt) : MSt := fun D δ => m δ fun r δ' => D.nx (δ'.set i (some (.fz r.data)))
noncomputable def Zkg (i : Nat) (m : MEt) : MSt := fun D δ => m δ fun r δ' => D.nx (δ'.set i (some r))
section
variable {i : Nat} {x : Str} {px : Pos}
theorem Z61 {t : TE} (s : SE G io p true t m) (hio : i ∉ io) : SS G io (Zzj t (Zrf i)) (Zyb i m) := fun C H σ δ fp ex D D' R h E => s C H σ δ fp ex _ _ R h fun H' v r δ' fp' new r1 h1 => by
  obtain ⟨fp2, R2, k2⟩ := (r1.fzc R).put R hio
  exact E.nx H' _ _ fp2 R2 k2 h1
theorem Zve {t : TE} (s : SE G io p true t m) (hio : i ∉ io) : SS G io (Zzj t (Zrf i)) (Zkg i m) := fun C H σ δ fp ex D D' R h E => s C H σ δ fp ex _ _ R h fun H' v r δ' fp' new r1 h1 => by
  obtain ⟨fp2, R2, k2⟩ := r1.put R hio
  exact E.nx H' _ _ fp2 R2 k2 h1
theorem Zpl (hN : X.N.Nodup) (hi : X.N[i]? = some x) (hx : Loc X.env.scope x) (he : ME X io p true e m) (hio : i ∉ io := by decide) (hs : swapsWith e (some (.Name x px)) pos.line X.env = pure false := by rfl) (hf : X.fn x = true ∨ X.env.scope.names.lookup x = some .local := by first | exact .inl rfl | exact .inr rfl | assumption) :
    MS X io (.Assign [.Name x px] e pos) (Zyb i m) := by
  obtain ⟨_, A, s⟩ := he
  exact ⟨_, Zus hN hi hx A hs hf, Z61 s hio⟩
theorem Zos (hN : X.N.Nodup) (hi : X.N[i]? = some x) (hx : Loc X.env.scope x) (he : ME X io p true e m) (hio : i ∉ io := by decide) (hs : swapsWith e (some (.Name x px)) pos.line X.env = pure false := by rfl) (hf : X.fn x = true ∨ X.env.scope.names.lookup x = some .local := by first | exact .inl rfl | exact .inr rfl | assumption) :
    MS X io (.Assign [.Name x px] e pos) (Zkg i m) := by
  obtain ⟨_, A, s⟩ := he
  exact ⟨_, Zus hN hi hx A hs hf, Zve s hio⟩
end
noncomputable def Zu8 (t : MTt) (u : MSt) : MSt := fun D δ => ∃ W : Nat → Zh → Prop, (∃ n, W n δ) ∧ ∀ n δ, W n δ → t δ fun b δ' => if b = true then ∃ N : Zh → Prop, (∀ δ', N δ' → ∃ n', n' < n ∧ W n' δ') ∧ u { D with nx := N, ct := N, bk := D.nx } δ' else D.nx δ'
theorem Znd {cnd : Expr} {ss : List Stmt} (hp : PassesOwn (model X.prog X.w) X.A X.env X.xe) (hc : MT X io p cnd mt) (ha : MSs X io ss u) : MS X io (.While cnd ss [] pos) (Zu8 mt u) := by
  obtain ⟨_, T, s⟩ := hc
  obtain ⟨_, A, sa⟩ := ha
  refine ⟨_, Zso hp T A, fun C H σ δ fp ex D D' R h E => ?_⟩
  obtain ⟨W, ⟨n0, w0⟩, turn⟩ := h
  refine ⟨fun n σ' H' => ∃ δ' fp', Rel C io H' σ' δ' fp' ex ∧ Kp H fp H' fp' ∧ W n δ', ⟨n0, δ, fp, R, .refl _ _, w0⟩, ?_⟩
  rintro n σ1 H1 ⟨δ1, fp1, R1, k1, w1⟩
  refine s C H1 σ1 δ1 fp1 ex _ _ R1 (turn n δ1 w1) fun H2 b δ2 fp2 R2 S2 h2 => ?_
  have k2 := k1.trans S2.kp
  cases b with
  | true =>
    rw [if_pos rfl] at h2 ⊢
    obtain ⟨N, hN, h2⟩ := h2
    refine ⟨fun σ' H' => ∃ δ' fp', Rel C io H' σ' δ' fp' ex ∧ Kp H fp H' fp' ∧ N δ', fun σ' H' ⟨δ', fp', R', k', n'⟩ => ?_, ?_⟩
    · obtain ⟨n1, hn1, w1⟩ := hN δ' n'
      exact ⟨n1, hn1, δ', fp', R', k', w1⟩
    · refine sa C H2 σ1 δ2 fp2 ex _ _ R2 h2 ⟨fun H' σ' δ' fp' R' k' n' => ⟨δ', fp', R', k2.trans k', n'⟩, fun H' σ' δ' fp' R' k' n' => E.nx H' σ' δ' fp' R' (k2.trans k') n', fun H' σ' δ' fp' R' k' n' => ⟨δ', fp', R', k2.trans k', n'⟩, E.rt⟩
  | false =>
    rw [if_neg Bool.false_ne_true] at h2 ⊢
    exact E.nx H2 σ1 δ2 fp2 R2 k2 h2
end
end L2
namespace L2
open PySem PySem.Spec PyProof.Rows
variable {G : PySem.W.Frag}
noncomputable def Zoh (N : List Str) (ds : List PyData) : Zh := ds.map (fun d => some (.fz d)) ++ List.replicate (N.length - ds.length) none
section
variable {H : Hp} {L : Addr → Prop} {vs : List V} {ds : List PyData} {N : List Str}
theorem Zo6 {i : Nat} {t : OT} {n : Nat} (h : (ds.map (fun d => some (.fz d)) ++ List.replicate n none : Zh)[i]? = some (some t)) : ∃ d, ds[i]? = some d ∧ t = .fz d := by
  rw [List.getElem?_append] at h
  split at h
  · rw [List.getElem?_map] at h
    cases e : ds[i]? with
    | none => rw [e] at h; cases h
    | some d => rw [e] at h; cases h; exact ⟨d, rfl, rfl⟩
  · rw [List.getElem?_replicate] at h
    split at h
    · cases h
    · cases h
theorem Rel.entry (h : Das G H L vs ds) : Rel (G := G) ⟨H, fun _ => False, L, start N vs⟩ [] H (start N vs) (Zoh N ds) (fun _ => []) (fun _ => False) := by
  refine ⟨?_, fun i t e => ?_, fun _ _ => rfl, fun _ => .nil, fun i j a m => (nomatch m), fun i a m => (nomatch m), fun a z => z.elim, fun b o e _ => e, fun b e => e, fun i a m => (nomatch m), fun i m => nomatch m⟩
  · unfold start Zoh
    simp [h.length]
  · obtain ⟨d, e', rfl⟩ := Zo6 e
    obtain ⟨x, e1, q⟩ := h.get e'
    refine ⟨x, ?_, .fz (q.wide fun a l _ => ⟨fun ⟨j, z⟩ => (nomatch z), fun z => z, .inl l⟩)⟩
    unfold L2.start
    rw [List.getElem?_append_left (by rw [List.length_map]; exact (List.getElem?_eq_some_iff.mp e1).1), List.getElem?_map, e1]
    rfl
variable {P : Program} {w : World} {K : PySem.W.Frag} {mg : Str → Option Value} {base : Heap}
noncomputable def Zqa (k : OT → Prop) : Zg1 := { nx := fun _ => k (.fz .none), rt := fun r _ => k r }
theorem Fun.okD {x qual : Str} {st : Stmt} {f : Addr} {fd : FuncData} {N ps : List Str} {n : Nat} {S : List PyData → (OT → Prop) → Prop} (F : Fun K x qual st f fd) (Sc : Zv N ps (Zk st)) (len : ∀ ds k, S ds k → ds.length = ps.length)
    (hbody : ∀ (cdv : Value) (A : Around) (outer : List Env) (s : Shared) (H : Hp) (E : XK), Room n (A.deeper (envOfC qual (Zk st) s.heap.objs.size f cdv)) →
      ∃ m, MSs (Zrl CX0 P w K mg base N qual (Zk st) f cdv A outer s H E).nox [] (J8 st) m ∧ ∀ ds k, S ds k → m (Zqa k) (Zoh N ds)) : FnOk P w K mg base CX0 (n + 1) f fd ps (spD K S) := by
  refine F.ok Sc (fun vs H Q E h => ?_) (fun cdv A outer s H vs Q E hr h => ?_)
  · obtain ⟨L, ds, k, h1, h2, _⟩ := h
    rw [h1.length]
    exact len ds k h2
  · obtain ⟨L, ds, k, h1, h2, h3⟩ := h
    obtain ⟨m, ⟨t, A1, s1⟩, q⟩ := hbody cdv A outer s H E hr
    refine ⟨t, A1, s1 ⟨H, fun _ => False, L, start N vs⟩ H _ _ _ _ (Zqa k) _ (Rel.entry h1) (q ds k h2) ⟨fun H' σ' δ' fp' R _ hk => ?_, fun _ _ _ _ _ _ z => z.elim, fun _ _ _ _ _ _ z => z.elim, fun H' σ' v r δ' fp' new R o nd hn hk => ?_⟩⟩
    · exact h3 _ .non H' [] hk (fun b o e => R.fr b o e id) (.fz .non) .nil fun a m => nomatch m
    · refine h3 r v H' new hk (fun b o e => R.fr b o e id) (o.wide fun a l _ => ⟨?_, fun z => l.2.1 (.inr z)⟩) nd hn
      exact l.2.2
end
noncomputable abbrev MGt := PyData → Zh → (Zh → Prop) → Prop
noncomputable abbrev Zrj := List PyData → Zh → (Zh → Prop) → Prop
noncomputable def SG (G : PySem.W.Frag) (io : List Nat) (c : Bool) (t : TG) (g : MGt) : Prop := ∀ (C : MC G) (H : Hp) (σ : St) (δ : Zh) (fp : Fp) (ex : Addr → Prop) (v : V) (d : PyData) (k : Zh → Prop) (Q : St → Hp → Prop), Rel C io H σ δ fp ex → Da G H (fun a => c = true → Lf C fp ex a) v d → g d δ k →
  (∀ σ' δ' fp', Rel C io H σ' δ' fp' ex → Kp H fp H fp' → k δ' → Q σ' H) → t v σ H Q
noncomputable def SGs (G : PySem.W.Frag) (io : List Nat) (c : Bool) (t : TGs) (g : Zrj) : Prop := ∀ (C : MC G) (H : Hp) (σ : St) (δ : Zh) (fp : Fp) (ex : Addr → Prop) (v : List V) (d : List PyData) (k : Zh → Prop) (Q : St → Hp → Prop), Rel C io H σ δ fp ex → Das G H (fun a => c = true → Lf C fp ex a) v d → g d δ k →
  (∀ σ' δ' fp', Rel C io H σ' δ' fp' ex → Kp H fp H fp' → k δ' → Q σ' H) → t v σ H Q
noncomputable def MG (X : Cx) (io : List Nat) (c : Bool) (tg : Expr) (g : MGt) : Prop := ∃ t, PG X tg t ∧ SG X.K io c t g
noncomputable def MGs (X : Cx) (io : List Nat) (c : Bool) (tg : List Expr) (g : Zrj) : Prop := ∃ t, PGs X tg t ∧ SGs X.K io c t g
section
variable {X : Cx} {io : List Nat} {c : Bool} {pos : Pos} {i : Nat} {x : Str}
noncomputable def dName (i : Nat) : MGt := fun d δ k => k (δ.set i (some (.fz d)))
theorem Rel.putD {C : MC G} {H : Hp} {σ : St} {δ : Zh} {fp : Fp} {ex : Addr → Prop} {v : V} {d : PyData} (R : Rel C io H σ δ fp ex) (hio : i ∉ io) (q : Da G H (Lf C fp ex) v d) :
    ∃ fp', Rel C io H (σ.set i (some v)) (δ.set i (some (.fz d))) fp' ex ∧ Kp H fp H fp' := by
  obtain ⟨fp', R', g⟩ := (R.drop fun a z => Zca.mp z).put (new := []) hio (.fz (q.wide fun a l _ => ⟨l.1, fun z => l.2.1 (Zca.mp z), l.2.2⟩)) .nil (fun a m => nomatch m)
  exact ⟨fp', R', fun b o e _ => e, fun z => (nomatch z), fun a z => (g a z).imp id fun z => (nomatch z), fun b e => e⟩
theorem Zh6 (hN : X.N.Nodup) (hi : X.N[i]? = some x := by rfl) (hx : Loc X.env.scope x := by first | exact Or.inl rfl | exact Or.inr rfl) (hio : i ∉ io := by decide) (hf : X.fn x = true ∨ X.env.scope.names.lookup x = some .local := by first | exact .inl rfl | exact .inr rfl | assumption) : MG X io true (.Name x pos) (dName i) :=
  ⟨_, Zvv hN hi hx hf, fun C H σ δ fp ex v d k Q R q h kk => by
    obtain ⟨fp', R', k'⟩ := R.putD hio (q.wide fun a l _ => l rfl)
    exact kk _ _ fp' R' k' h⟩
noncomputable def Z54 : Zrj := fun ds δ k => ds = [] ∧ k δ
noncomputable def Z15 (g : MGt) (gs : Zrj) : Zrj := fun ds δ k => match ds with | d :: r => g d δ fun δ' => gs r δ' k | [] => False
theorem Zn8 : MGs X io c [] Z54 := ⟨_, Zxb, fun C H σ δ fp ex v d k Q R q h kk => by
  obtain ⟨rfl, h⟩ := h
  cases q
  exact ⟨rfl, kk σ δ fp R (.refl _ _) h⟩⟩
theorem Rel.kp_das {C : MC G} {H H' : Hp} {σ : St} {δ : Zh} {fp fp' : Fp} {ex : Addr → Prop} {vs : List V} {ds : List PyData} (R : Rel C io H σ δ fp ex) (S : Kp H fp H' fp') (h : Das G H (Lf C fp ex) vs ds) : Das G H' (Lf C fp' ex) vs ds := by
  have S' : Stp false H δ fp H' δ fp' := ⟨S.keep, fun z => (nomatch z), S.grow, S.al⟩
  obtain ⟨f1, f2⟩ := R.frameL (c := true) (ex' := ex) S' (.inr rfl) fun a z => .inl z
  exact h.frame (fun a xs l q => ⟨(f1 a xs (fun _ => l) q).1 rfl, (f1 a xs (fun _ => l) q).2⟩) f2
theorem Zfk {e : Expr} {es : List Expr} {g : MGt} {gs : Zrj} (h1 : MG X io true e g) (h2 : MGs X io true es gs)
    (hs : (assignEach (e :: es) X.env).map (·.2) = assign e X.env :: (assignEach es X.env).map (·.2) := by rfl) : MGs X io true (e :: es) (Z15 g gs) := by
  obtain ⟨_, A, s⟩ := h1
  obtain ⟨_, B, s'⟩ := h2
  exact ⟨_, Zsi A B hs, fun C H σ δ fp ex v d k Q R q h kk => by
    cases q with
    | nil => exact h.elim
    | cons q qs =>
      refine ⟨_, _, rfl, s C H σ δ fp ex _ _ _ _ R q h fun σ1 δ1 fp1 R1 k1 h1 => ?_⟩
      exact s' C H σ1 δ1 fp1 ex _ _ _ _ R1 ((R.kp_das k1 (qs.wide fun a l _ => l rfl)).wide fun a l _ _ => l) h1 fun σ2 δ2 fp2 R2 k2 h2 => kk σ2 δ2 fp2 R2 (k1.trans k2) h2⟩
noncomputable def dTup (n : Nat) (gs : Zrj) : MGt := fun d δ k => match d with | .tuple ds => ds.length = n ∧ gs ds δ k | _ => False
theorem Zul {es : List Expr} {k : Nat} {gs : Zrj} {n : Nat} (hc : X.calm = true) (h : MGs X io c es gs)
    (hn : (assignEach es X.env).length = n := by rfl) (hst : (assignEach es X.env).findIdx? (·.1) = none := by rfl) : MG X io c (.Tuple es k pos) (dTup n gs) := by
  obtain ⟨_, A, s⟩ := h
  exact ⟨_, Zym hc A hn hst, fun C H σ δ fp ex v d k Q R q h kk => by
    cases q with
    | tup e qs => exact ⟨_, _, rfl, .inl (.inl e), by rw [qs.length]; exact h.1, s C H σ δ fp ex _ _ _ _ R qs h.2 kk⟩
    | _ => exact h.elim⟩
end
end L2
namespace L2
open PySem PySem.Spec PyProof.Rows
variable {G : PySem.W.Frag}
noncomputable def IterOk (C : MC G) (fp : Fp) (ex : Addr → Prop) (H1 : Hp) (c : Bool) (J : It) (ds : List PyData) : Prop := ∀ H' : Hp, (∀ b o, H1 b = some o → (c = false ∨ ¬ Foot fp b) → H' b = some o) → ∀ i : Nat,
  (∀ d, ds[i]? = some d → J.go i H' ∧ ∀ x H'', J.yld i H' x H'' → Same H' H'' ∧ Da G H'' (fun a => c = true → (Lf C fp ex a ∧ H1 a ≠ none)) x d) ∧ (ds[i]? = none → J.stop i H')
noncomputable abbrev MIt := Zh → (List PyData → Zh → Prop) → Prop
noncomputable def SI (G : PySem.W.Frag) (io : List Nat) (p c : Bool) (t : TI) (m : MIt) : Prop := ∀ (C : MC G) (H : Hp) (σ : St) (δ : Zh) (fp : Fp) (ex : Addr → Prop) (K : List PyData → Zh → Prop) (Q : It → Hp → Prop), Rel C io H σ δ fp ex → m δ K →
  (∀ J H1 ds δ1 fp1, Rel C io H1 σ δ1 fp1 ex → Stp p H δ fp H1 δ1 fp1 → IterOk C fp1 ex H1 c J ds → K ds δ1 → Q J H1) → t σ H Q
noncomputable def MI (X : Cx) (io : List Nat) (p c : Bool) (tg iter : Expr) (m : MIt) : Prop := ∃ t, PI X tg iter t ∧ SI X.K io p c t m
section
variable {X : Cx} {io : List Nat} {p c : Bool} {e a b tg : Expr} {m : MEt} {mr : MAt} {K : PySem.W.Frag}
noncomputable def iL (m : MEt) : MIt := fun δ K => m δ fun r δ' => match r.data with | .list ds => K ds δ' | _ => False
theorem Rel.kept {C : MC G} {H H' : Hp} {σ : St} {δ : Zh} {fp : Fp} {ex : Addr → Prop} (R : Rel C io H σ δ fp ex) (kp : ∀ b o, H b = some o → (c = false ∨ ¬ Foot fp b) → H' b = some o) :
    (∀ a (xs : MuO), (c = true → Lf C fp ex a) → Rd H a xs.ho → (c = true → (Lf C fp ex a ∧ H a ≠ none)) ∧ Rd H' a xs.ho) ∧ (∀ a (xs : ImO), H a = some xs.ho → H' a = some xs.ho) := by
  refine ⟨fun a xs l q => ⟨fun hc => ⟨l hc, q.some⟩, ?_⟩, fun a xs q => kp a _ q (.inr fun z => ?_)⟩
  · have hk : c = false ∨ ¬ Foot fp a := by
      cases c with
      | false => exact .inl rfl
      | true => exact .inr (l rfl).1
    rcases q with q | ⟨o, q⟩
    · exact .inl (kp a _ q hk)
    · exact .inr ⟨o, kp a _ q hk⟩
  · obtain ⟨ys, e⟩ := R.foot z
    exact ImO.nm q e
theorem Zxz (h : ME X io p c e m) : MI X io p c tg e (iL m) := by
  obtain ⟨_, A, s⟩ := h
  exact ⟨_, Ztv rfl A, fun C H σ δ fp ex K' Q R h kk => s C H σ δ fp ex _ _ R h fun H1 v r δ1 fp1 new r1 h1 => by
    have q := r1.da R
    generalize r.data = d at q h1
    cases q with
    | lst l e qs =>
      refine ⟨_, rfl, ⟨_, .inl e⟩, kk _ H1 _ δ1 fp1 r1.base r1.stp (fun H' kp i => ?_) h1⟩
      obtain ⟨f1, f2⟩ := r1.base.kept kp
      have e' := (f1 _ (.lst _) l e).2
      have qs' := qs.frame f1 f2
      refine ⟨fun d hd => ?_, fun hd => ?_⟩
      · obtain ⟨x, hx, qx⟩ := qs'.get hd
        refine ⟨⟨_, x, .inl e', hx⟩, fun y H'' hy => ?_⟩
        obtain ⟨rfl, hy⟩ := hy
        have := hy _ (.inl e')
        rw [hx] at this
        cases this
        exact ⟨Same.refl _, qx⟩
      · exact ⟨_, .inl e', by rw [qs'.length]; exact List.getElem?_eq_none_iff.mp hd⟩
    | scr ks =>
      refine ⟨_, rfl, ⟨_, ks.sq⟩, kk _ H1 _ δ1 fp1 r1.base r1.stp (fun H' kp i => ?_) h1⟩
      refine ⟨fun d hd => ?_, fun hd => ?_⟩
      · obtain ⟨x, hx, qx⟩ := (Das.ints (G := X.K) (H := H') (L := fun a => c = true → (Lf C fp1 ex a ∧ H1 a ≠ none)) _).get hd
        refine ⟨⟨_, x, ks.sq, hx⟩, fun y H'' hy => ?_⟩
        obtain ⟨rfl, hy⟩ := hy
        have := hy _ ks.sq
        rw [hx] at this
        cases this
        exact ⟨Same.refl _, qx⟩
      · refine ⟨_, ks.sq, ?_⟩
        have := List.getElem?_eq_none_iff.mp hd
        simpa using this
    | _ => exact h1.elim⟩
noncomputable def Zb3 (lo : Int) (n : Nat) : List PyData := (List.range n).map fun (i : Nat) => PyData.int (lo + (i : Int))
@[simp] theorem Wx (lo : Int) (n : Nat) : (Zb3 lo n).length = n := by simp [Zb3]
theorem W6 {lo : Int} {n i : Nat} {d : PyData} (h : (Zb3 lo n)[i]? = some d) : i < n ∧ d = .int (lo + i) := by
  have hi : i < n := by
    have := (List.getElem?_eq_some_iff.mp h).1
    simpa using this
  unfold Zb3 at h
  rw [List.getElem?_map, List.getElem?_range hi] at h
  cases h
  exact ⟨hi, rfl⟩
theorem Zm9 {C : MC G} {fp : Fp} {ex : Addr → Prop} {H1 : Hp} {lo : Int} {n : Nat} : IterOk C fp ex H1 true (Itr lo n) (Zb3 lo n) := fun H' _ i => by
  refine ⟨fun d hd => ?_, fun hd => ?_⟩
  · obtain ⟨hi, rfl⟩ := W6 hd
    refine ⟨hi, fun x H'' hy => ?_⟩
    obtain ⟨rfl, rfl⟩ := hy
    exact ⟨Same.refl _, .int _⟩
  · have := List.getElem?_eq_none_iff.mp hd
    show n ≤ i
    simpa using this
noncomputable def iR1 (mr : MAt) : MIt := fun δ K => mr δ fun rs δ' => match OT.datas rs with | [.int j] => (-(2 ^ 62) ≤ j ∧ j < 2 ^ 62) ∧ K (Zb3 0 j.toNat) δ' | _ => False
noncomputable def iR2 (mr : MAt) : MIt := fun δ K => mr δ fun rs δ' => match OT.datas rs with | [.int i, .int j] => (-(2 ^ 62) ≤ i ∧ i < 2 ^ 62 ∧ -(2 ^ 62) ≤ j ∧ j < 2 ^ 62) ∧ K (Zb3 i (j - i).toNat) δ' | _ => False
theorem Yp {p' pos : Pos} (hg : Gl X "range") (hm : X.mg "range" = none) (ha : MA X io p c [a] mr) (hs : starEach [a] X.env = [(false, eval a X.env)] := by rfl) : MI X io p true tg (.Call (.Name "range" p') [a] [] pos) (iR1 mr) := by
  obtain ⟨_, A, s⟩ := ha
  exact ⟨_, Zrg hg hm A hs, fun C H σ δ fp ex K' Q R h kk => s C H σ δ fp ex _ _ R h fun H1 vs rs δ1 fp1 new r1 h1 => by
    have q := r1.das R
    generalize OT.datas rs = d at q h1
    split at h1
    case h_2 => exact h1.elim
    cases q with
    | cons q1 q2 =>
      cases q1
      cases q2
      exact ⟨_, rfl, h1.1.1, h1.1.2, kk _ H1 _ δ1 fp1 r1.base r1.stp Zm9 h1.2⟩⟩
theorem Zdu {p' pos : Pos} (hg : Gl X "range") (hm : X.mg "range" = none) (ha : MA X io p c [a, b] mr) (hs : starEach [a, b] X.env = [(false, eval a X.env), (false, eval b X.env)] := by rfl) (hs2 : starEach [b] X.env = [(false, eval b X.env)] := by rfl) : MI X io p true tg (.Call (.Name "range" p') [a, b] [] pos) (iR2 mr) := by
  obtain ⟨_, A, s⟩ := ha
  exact ⟨_, Zqi hg hm A hs hs2, fun C H σ δ fp ex K' Q R h kk => s C H σ δ fp ex _ _ R h fun H1 vs rs δ1 fp1 new r1 h1 => by
    have q := r1.das R
    generalize OT.datas rs = d at q h1
    split at h1
    case h_2 => exact h1.elim
    cases q with
    | cons q1 q2 =>
      cases q1
      cases q2 with
      | cons q2 q3 =>
        cases q2
        cases q3
        exact ⟨_, _, rfl, h1.1, kk _ H1 _ δ1 fp1 r1.base r1.stp Zm9 h1.2⟩⟩
theorem IterOk.at {C : MC G} {fp fp' : Fp} {ex : Addr → Prop} {H1 H' H'' : Hp} {J : It} {ds : List PyData} {x : V} {d : PyData} (g : ∀ a, Foot fp' a → Foot fp a ∨ H1 a = none) (h : Da G H'' (fun a => true = true → (Lf C fp ex a ∧ H1 a ≠ none)) x d) : Da G H'' (fun a => true = true → Lf C fp' ex a) x d :=
  h.wide fun a l _ z => ⟨fun w => (g a w).elim (l z).1.1 (l z).2, (l z).1.2.1, (l z).1.2.2⟩
noncomputable def Z31 (ds : List PyData) (g : MGt) (u : MSt) (D : Zg1) (δ1 : Zh) : Prop := ∃ I : Nat → Zh → Prop, I 0 δ1 ∧ (∀ (i : Nat) (d : PyData) (δ' : Zh), ds[i]? = some d → I i δ' → g d δ' fun δ2 => u { D with nx := I (i + 1), ct := I (i + 1), bk := D.nx } δ2) ∧ ∀ δ', I ds.length δ' → D.nx δ'
noncomputable def Z5w (mi : MIt) (g : MGt) (u : MSt) : MSt := fun D δ => mi δ fun ds δ1 => Z31 ds g u D δ1
theorem Rel.mk0 {C : MC G} {H H' : Hp} {σ : St} {δ : Zh} {fp : Fp} {ex : Addr → Prop} (R : Rel C io H σ δ fp ex) (s : Same H H') : Rel C io H' σ δ fp ex := (R.made (new := []) s fun a m => nomatch m).drop fun a z => .inl z
theorem Zq9 {iter : Expr} {body : List Stmt} {mi : MIt} {g : MGt} {u : MSt} {pos : Pos} (hp : PassesOwn (model X.prog X.w) X.A X.env X.xe) (hc : X.calm = true) (hi : MI X io p true tg iter mi) (hg : MG X io true tg g) (hb : MSs X io body u)
    (hs : ∀ x, foldedSetIterable iter X.env x = pure x := by intro _; rfl) : MS X io (.For tg iter body [] pos) (Z5w mi g u) := by
  obtain ⟨_, A, s⟩ := hi
  obtain ⟨_, G, sg⟩ := hg
  obtain ⟨_, B, sb⟩ := hb
  refine ⟨_, Z0n hp hc A G B hs, fun C H σ δ fp ex D D' R h E => s C H σ δ fp ex _ _ R h fun J H1 ds δ1 fp1 R1 S1 it h1 => ?_⟩
  obtain ⟨I, h0, turn, fin⟩ := h1
  refine ⟨fun i n σ' H' => n = ds.length - i ∧ i ≤ ds.length ∧ ∃ δ' fp', Rel C io H' σ' δ' fp' ex ∧ Kp H1 fp1 H' fp' ∧ I i δ', ⟨ds.length, rfl, Nat.zero_le _, δ1, fp1, R1, .refl _ _, h0⟩, ?_⟩
  rintro i n σ2 H2 ⟨rfl, hle, δ2, fp2, R2, k2, i2⟩
  have itk := it H2 (fun b o e q => k2.keep b o e (.inr (q.resolve_left (by decide)))) i
  by_cases hlt : i < ds.length
  · have hd : ds[i]? = some ds[i] := List.getElem?_eq_getElem hlt
    obtain ⟨go, yl⟩ := itk.1 _ hd
    refine .inr ⟨go, fun σ' H' => ∃ δ' fp', Rel C io H' σ' δ' fp' ex ∧ Kp H1 fp1 H' fp' ∧ I (i + 1) δ', fun σ' H' ⟨δ', fp', R', k', i'⟩ => ⟨ds.length - (i + 1), by omega, rfl, hlt, δ', fp', R', k', i'⟩, fun x H3 hy => ?_⟩
    obtain ⟨s3, q3⟩ := yl x H3 hy
    have R3 := R2.mk0 s3
    have k3 : Kp H1 fp1 H3 fp2 := k2.trans ⟨fun b o e _ => s3 _ _ e, fun z => (nomatch z), fun a z => .inl z, s3.al⟩
    refine sg C H3 σ2 δ2 fp2 ex x _ _ _ R3 (IterOk.at (H' := H2) (J := J) (ds := ds) k2.grow q3) (turn i _ δ2 hd i2) fun σ4 δ4 fp4 R4 k4 h4 => ?_
    have k5 := k3.trans k4
    refine sb C H3 σ4 δ4 fp4 ex _ _ R4 h4 ⟨fun H' σ' δ' fp' R' k' n' => ⟨δ', fp', R', k5.trans k', n'⟩, fun H' σ' δ' fp' R' k' n' => E.nx H' σ' δ' fp' R' (S1.kp.trans (k5.trans k')) n', fun H' σ' δ' fp' R' k' n' => ⟨δ', fp', R', k5.trans k', n'⟩, E.rt⟩
  · have e : i = ds.length := by omega
    subst e
    exact .inl ⟨itk.2 (by simp), E.nx H2 σ2 δ2 fp2 R2 (S1.kp.trans k2) (fin δ2 i2)⟩
end
noncomputable def gM (G : PySem.W.Frag) (io : List Nat) (c : Bool) (g : MGt) : TG := fun v σ H Q => ∃ (C : MC G) (δ : Zh) (fp : Fp) (ex : Addr → Prop) (d : PyData) (k : Zh → Prop), Rel C io H σ δ fp ex ∧ Da G H (fun a => c = true → Lf C fp ex a) v d ∧ g d δ k ∧
  ∀ σ' δ' fp', Rel C io H σ' δ' fp' ex → Kp H fp H fp' → k δ' → Q σ' H
noncomputable def tM (G : PySem.W.Frag) (io : List Nat) (p c : Bool) (m : MEt) : TE := fun σ H Q => ∃ (C : MC G) (δ : Zh) (fp : Fp) (ex : Addr → Prop) (K : OT → Zh → Prop), Rel C io H σ δ fp ex ∧ m δ K ∧ ∀ H' v r δ' fp' new, RE C io p c H σ δ fp ex H' v r δ' fp' new → K r δ' → Q v H'
noncomputable def ttM (G : PySem.W.Frag) (io : List Nat) (p : Bool) (m : MTt) : TT := fun σ H Q => ∃ (C : MC G) (δ : Zh) (fp : Fp) (ex : Addr → Prop) (K : Bool → Zh → Prop), Rel C io H σ δ fp ex ∧ m δ K ∧ ∀ H' b δ' fp', Rel C io H' σ δ' fp' ex → Stp p H δ fp H' δ' fp' → K b δ' → Q b H'
noncomputable def MIfs (X : Cx) (io : List Nat) (p : Bool) (ifs : List Expr) (m : MTt) : Prop := ∃ t, Zvw X ifs t ∧ STt X.K io p t m
section
variable {X : Cx} {io : List Nat} {p c : Bool} {e tg : Expr} {m : MEt} {mt : MTt} {g : MGt} {ifs : List Expr}
theorem MG.canon (h : MG X io c tg g) : PG X tg (gM X.K io c g) := by
  obtain ⟨t, A, s⟩ := h
  rintro pins sh σ H v u Q I r ⟨C, δ, fp, ex, d, k, R, q, h, kk⟩
  exact A pins sh σ H v u Q I r (s C H σ δ fp ex v d k Q R q h kk)
theorem ME.canon (h : ME X io p c e m) : PE X e (tM X.K io p c m) := by
  obtain ⟨t, A, s⟩ := h
  rintro pins sh σ H Q I ⟨C, δ, fp, ex, K, R, h, kk⟩
  exact A pins sh σ H Q I (s C H σ δ fp ex K Q R h kk)
theorem MIfs.canon (h : MIfs X io p ifs mt) : Zvw X ifs (ttM X.K io p mt) := by
  obtain ⟨t, A, s⟩ := h
  rintro pins sh σ H Q I ⟨C, δ, fp, ex, K, R, h, kk⟩
  exact A pins sh σ H Q I (s C H σ δ fp ex K Q R h kk)
noncomputable def Z1x : MTt := fun δ K => K true δ
theorem Je : MIfs X io true [] Z1x := ⟨_, Zx0, fun C H σ δ fp ex K Q R h kk => kk H true δ fp R (.refl _ _ _ _) h⟩
theorem Zpj {cnd : Expr} (h : MT X io p cnd mt) : MIfs X io p [cnd] mt := by
  obtain ⟨_, A, s⟩ := h
  exact ⟨_, Zvf A, s⟩
end
end L2
namespace L2
open PySem PySem.Spec PyProof.Rows
variable {G : PySem.W.Frag}
noncomputable def blk (n : Nat) (caps : List Nat) (δ : Zh) : Zh := List.replicate n none ++ caps.map fun i => (δ[i]?).getD none
noncomputable def Jb (n : Nat) (caps : List Nat) (fp : Fp) : Fp := fun k => if k < n then [] else match caps[k - n]? with | some i => fp i | none => []
noncomputable def Jm (n : Nat) (caps : List Nat) : List Nat := (List.range caps.length).map (· + n)
noncomputable def Zuy (C : MC G) (H1 : Hp) (fp : Fp) (σ0 : St) : MC G := ⟨H1, Foot fp, fun a => (C.L a ∨ C.H₀ a = none) ∧ ¬ Foot fp a, σ0⟩
noncomputable def Zfa (ex : Addr → Prop) (D : Addr) (fp fpb : Fp) (a : Addr) : Prop := ex a ∨ a = D ∨ (Foot fp a ∧ ¬ Foot fpb a)
section
variable {C : MC G} {io : List Nat} {H1 H' : Hp} {σ : St} {δ : Zh} {fp : Fp} {ex : Addr → Prop} {own : List Str} {caps : List Nat} {D : Addr} {n : Nat}
theorem Zcu {k : Nat} {a : Addr} (h : a ∈ Jb n caps fp k) : ∃ i, n ≤ k ∧ caps[k - n]? = some i ∧ a ∈ fp i := by
  unfold Jb at h
  split at h
  · exact nomatch h
  · split at h
    · rename_i i e
      exact ⟨i, by omega, e, h⟩
    · exact nomatch h
theorem Zs6 {j i : Nat} (h : caps[j]? = some i) : Jb n caps fp (n + j) = fp i := by
  unfold Jb
  rw [if_neg (by omega), show n + j - n = j by omega, h]
theorem Zyz {k : Nat} {t : OT} (h : (blk n caps δ)[k]? = some (some t)) : ∃ i, n ≤ k ∧ caps[k - n]? = some i ∧ δ[i]? = some (some t) := by
  unfold blk at h
  rw [List.getElem?_append] at h
  split at h
  · rw [List.getElem?_replicate] at h
    split at h <;> cases h
  · rename_i hk
    rw [List.length_replicate] at hk h
    rw [List.getElem?_map] at h
    cases e : caps[k - n]? with
    | none => rw [e] at h; cases h
    | some i =>
      rw [e] at h
      refine ⟨i, by omega, rfl, ?_⟩
      simp only [Option.map_some] at h
      cases e2 : δ[i]? with
      | none => rw [e2] at h; cases h
      | some o =>
        rw [e2] at h
        simpa using h
theorem Rel.block (R : Rel C io H1 σ δ fp ex) (nd : caps.Nodup) (hD : H1 D = none) :
    Rel (Zuy C H1 fp (Jy own caps σ)) (Jm own.length caps) (upd H1 D (.lst [])) (Jy own caps σ) (blk own.length caps δ) (Jb own.length caps fp) (Zfa ex D fp (Jb own.length caps fp)) := by
  have s := Z7 hD (.lst [])
  have sub : ∀ a, Foot (Jb own.length caps fp) a → Foot fp a := fun a q91 => by
    obtain ⟨k, z⟩ := q91
    obtain ⟨i, _, _, z⟩ := Zcu z
    exact ⟨i, z⟩
  have neD : ∀ a, H1 a ≠ none → a ≠ D := fun a h z => h (z ▸ hD)
  refine ⟨by unfold Jy blk; simp, fun k t e => ?_, fun k h => ?_, fun k => ?_, fun k l a h1 h2 => ?_, fun k a h z => ?_, fun a z => ?_, fun b o e _ => s _ _ e, fun b e => s.free e, fun k a h => ?_, fun k _ => rfl⟩
  · obtain ⟨i, hk, e1, e2⟩ := Zyz e
    obtain ⟨v, e3, o⟩ := R.own i t e2
    refine ⟨v, ?_, ?_⟩
    · unfold Jy
      rw [List.getElem?_append_right (by simpa using hk), List.length_map, List.getElem?_map, e1]
      simp [e3]
    · have ef : Jb own.length caps fp k = fp i := by
        have := Zs6 (n := own.length) (fp := fp) e1
        rwa [show own.length + (k - own.length) = k by omega] at this
      rw [ef]
      refine (o.wide fun a l q => ⟨fun z => l.1 (sub a z), fun z => ?_, .inl ⟨l.2.2, l.1⟩⟩).same s
      rcases z with z | z | z
      · exact l.2.1 z
      · exact neD a q z
      · exact l.1 z.1
  · unfold Jb
    split
    · rfl
    · split
      · rename_i i e1
        refine R.emp i fun t z => h t ?_
        unfold blk
        rw [List.getElem?_append_right (by rw [List.length_replicate]; omega), List.length_replicate, List.getElem?_map, e1]
        simp [z]
      · rfl
  · unfold Jb
    split
    · exact .nil
    · split
      · exact R.nd _
      · exact .nil
  · obtain ⟨i, hk, e1, m1⟩ := Zcu h1
    obtain ⟨j, hl, e2, m2⟩ := Zcu h2
    have := R.dj i j a m1 m2
    subst this
    have hlt := (List.getElem?_eq_some_iff.mp e1).1
    have := (List.getElem?_inj hlt nd).mp (e1.trans e2.symm)
    omega
  · obtain ⟨i, hk, e1, m⟩ := Zcu h
    rcases z with z | z | z
    · exact R.dx i a m z
    · exact R.footSome (z ▸ hD) ⟨i, m⟩
    · exact z.2 ⟨k, h⟩
  · rcases z with z | z | z
    · intro q; exact R.xa a z (s.free q)
    · subst z; rw [Z8]; intro q; cases q
    · obtain ⟨xs, e⟩ := R.foot z.1
      rw [s _ _ e]; intro q; cases q
  · obtain ⟨i, hk, e1, m⟩ := Zcu h
    refine .inl ⟨?_, ⟨i, m⟩⟩
    have := (List.getElem?_eq_some_iff.mp e1).1
    exact List.mem_map.mpr ⟨k - own.length, by simpa using this, by omega⟩
theorem Zzw {σ0 : St} {fp' : Fp} {ex' : Addr → Prop} {a : Addr} (hx : ∀ a, ex a → ex' a) (l : Lf (Zuy C H1 fp σ0) fp' ex' a) : Lf C fp ex a ∨ H1 a = none := by
  obtain ⟨l1, l2, l3⟩ := l
  rcases l3 with l3 | l3
  · exact .inl ⟨l3.2, fun z => l2 (hx a z), l3.1⟩
  · exact .inr l3
theorem Rel.poke (R : Rel C io H' σ δ fp ex) {xs ys : List V} (hx : ex D) (hD : H' D = some (.lst xs)) (h0 : C.H₀ D = none) : Rel C io (upd H' D (.lst ys)) σ δ fp ex := by
  have nf : ¬ Foot fp D := fun ⟨i, z⟩ => R.dx i D z hx
  have kp : ∀ b o, b ≠ D → H' b = some o → upd H' D (.lst ys) b = some o := fun b o n e => by rw [Zz n]; exact e
  refine ⟨R.len, fun i t e => ?_, R.emp, R.nd, R.dj, R.dx, fun a z => ?_, fun b o e n => ?_, fun b e => ?_, R.new, R.io⟩
  · obtain ⟨v, e1, o⟩ := R.own i t e
    refine ⟨v, e1, o.frame (fun a zs l q => ⟨l, ?_⟩) (fun a zs q => kp a _ (fun z => ?_) q) fun a m zs q => kp a _ (fun z => nf ⟨i, z ▸ m⟩) q⟩
    · have na : a ≠ D := fun z => l.2.1 (z ▸ hx)
      rcases q with q | ⟨u, q⟩
      · exact .inl (kp a _ na q)
      · exact .inr ⟨u, kp a _ na q⟩
    · exact ImO.nl q (z ▸ hD)
  · by_cases e : a = D
    · subst e; rw [Z8]; intro q; cases q
    · rw [Zz e]; exact R.xa a z
  · refine kp b o (fun z => ?_) (R.fr b o e n)
    rw [z, h0] at e; cases e
  · refine R.al b ?_
    by_cases q : b = D
    · subst q; rw [Z8] at e; cases e
    · rwa [Zz q] at e
theorem Owns.poke {L : Addr → Prop} {xs ys zs : List V} {rs : List OT} {as : List Addr} (o : Owns G H' L zs rs as) (hD : H' D = Option.some (HO.lst xs)) (hL : ¬ L D) (hn : D ∉ as) : Owns G (upd H' D (.lst ys)) L zs rs as := by
  refine o.frame (fun a zs l q => ⟨l, ?_⟩) (fun a zs q => ?_) fun a m zs q => ?_
  · have na : a ≠ D := fun z => hL (z ▸ l)
    rcases q with q | ⟨u, q⟩
    · exact .inl (by rw [Zz na]; exact q)
    · exact .inr ⟨u, by rw [Zz na]; exact q⟩
  · rw [Zz (fun z => ImO.nl q (z ▸ hD))]; exact q
  · have na : a ≠ D := fun z => hn (by rw [← z]; exact m)
    rw [Zz na]; exact q
theorem Owns.snoc {L : Addr → Prop} {xs : List V} {rs : List OT} {as bs : List Addr} {x : V} {r : OT} (h : Owns G H' L xs rs as) (k : Own G H' L x r bs) : Owns G H' L (xs ++ [x]) (rs ++ [r]) (as ++ bs) :=
  Owns.rec (motive_1 := fun _ _ _ _ => True) (motive_2 := fun xs rs as _ => Owns G H' L (xs ++ [x]) (rs ++ [r]) (as ++ bs)) (fun _ => trivial) (fun _ _ _ => trivial) (fun _ _ _ => trivial) (fun _ _ _ => trivial) (by have := Owns.cons k .nil; rwa [List.append_nil] at this) (fun k _ _ ih => by rw [List.append_assoc]; exact .cons k ih) h
end
structure Zur (C : MC G) (H1 : Hp) (fp1 : Fp) (ex : Addr → Prop) (n : Nat) (caps : List Nat) (σ0 : St) (D : Addr) (pb : Bool) (H' : Hp) (σ' : St) (δ' : Zh) (fp' : Fp) (ys : List V) (rs : List OT) (new : List Addr) : Prop where
  keep : ∀ b o, H1 b = some o → (pb = true ∨ ¬ Foot (Jb n caps fp1) b) → H' b = some o
  al : ∀ b, H' b = none → H1 b = none
  dat : H' D = some (.lst ys)
  rel : Rel (Zuy C H1 fp1 σ0) (Jm n caps) H' σ' δ' fp' (exu (Zfa ex D fp1 (Jb n caps fp1)) new)
  grow : ∀ a, Foot fp' a → Foot (Jb n caps fp1) a ∨ H1 a = none
  own : Owns G H' (fun a => true = true → Lf (Zuy C H1 fp1 σ0) fp' (exu (Zfa ex D fp1 (Jb n caps fp1)) new) a) ys rs new
  nd : new.Nodup
  fresh : ∀ a ∈ new, H1 a = none ∧ a ≠ D
section
variable {io : List Nat} {p c pt pe ci : Bool} {g : MGt} {mt : MTt} {me : MEt} {own : List Str} {caps : List Nat}
theorem Zpd {C : MC G} {H1 : Hp} {σ : St} {δ1 : Zh} {fp1 : Fp} {ex : Addr → Prop} {J : It} {ds : List PyData} {D : Addr} {Qf : Hp → Prop} (I : Nat → List OT → Zh → Prop) (R1 : Rel C io H1 σ δ1 fp1 ex)
    (it : ∀ H' : Hp, (∀ b o, H1 b = some o → ((pt && pe) = true ∨ ¬ Foot (Jb own.length caps fp1) b) → H' b = some o) → ∀ i : Nat, (∀ d, ds[i]? = some d → J.go i H' ∧ ∀ x H'', J.yld i H' x H'' → Same H' H'' ∧ Da G H'' (fun a => ci = true → (Lf C fp1 ex a ∧ H1 a ≠ none)) x d) ∧ (ds[i]? = none → J.stop i H'))
    (nd : caps.Nodup) (hD : H1 D = none) (hz : ds.length ≤ sizeLine) (h0 : I 0 [] (blk own.length caps δ1))
    (turn : ∀ (i : Nat) (d : PyData) (rs : List OT) (δ' : Zh), ds[i]? = some d → I i rs δ' → g d δ' fun δ2 => mt δ2 fun b δ3 => if b = true then me δ3 fun r δ4 => I (i + 1) (rs ++ [r]) δ4 else I (i + 1) rs δ3)
    (fin : ∀ H' σ' δ' fp' ys rs new, Zur C H1 fp1 ex own.length caps (Jy own caps σ) D (pt && pe) H' σ' δ' fp' ys rs new → I ds.length rs δ' → Qf H') :
    Zvz J (gM G (Jm own.length caps) ci g) (ttM G (Jm own.length caps) pt mt) (tM G (Jm own.length caps) pe true me) (Jy own caps σ) D Qf H1 := by
  have hx : Zfa ex D fp1 (Jb own.length caps fp1) D := .inr (.inl rfl)
  refine ⟨fun i n σ' H' => n = ds.length - i ∧ i ≤ ds.length ∧ ∃ rs ys new δ' fp', Zur C H1 fp1 ex own.length caps (Jy own caps σ) D (pt && pe) H' σ' δ' fp' ys rs new ∧ ys.length ≤ i ∧ I i rs δ', ⟨ds.length, rfl, Nat.zero_le _, [], [], [], _, _, ⟨fun b o e _ => Z7 hD _ _ _ e, (Z7 hD _).al, Z8, ?_, fun a z => .inl z, .nil, .nil, fun a m => (nomatch m)⟩, Nat.le_refl _, h0⟩, ?_⟩
  · exact (R1.block nd hD).drop fun a z => Zca.mp z
  rintro i n σ2 H2 ⟨rfl, hle, rs, ys, new, δ2, fp2, B, hl, i2⟩
  have subB : ∀ b, Foot (Jb own.length caps fp1) b → Foot fp1 b := fun b q92 => by
    obtain ⟨k, z⟩ := q92
    obtain ⟨i, _, _, z⟩ := Zcu z
    exact ⟨i, z⟩
  have itk := it H2 B.keep i
  by_cases hlt : i < ds.length
  case neg =>
    have e : i = ds.length := by omega
    subst e
    exact .inl ⟨itk.2 (by simp), fin H2 σ2 δ2 fp2 ys rs new B i2⟩
  have hd : ds[i]? = some ds[i] := List.getElem?_eq_getElem hlt
  obtain ⟨go, yl⟩ := itk.1 _ hd
  refine .inr ⟨go, fun x H3 hy => ?_⟩
  obtain ⟨s3, q3⟩ := yl x H3 hy
  have R3 := B.rel.mk0 s3
  have D3 : H3 D = some (.lst ys) := s3 _ _ B.dat
  -- the item, clean in the block
  have q3' : Da G H3 (fun a => ci = true → Lf (Zuy C H1 fp1 (Jy own caps σ)) fp2 (exu (Zfa ex D fp1 (Jb own.length caps fp1)) new) a) x ds[i] := by
    refine q3.wide fun a l _ z => ?_
    obtain ⟨⟨l1, l2, l3⟩, l4⟩ := l z
    refine ⟨fun w => ?_, fun w => ?_, .inl ⟨l3, l1⟩⟩
    · rcases B.grow a w with w | w
      · exact l1 (subB a w)
      · exact l4 w
    · rcases w with (w | w | w) | w
      · exact l2 w
      · subst w; exact l4 hD
      · exact l1 w.1
      · exact l4 (B.fresh a w).1
  refine ⟨_, δ2, fp2, _, _, _, R3, q3', turn i _ rs δ2 hd i2, fun σ4 δ4 fp4 R4 k4 h4 => ?_⟩
  refine ⟨_, δ4, fp4, _, _, R4, h4, fun H5 b δ5 fp5 R5 S5 h5 => ?_⟩
  -- the state behind the test
  have keep5 : ∀ b o, H1 b = some o → ((pt && pe) = true ∨ ¬ Foot (Jb own.length caps fp1) b) → H5 b = some o := fun b o e q => by
    refine S5.keep b o (s3 _ _ (B.keep b o e q)) ?_
    rcases q with q | q
    · rw [Bool.and_eq_true] at q; exact .inl q.1
    · refine .inr fun z => ?_
      rcases k4.grow b z with z | z
      · rcases B.grow b z with z | z
        · exact q z
        · rw [e] at z; cases z
      · rw [s3 _ _ (B.keep b o e (.inr q))] at z; cases z
  have al5 : ∀ b, H5 b = none → H1 b = none := fun b e => B.al b (s3.al b (S5.al b e))
  have grow4 : ∀ a, Foot fp4 a → Foot (Jb own.length caps fp1) a ∨ H1 a = none := fun a z => by
    rcases k4.grow a z with z | z
    · exact B.grow a z
    · exact .inr (B.al a (s3.al a z))
  have grow5 : ∀ a, Foot fp5 a → Foot (Jb own.length caps fp1) a ∨ H1 a = none := fun a z => by
    rcases S5.grow a z with z | z
    · exact grow4 a z
    · exact .inr (B.al a (s3.al a z))
  have D5 : H5 D = some (.lst ys) := S5.keep D _ D3 (.inr fun ⟨k, z⟩ => R4.dx k D z (.inl hx))
  have own3 := B.own.same s3
  -- the items so far behind the target and the test
  have own4 : Owns G H3 (fun a => true = true → Lf (Zuy C H1 fp1 (Jy own caps σ)) fp4 (exu (Zfa ex D fp1 (Jb own.length caps fp1)) new) a) ys rs new := by
    refine own3.wide fun a l q z => ?_
    obtain ⟨l1, l2, l3⟩ := l z
    exact ⟨fun w => (k4.grow a w).elim l1 q, l2, l3⟩
  have own5 := R4.owns_step (ex' := exu (Zfa ex D fp1 (Jb own.length caps fp1)) new) S5 (c := true) (.inr rfl) (fun a z => .inl z) (fun a m => .inr m) own4
  dsimp only at h5 ⊢
  cases b with
  | false =>
    rw [if_neg Bool.false_ne_true] at h5 ⊢
    exact ⟨ds.length - (i + 1), by omega, rfl, hlt, rs, ys, new, δ5, fp5, ⟨keep5, al5, D5, R5, grow5, own5, B.nd, B.fresh⟩, by omega, h5⟩
  | true =>
    rw [if_pos rfl] at h5 ⊢
    refine ⟨_, δ5, fp5, _, _, R5, h5, fun H6 v r δ6 fp6 nr r6 h6 => ?_⟩
    have D6 : H6 D = some (.lst ys) := r6.stp.keep D _ D5 (.inr fun ⟨k, z⟩ => R5.dx k D z (.inl hx))
    have hDnr : D ∉ nr := fun z => by
      have := r6.fresh D z
      rw [D5] at this; cases this
    have own6 := R5.owns_step (ex' := exu (exu (Zfa ex D fp1 (Jb own.length caps fp1)) new) nr) r6.stp (c := true) (.inr rfl) (fun a z => z.imp id fun z => r6.fresh a z) (fun a m => .inr m) own5
    have eqx : ∀ a, exu (Zfa ex D fp1 (Jb own.length caps fp1)) (new ++ nr) a → exu (exu (Zfa ex D fp1 (Jb own.length caps fp1)) new) nr a := fun a z => by
      rcases z with z | z
      · exact .inl (.inl z)
      · rcases List.mem_append.mp z with z | z
        · exact .inl (.inr z)
        · exact .inr z
    have lw : ∀ a, (true = true → Lf (Zuy C H1 fp1 (Jy own caps σ)) fp6 (exu (exu (Zfa ex D fp1 (Jb own.length caps fp1)) new) nr) a) → H6 a ≠ none → (true = true → Lf (Zuy C H1 fp1 (Jy own caps σ)) fp6 (exu (Zfa ex D fp1 (Jb own.length caps fp1)) (new ++ nr)) a) :=
      fun a l _ z => ⟨(l z).1, fun w => (l z).2.1 (eqx a w), (l z).2.2⟩
    have ownA := (own6.snoc r6.own).wide lw
    refine ⟨ys, D6, by omega, ds.length - (i + 1), by omega, rfl, hlt, rs ++ [r], ys ++ [v], new ++ nr, δ6, fp6, ⟨fun b o e q => ?_, fun b e => ?_, Z8, ?_, fun a z => ?_, ?_, ?_, fun a m => ?_⟩, by rw [List.length_append]; show ys.length + 1 ≤ i + 1; omega, h6⟩
    · have nD : b ≠ D := fun z => by rw [z, hD] at e; cases e
      rw [Zz nD]
      refine r6.stp.keep b o (keep5 b o e q) ?_
      rcases q with q | q
      · rw [Bool.and_eq_true] at q; exact .inl q.2
      · refine .inr fun z => ?_
        rcases grow5 b z with z | z
        · exact q z
        · rw [e] at z; cases z
    · by_cases q : b = D
      · subst q; rw [Z8] at e; cases e
      · rw [Zz q] at e
        exact al5 b (r6.stp.al b e)
    · exact (r6.rel.drop eqx).poke (.inl hx) D6 hD
    · rcases r6.stp.grow a z with z | z
      · exact grow5 a z
      · exact .inr (al5 a z)
    · exact ownA.poke D6 (fun z => (z rfl).2.1 (.inl hx)) (fun m => by
        rcases List.mem_append.mp m with m | m
        · exact (B.fresh D m).2 rfl
        · exact hDnr m)
    · refine List.nodup_append.mpr ⟨B.nd, r6.nd, fun a m b m' z => ?_⟩
      subst z
      obtain ⟨xs, e⟩ := own5.some a m
      rw [r6.fresh a m'] at e; cases e
    · rcases List.mem_append.mp m with m | m
      · exact B.fresh a m
      · exact ⟨al5 a (r6.fresh a m), fun z => hDnr (z ▸ m)⟩
end
end L2
namespace L2
open PySem PySem.Spec PyProof.Rows
variable {G : PySem.W.Frag}
section
variable {X : Cx} {io : List Nat} {p p' c pt pe ci : Bool} {g : MGt} {mt : MTt} {me m : MEt} {mi : MIt} {own : List Str} {caps : List Nat} {e : Expr}
noncomputable def Zyp (m : MEt) : MEt := fun δ K => m δ fun r δ' => Zay r.data = true ∧ K (.fz r.data) δ'
theorem Z04 (h : ME X io p c e m) : ME X io p true e (Zyp m) := by
  obtain ⟨_, A, s⟩ := h
  exact ⟨_, A, fun C H σ δ fp ex K Q R h k => s C H σ δ fp ex _ _ R h fun H' v r δ' fp' new r1 h1 => k H' v _ δ' fp' [] (r1.fzs R h1.1) h1.2⟩
noncomputable def Z5x (m : MEt) : MEt := fun δ K => m δ fun r δ' => K (.fz r.data) δ'
theorem Z4y (h : ME X io p c e m) : ME X io p c e (Z5x m) := by
  obtain ⟨_, A, s⟩ := h
  exact ⟨_, A, fun C H σ δ fp ex K Q R h k => s C H σ δ fp ex _ _ R h fun H' v r δ' fp' new r1 h1 => k H' v _ δ' fp' [] (r1.fzc R) h1⟩
noncomputable def Z1u (n : Nat) (caps : List Nat) (ds : List PyData) (g : MGt) (mt : MTt) (me : MEt) (δ1 : Zh) (K : OT → Zh → Prop) : Prop := ds.length ≤ sizeLine ∧ ∃ I : Nat → List OT → Zh → Prop, I 0 [] (blk n caps δ1) ∧
  (∀ (i : Nat) (d : PyData) (rs : List OT) (δ' : Zh), ds[i]? = some d → I i rs δ' → g d δ' fun δ2 => mt δ2 fun b δ3 => if b = true then me δ3 fun r δ4 => I (i + 1) (rs ++ [r]) δ4 else I (i + 1) rs δ3) ∧
  ∀ rs δ', I ds.length rs δ' → K (.nd rs) δ1
noncomputable def Zeh (n : Nat) (caps : List Nat) (mi : MIt) (g : MGt) (mt : MTt) (me : MEt) : MEt := fun δ K => mi δ fun ds δ1 => Z1u n caps ds g mt me δ1 K
theorem Ztg {wi : TI} (si : SI G io p ci wi mi) (nd : caps.Nodup) (hp : (pt && pe) = true) :
    SE G io p true (Zxg own caps wi (gM G (Jm own.length caps) ci g) (ttM G (Jm own.length caps) pt mt) (tM G (Jm own.length caps) pe true me)) (Zeh own.length caps mi g mt me) := by
  intro C H σ δ fp ex K Q R h k
  refine si C H σ δ fp ex _ _ R h fun J H1 ds δ1 fp1 R1 S1 it h1 D hD => ?_
  obtain ⟨hz, I, h0, turn, fin⟩ := h1
  refine Zpd I R1 (fun H' kp => it H' fun b o e _ => kp b o e (.inl hp)) nd hD hz h0 turn fun H' σ' δ' fp' ys rs new B i' => ?_
  have s : Same H1 H' := fun b o e => B.keep b o e (.inl hp)
  refine k H' (.ref D) (.nd rs) δ1 fp1 (D :: new) (RE.tree R R1 S1 s (fun a m => ?_) (List.nodup_cons.mpr ⟨fun m => (B.fresh D m).2 rfl, B.nd⟩) (.nd B.dat (B.own.wide fun a l _ => ?_))) (fin rs δ' i')
  · rcases List.mem_cons.mp m with rfl | m
    · exact hD
    · exact (B.fresh a m).1
  · refine ⟨?_, fun m => ?_⟩
    · rcases Zzw (fun a z => .inl (.inl z)) (l rfl) with z | z
      · exact .inl fun _ => z
      · exact .inr z
    · rcases List.mem_cons.mp m with z | z
      · exact (l rfl).2.1 (.inl (.inr (.inl z)))
      · exact (l rfl).2.1 (.inr z)
variable {N' : List Str} {sc : Scope} {tg elt iter : Expr} {ifs : List Expr} {pos : Pos}
theorem Z07 (S : CompScope X own caps N' sc) (hc : X.calm = true) (nd : caps.Nodup) (hi : MI X io p ci tg iter mi)
    (hg : ∀ C cells s₂ H₂ fp, MG (Yy X N' sc C cells s₂ H₂ fp) (Jm own.length caps) ci tg g) (ht : ∀ C cells s₂ H₂ fp, MIfs (Yy X N' sc C cells s₂ H₂ fp) (Jm own.length caps) pt ifs mt) (he : ∀ C cells s₂ H₂ fp, ME (Yy X N' sc C cells s₂ H₂ fp) (Jm own.length caps) pe true elt me)
    (hp : (pt && pe) = true := by rfl) (hs : ∀ x, foldedSetIterable iter X.env x = pure x := by intro _; rfl) : ME X io p true (.ListComp elt [⟨tg, iter, ifs, 0⟩] sc pos) (Zeh own.length caps mi g mt me) := by
  obtain ⟨_, A, si⟩ := hi
  exact ⟨_, Zw9 S hc A (fun C cells s₂ H₂ fp => (hg C cells s₂ H₂ fp).canon) (fun C cells s₂ H₂ fp => (ht C cells s₂ H₂ fp).canon) (fun C cells s₂ H₂ fp => (he C cells s₂ H₂ fp).canon) hs, Ztg si nd hp⟩
section
variable {i : Nat} {y : Str} {py spos : Pos}
theorem Za4 (own' : Bool) (hN : X.N.Nodup) (hy : X.N[i]? = some y) (hx : Loc X.env.scope y) (S : CompScope X own caps N' sc) (hc : X.calm = true) (nd : caps.Nodup) (hi : MI X io p ci tg iter mi)
    (hg : ∀ C cells s₂ H₂ fp, MG (Yy X N' sc C cells s₂ H₂ fp) (Jm own.length caps) ci tg g) (ht : ∀ C cells s₂ H₂ fp, MIfs (Yy X N' sc C cells s₂ H₂ fp) (Jm own.length caps) pt ifs mt) (he : ∀ C cells s₂ H₂ fp, ME (Yy X N' sc C cells s₂ H₂ fp) (Jm own.length caps) pe true elt me)
    (hp : (pt && pe) = true := by rfl) (hio : i ∉ io := by decide)
    (hsw : swapsWith (.ListComp elt [⟨tg, iter, ifs, 0⟩] sc pos) (some (.Name y py)) spos.line X.env = pure true := by rfl)
    (hs : ∀ x, foldedSetIterable iter X.env x = pure x := by intro _; rfl) (hf : X.fn y = true ∨ X.env.scope.names.lookup y = some .local := by first | exact .inl rfl | exact .inr rfl | assumption) :
    MS X io (.Assign [.Name y py] (.ListComp elt [⟨tg, iter, ifs, 0⟩] sc pos) spos) (if own' = true then Zkg i (Zeh own.length caps mi g mt me) else Zyb i (Zeh own.length caps mi g mt me)) := by
  obtain ⟨_, A, si⟩ := hi
  refine ⟨_, Zhg (g := gM X.K (Jm own.length caps) ci g) (tt := ttM X.K (Jm own.length caps) pt mt) (te := tM X.K (Jm own.length caps) pe true me) hN hy hx S hc A (fun C cells s₂ H₂ fp => (hg C cells s₂ H₂ fp).canon) (fun C cells s₂ H₂ fp => (ht C cells s₂ H₂ fp).canon) (fun C cells s₂ H₂ fp => (he C cells s₂ H₂ fp).canon) hsw hs hf, ?_⟩
  cases own'
  · exact Z61 (Ztg si nd hp) hio
  · exact Zve (Ztg si nd hp) hio
end
end
end L2
namespace L2
open PySem PySem.Spec PyProof.Rows
variable {G : PySem.W.Frag}
section
variable {X : Cx} {pins : List (Addr × Obj)} {σ : St} {H : Hp} {s : Shared} {l : Addr} {xs : List V}
noncomputable def Z16 (K : PySem.W.Frag) : R2 := fun x y H Q => ∃ l b xs zs, x = .ref l ∧ y = .ref b ∧ SqL K H l xs ∧ SqL K H b zs ∧ xs.length + zs.length ≤ sizeLine ∧ ∀ p, H p = none → Q (.ref p) (upd H p (.lst (xs ++ zs)))
theorem Inv.lstQ {K : PySem.W.Frag} (hK : X.K = K) (I : Inv X pins σ H s) (hH : SqL K H l xs) : ∃ (its : List Value) (n : Nat), Vals xs its ∧ xs.length = its.length ∧ ∃ o, s.heap.get? l = some o ∧ o.cls = .type "list" ∧ o.dict = none ∧ o.data = .seq its.toArray n := by
  subst hK
  obtain ⟨its, r, ⟨o, n, e, h1, h2, h3⟩, _⟩ := I.list hH
  exact ⟨its, n, r, r.length, o, e, h1, h2, h3⟩
theorem Zb7 {K : PySem.W.Frag} (hK : X.K = K) : OpR X (binaryOp .Add) (Z16 K) := by
  intro pins s σ H x y v u Q I rx ry h
  obtain ⟨l, b, xs, zs, rfl, rfl, hH, hB, hz, q⟩ := h
  cases rx
  cases ry
  obtain ⟨its, n, r, hl, ⟨cls, dd, data, sl⟩, ho, hc, _, hd⟩ := I.lstQ hK hH
  obtain ⟨its2, n2, r2, hl2, ⟨cls2, dd2, data2, sl2⟩, ho2, hc2, _, hd2⟩ := I.lstQ hK hB
  simp only at hc hd hc2 hd2
  subst hc hd hc2 hd2
  have ea : its.toArray ++ its2.toArray = (its ++ its2).toArray := by simp
  refine concat_meets ⟨_, ho, rfl⟩ ⟨_, ho2, rfl⟩ noFill_list_add seq_list_add PySem.F.slot_list_add PySem.F.entry_list_add (PySem.F.args_list_add_2 _ _) (list_addW l b its.toArray its2.toArray n n2 dd dd2 sl sl2 (by simp only [List.size_toArray]; omega)) ⟨ho, ho2, ?_⟩
  rw [ea]
  exact ⟨.ref _, _, I.lnew (t' := s.toks) (r.append r2) (by rw [List.length_append]; omega), rfl, q _ I.fresh⟩
end
noncomputable def asI (d : PyData) (k : Int → Prop) : Prop := match d with | .int i => k i | _ => False
noncomputable def asL (d : PyData) (k : List PyData → Prop) : Prop := match d with | .list ds => k ds | _ => False
section
variable {H : Hp} {L : Addr → Prop} {v : V} {d : PyData}
theorem Da.intInv {k : Int → Prop} (q : Da G H L v d) (h : asI d k) : ∃ i, v = .int i ∧ k i := by
  cases q with
  | int b => exact ⟨b, rfl, h⟩
  | _ => exact h.elim
theorem Da.lstInv {k : List PyData → Prop} (q : Da G H L v d) (h : asL d k) : ∃ a xs ds, v = .ref a ∧ SqL G H a xs ∧ Das G H L xs ds ∧ k ds := by
  cases q with
  | lst l e r => exact ⟨_, _, _, rfl, .inl e, r, h⟩
  | scr s => exact ⟨_, _, _, rfl, s.sq, .ints _, h⟩
  | _ => exact h.elim
end
noncomputable def d2I (C : Int → Int → Prop) (g : Int → Int → PyData) : PyData → PyData → (PyData → Prop) → Prop := fun d e k => asI d fun i => asI e fun j => C i j ∧ k (g i j)
noncomputable def Zuf (g : Int → Int → PyData) : PyData → PyData → (PyData → Prop) → Prop := fun d e k => asI d fun i => asI e fun j => k (g i j)
theorem Z10 {C : Int → Int → Prop} {f : Int → Int → Int} : P2s G (rI C fun i j => .int (f i j)) (d2I C fun i j => .int (f i j)) := fun H L x y d e k Q hx hy h kk => by
  obtain ⟨i, rfl, h⟩ := hx.intInv h
  obtain ⟨j, rfl, h⟩ := hy.intInv h
  exact ⟨i, j, rfl, rfl, h.1, kk _ _ (.int _) h.2⟩
structure MulOk (i j : Int) : Prop where
  ok : IntMulOk i j
structure Z5j (i j : Int) : Prop where
  ok : DivOk i j
structure Z7a (i j : Int) : Prop where
  ok : Z2s i j
theorem Zzb {f : Int → Int → Int} : P2s G (rI IntMulOk fun i j => .int (f i j)) (d2I MulOk fun i j => .int (f i j)) := fun H L x y d e k Q hx hy h kk => by
  obtain ⟨i, rfl, h⟩ := hx.intInv h
  obtain ⟨j, rfl, h⟩ := hy.intInv h
  exact ⟨i, j, rfl, rfl, h.1.ok, kk _ _ (.int _) h.2⟩
theorem Z0p {f : Int → Int → Int} : P2s G (rI DivOk fun i j => .int (f i j)) (d2I Z5j fun i j => .int (f i j)) := fun H L x y d e k Q hx hy h kk => by
  obtain ⟨i, rfl, h⟩ := hx.intInv h
  obtain ⟨j, rfl, h⟩ := hy.intInv h
  exact ⟨i, j, rfl, rfl, h.1.ok, kk _ _ (.int _) h.2⟩
theorem Zz5 {f : Int → Int → Int} : P2s G (rI Z2s fun i j => .int (f i j)) (d2I Z7a fun i j => .int (f i j)) := fun H L x y d e k Q hx hy h kk => by
  obtain ⟨i, rfl, h⟩ := hx.intInv h
  obtain ⟨j, rfl, h⟩ := hy.intInv h
  exact ⟨i, j, rfl, rfl, h.1.ok, kk _ _ (.int _) h.2⟩
theorem Zhx {f : Int → Int → Int} : P2s G (rI0 fun i j => .int (f i j)) (Zuf fun i j => .int (f i j)) := fun H L x y d e k Q hx hy h kk => by
  obtain ⟨i, rfl, h⟩ := hx.intInv h
  obtain ⟨j, rfl, h⟩ := hy.intInv h
  exact ⟨i, j, rfl, rfl, kk _ _ (.int _) h⟩
theorem Zl2 {f : Int → Int → Bool} : P2s G (rI0 fun i j => .bl (f i j)) (Zuf fun i j => .bool (f i j)) := fun H L x y d e k Q hx hy h kk => by
  obtain ⟨i, rfl, h⟩ := hx.intInv h
  obtain ⟨j, rfl, h⟩ := hy.intInv h
  exact ⟨i, j, rfl, rfl, kk _ _ (.bl _) h⟩
section
variable {X : Cx}
noncomputable def Z5q (K : PySem.W.Frag) : R2 := fun x y H Q => ∃ (L L' : Addr → Prop) (d e : PyData), Da K H L x d ∧ Da K H L' y e ∧ Shp d ∧ Shp e ∧ Q (.bl (PyData.eqv d e)) H
noncomputable def Z66 (K : PySem.W.Frag) : R2 := fun x y H Q => ∃ (L L' : Addr → Prop) (d e : PyData), Da K H L x d ∧ Da K H L' y e ∧ Shp d ∧ Shp e ∧ Q (.bl (!PyData.eqv d e)) H
theorem Zmw (hu : X.A.units + 64 < cLine) : OpR X (compareOp .Eq) (Z5q X.K) := by
  intro pins s σ H x y v u Q I rx ry h
  obtain ⟨L, L', d, e, h1, h2, s1, s2, q⟩ := h
  obtain ⟨as, k1⟩ := h1.reads rfl I rx (SeqAt.canLay_of_shaped s1)
  obtain ⟨bs, k2⟩ := h2.reads rfl I ry (SeqAt.canLay_of_shaped s2)
  exact eq_dataH k1 k2 s1 s2 hu ⟨.bl _, H, I, rfl, q⟩
theorem Zl5 (hu : X.A.units + 64 < cLine) : OpR X (compareOp .NotEq) (Z66 X.K) := by
  intro pins s σ H x y v u Q I rx ry h
  obtain ⟨L, L', d, e, h1, h2, s1, s2, q⟩ := h
  obtain ⟨as, k1⟩ := h1.reads rfl I rx (SeqAt.canLay_of_shaped s1)
  obtain ⟨bs, k2⟩ := h2.reads rfl I ry (SeqAt.canLay_of_shaped s2)
  exact ne_dataH k1 k2 s1 s2 hu ⟨.bl _, H, I, rfl, q⟩
end
structure Z0y (d : PyData) : Prop where
  ok : Shp d
noncomputable def dEq : PyData → PyData → (PyData → Prop) → Prop := fun d e k => Z0y d ∧ Z0y e ∧ k (.bool (PyData.eqv d e))
noncomputable def dNe : PyData → PyData → (PyData → Prop) → Prop := fun d e k => Z0y d ∧ Z0y e ∧ k (.bool (!PyData.eqv d e))
theorem Zr9 : P2s G (Z5q G) dEq := fun H L x y d e k Q hx hy h kk => ⟨L, L, d, e, hx, hy, h.1.ok, h.2.1.ok, kk _ _ (.bl _) h.2.2⟩
theorem Ztr : P2s G (Z66 G) dNe := fun H L x y d e k Q hx hy h kk => ⟨L, L, d, e, hx, hy, h.1.ok, h.2.1.ok, kk _ _ (.bl _) h.2.2⟩
noncomputable def Zdl : PyData → Bool
  | .none => true
  | _ => false
theorem Da.isNone {H : Hp} {L : Addr → Prop} {v : V} {d : PyData} (h : Da G H L v d) : decide (v = .non) = Zdl d := by
  cases h <;> rfl
noncomputable def Z6i : PyData → PyData → (PyData → Prop) → Prop := fun d e k => e = .none ∧ k (.bool (Zdl d))
noncomputable def Zz1 : PyData → PyData → (PyData → Prop) → Prop := fun d e k => e = .none ∧ k (.bool (!Zdl d))
theorem Zun : P2s G (fun x y H Q => y = .non ∧ Q (.bl (decide (x = .non))) H) Z6i := fun H L x y d e k Q hx hy h kk => by
  obtain ⟨rfl, h⟩ := h
  cases hy
  exact ⟨rfl, by rw [hx.isNone]; exact kk _ _ (.bl _) h⟩
theorem Zvg : P2s G (fun x y H Q => y = .non ∧ Q (.bl (!decide (x = .non))) H) Zz1 := fun H L x y d e k Q hx hy h kk => by
  obtain ⟨rfl, h⟩ := h
  cases hy
  exact ⟨rfl, by rw [hx.isNone]; exact kk _ _ (.bl _) h⟩
noncomputable def scD : PyData → Bool
  | .none => true
  | .bool _ => true
  | .int _ => true
  | .str _ => true
  | _ => false
noncomputable def eqS : PyData → PyData → Bool
  | .none, .none => true
  | .bool a, .bool b => a == b
  | .bool a, .int b => (if a then 1 else 0) == b
  | .int a, .bool b => a == (if b then 1 else 0)
  | .int a, .int b => a == b
  | .str a, .str b => a == b
  | _, _ => false
noncomputable def memS (d : PyData) (ds : List PyData) : Bool := ds.any fun e => eqS e d
theorem Da.toSc {H : Hp} {L : Addr → Prop} {v : V} {d : PyData} (h : Da G H L v d) (s : scD d = true) : ScD v d := by
  cases h with
  | non => exact .non
  | bl b => exact .bl b
  | int i => exact .int i
  | str x => exact .str x
  | _ => cases s
theorem Da.sc {H : Hp} {L : Addr → Prop} {v : V} {d : PyData} (h : Da G H L v d) (s : scD d = true) : Zgg v = true := by
  cases h.toSc s <;> rfl
theorem Das.sc {H : Hp} {L : Addr → Prop} {vs : List V} {ds : List PyData} (h : Das G H L vs ds) : ds.all scD = true → vs.all Zgg = true :=
  Das.ind (Q := fun vs ds => ds.all scD = true → vs.all Zgg = true) (fun _ => rfl) (fun h _ r s => by
    rw [List.all_cons, Bool.and_eq_true] at s
    rw [List.all_cons, h.sc s.1, r s.2]; rfl) h
theorem Da.eqS {H : Hp} {L : Addr → Prop} {v u : V} {d e : PyData} (h : Da G H L v d) (g : Da G H L u e) (s : scD d = true) (t : scD e = true) : eqV v u = L2.eqS d e := by
  cases h.toSc s <;> cases g.toSc t <;> rfl
theorem Das.memS {H : Hp} {L : Addr → Prop} {v : V} {d : PyData} (h : Da G H L v d) (s : scD d = true) {vs : List V} {ds : List PyData} (g : Das G H L vs ds) : ds.all scD = true → inV v vs = L2.memS d ds :=
  Das.ind (Q := fun vs ds => ds.all scD = true → inV v vs = L2.memS d ds) (fun _ => rfl) (fun g _ r t => by
    rw [List.all_cons, Bool.and_eq_true] at t
    have := r t.2
    unfold inV L2.memS at *
    rw [List.any_cons, List.any_cons, this, g.eqS h t.1 s]) g
noncomputable def dIn (neg : Bool) : PyData → PyData → (PyData → Prop) → Prop := fun d e k => scD d = true ∧ match e with
  | .list ds => ds.all scD = true ∧ k (.bool (if neg then !memS d ds else memS d ds))
  | .tuple ds => ds.all scD = true ∧ k (.bool (if neg then !memS d ds else memS d ds))
  | _ => False
theorem Ztz {neg : Bool} : P2s G (rIn G neg) (dIn neg) := fun H L x y d e k Q hx hy h kk => by
  obtain ⟨s, h⟩ := h
  cases hy with
  | lst l e r => exact ⟨_, _, rfl, .inl (.inl e), hx.sc s, r.sc h.1, by rw [Das.memS hx s r h.1]; exact kk _ _ (.bl _) h.2⟩
  | tup e r => exact ⟨_, _, rfl, .inr (.inl (.inl e)), hx.sc s, r.sc h.1, by rw [Das.memS hx s r h.1]; exact kk _ _ (.bl _) h.2⟩
  | scr ks => exact ⟨_, _, rfl, .inl ks.sq, hx.sc s, (Das.ints (G := G) (H := H) (L := L) _).sc h.1, by rw [Das.memS hx s (Das.ints (G := G) (H := H) (L := L) _) h.1]; exact kk _ _ (.bl _) h.2⟩
  | _ => exact h.elim
noncomputable def ixD (d e : PyData) : Option PyData := match d, e with
  | .list ds, .int i => atI ds i
  | .tuple ds, .int i => atI ds i
  | _, _ => none
noncomputable def dIx : PyData → PyData → (OT → Prop) → Prop := fun d e k => match ixD d e with | some x => k (.fz x) | none => False
theorem Das.atI {H : Hp} {L : Addr → Prop} {xs : List V} {ds : List PyData} {i : Int} {d : PyData} (h : Das G H L xs ds) (e : L2.atI ds i = some d) : ∃ x, L2.atI xs i = some x ∧ Da G H L x d := by
  unfold L2.atI at *
  rw [h.length]
  cases q : ixN ds.length i with
  | none => rw [q] at e; cases e
  | some j =>
    rw [q] at e
    exact h.get e
theorem Zv1 : P2 G (rIx G) dIx := fun H L x y d e k Q hx hy h kk => by
  unfold dIx at h
  split at h
  case h_2 => exact h.elim
  rename_i z ez
  have fin : ∀ v, Da G H L v z → Q v H := fun v q => kk H v (.fz z) [] (Same.refl _) (.fz (q.wide fun a l _ => ⟨.inl l, fun m => nomatch m⟩)) .nil (fun a m => nomatch m) h
  cases hx with
  | lst l e1 r =>
    cases hy with
    | int i =>
      obtain ⟨v, e2, q⟩ := r.atI (show L2.atI _ i = some z from ez)
      exact .inl ⟨_, _, i, v, rfl, rfl, .inl e1, e2, fin v q⟩
    | _ => cases ez
  | tup e1 r =>
    cases hy with
    | int i =>
      obtain ⟨v, e2, q⟩ := r.atI (show L2.atI _ i = some z from ez)
      exact .inr (.inl ⟨_, _, i, v, rfl, rfl, .inl (.inl e1), e2, fin v q⟩)
    | _ => cases ez
  | scr ks =>
    cases hy with
    | int i =>
      obtain ⟨v, e2, q⟩ := (Das.ints (G := G) (H := H) (L := L) _).atI (show L2.atI _ i = some z from ez)
      exact .inl ⟨_, _, i, v, rfl, rfl, ks.sq, e2, fin v q⟩
    | _ => cases ez
  | _ => cases ez
theorem Own.list {H : Hp} {L : Addr → Prop} {p : Addr} {xs : List V} {ds : List PyData} (hp : H p = none) (h : Das G H L xs ds) : Own G (upd H p (.lst xs)) (fun a => (L a ∨ H a = none) ∧ a ∉ [p]) (.ref p) (.nd (ds.map OT.fz)) [p] :=
  .nd Z8 (((h.wide fun a l q => ⟨.inl l, fun m => q (by rw [List.mem_singleton.mp m]; exact hp)⟩).same (Z7 hp _)).owns)
theorem Zbk {H : Hp} {p : Addr} (hp : H p = none) : ∀ a ∈ [p], H a = none := fun a m => by rw [List.mem_singleton.mp m]; exact hp
theorem Zdw (p : Addr) : [p].Nodup := List.nodup_cons.mpr ⟨fun m => (nomatch m), .nil⟩
noncomputable def dCat : PyData → PyData → (OT → Prop) → Prop := fun d e k => asL d fun ds => asL e fun es => ds.length + es.length ≤ sizeLine ∧ k (.nd ((ds ++ es).map OT.fz))
theorem Ze6 : P2 G (Z16 G) dCat := fun H L x y d e k Q hx hy h kk => by
  obtain ⟨a, xs, ds, rfl, e1, r1, h⟩ := hx.lstInv h
  obtain ⟨b, ys, es, rfl, e2, r2, h⟩ := hy.lstInv h
  exact ⟨a, b, xs, ys, rfl, rfl, e1, e2, by rw [r1.length, r2.length]; exact h.1, fun p hp => kk _ _ _ [p] (Z7 hp _) (Own.list hp (r1.append r2)) (Zdw p) (Zbk hp) h.2⟩
noncomputable def n1 (k : PyData → Prop) (ds : List PyData) : Prop := match ds with | [d] => k d | _ => False
noncomputable def n2 (k : PyData → PyData → Prop) (ds : List PyData) : Prop := match ds with | [d, e] => k d e | _ => False
theorem Das.one {H : Hp} {L : Addr → Prop} {vs : List V} {ds : List PyData} {k : PyData → Prop} (q : Das G H L vs ds) (h : n1 k ds) : ∃ v d, vs = [v] ∧ ds = [d] ∧ Da G H L v d ∧ k d := by
  cases q with
  | nil => exact h.elim
  | cons q r =>
    cases r with
    | nil => exact ⟨_, _, rfl, rfl, q, h⟩
    | cons _ _ => exact h.elim
theorem Das.two {H : Hp} {L : Addr → Prop} {vs : List V} {ds : List PyData} {k : PyData → PyData → Prop} (q : Das G H L vs ds) (h : n2 k ds) : ∃ v u d e, vs = [v, u] ∧ ds = [d, e] ∧ Da G H L v d ∧ Da G H L u e ∧ k d e := by
  cases q with
  | nil => exact h.elim
  | cons q r =>
    cases r with
    | nil => exact h.elim
    | cons q' r' =>
      cases r' with
      | nil => exact ⟨_, _, _, _, rfl, rfl, q, q', h⟩
      | cons _ _ => exact h.elim
noncomputable def Zsx : PyData → Option Nat
  | .list ds => some ds.length
  | .tuple ds => some ds.length
  | _ => none
noncomputable def Z6j : List PyData → (PyData → Prop) → Prop := fun ds k => n1 (fun d => match Zsx d with | some n => k (.int n) | none => False) ds
theorem Zhi : PNs G (Z6c G) Z6j := fun H L xs ds k Q hx h kk => by
  obtain ⟨v, d, rfl, rfl, q, h⟩ := hx.one h
  cases q with
  | lst l e r => exact ⟨_, _, rfl, .inl (.inl e), by rw [r.length]; exact kk _ _ (.int _) h⟩
  | tup e r => exact ⟨_, _, rfl, .inr (.inl (.inl e)), by rw [r.length]; exact kk _ _ (.int _) h⟩
  | scr ks => exact ⟨_, _, rfl, .inl ks.sq, by rw [(Das.ints (G := G) (H := H) (L := L) _).length]; exact kk _ _ (.int _) h⟩
  | _ => exact h.elim
noncomputable def Z6o : List PyData → (PyData → Prop) → Prop := fun ds k => n1 (fun d => asI d fun i => k (.int (if i < 0 then -i else i))) ds
theorem Zpn : PNs G (fun xs H Q => ∃ i, xs = [.int i] ∧ Q (.int (if i < 0 then -i else i)) H) Z6o := fun H L xs ds k Q hx h kk => by
  obtain ⟨v, d, rfl, rfl, q, h⟩ := hx.one h
  obtain ⟨i, rfl, h⟩ := q.intInv h
  exact ⟨i, rfl, kk _ _ (.int _) h⟩
noncomputable def Z5i : List PyData → (PyData → Prop) → Prop := fun ds k => n2 (fun d e => asI d fun i => asI e fun j => k (.int (if j > i then j else i))) ds
theorem Zva : PNs G (fun xs H Q => ∃ i j, xs = [.int i, .int j] ∧ Q (.int (if j > i then j else i)) H) Z5i := fun H L xs ds k Q hx h kk => by
  obtain ⟨v, u, d, e, rfl, rfl, q, q', h⟩ := hx.two h
  obtain ⟨i, rfl, h⟩ := q.intInv h
  obtain ⟨j, rfl, h⟩ := q'.intInv h
  exact ⟨i, j, rfl, kk _ _ (.int _) h⟩
noncomputable def Zmp : PyData → Option (List PyData)
  | .list ds => some ds
  | .tuple ds => some ds
  | _ => none
noncomputable def Zyk : List PyData → (OT → Prop) → Prop := fun ds k => n1 (fun d => match Zmp d with | some es => k (.nd (es.map OT.fz)) | none => False) ds
theorem Zvy : PN G (Zoq G) Zyk := fun H L xs ds k Q hx h kk => by
  obtain ⟨v, d, rfl, rfl, q, h⟩ := hx.one h
  cases q with
  | lst l e r => exact ⟨_, _, rfl, .inl (.inl e), fun p hp => kk _ _ _ [p] (Z7 hp _) (Own.list hp r) (Zdw p) (Zbk hp) h⟩
  | tup e r => exact ⟨_, _, rfl, .inr (.inl (.inl e)), fun p hp => kk _ _ _ [p] (Z7 hp _) (Own.list hp r) (Zdw p) (Zbk hp) h⟩
  | scr ks => exact ⟨_, _, rfl, .inl ks.sq, fun p hp => kk _ _ _ [p] (Z7 hp _) (Own.list hp (Das.ints _)) (Zdw p) (Zbk hp) h⟩
  | _ => exact h.elim
section
variable {X : Cx} {io : List Nat} {p c : Bool} {a : Expr} {ma : MEt} {pos : Pos}
noncomputable def Z5v (m : MEt) : MEt := fun δ K => m δ fun r δ' => asI r.data fun i => K (.fz (.int (-i))) δ'
theorem Zoj (ha : ME X io p c a ma) : ME X io p true (.UnaryOp .USub a pos) (Z5v ma) := by
  obtain ⟨_, A, s⟩ := ha
  exact ⟨_, Z4q Z0u A, fun C H σ δ fp ex K Q R h k => s C H σ δ fp ex _ _ R h fun H' v r δ' fp' new r1 h1 => by
    obtain ⟨i, rfl, h1⟩ := (r1.da R).intInv h1
    exact ⟨i, rfl, k H' _ _ δ' fp' [] (.fz r1.base r1.stp (.int _)) h1⟩⟩
noncomputable def Zmq (T : String) : PyData → Bool
  | .none => false
  | .bool _ => T == "bool" || T == "int"
  | .int _ => T == "int"
  | .str _ => T == "str"
  | .list _ => T == "list"
  | .tuple _ => T == "tuple"
  | .dict _ => false
noncomputable def Z6a (T : String) (m : MEt) : MEt := fun δ K => m δ fun r δ' => Zgi r.data = false ∧ K (.fz (.bool (Zmq T r.data))) δ'
end
end L2
namespace L2
open PySem PySem.Spec PyProof.Rows
section
variable {prog : Program} {w : World} {A : Around} {E : Value → Shared → Prop} {h : Heap} {g : Array GenState} {d : Drawn} {t : Nat} {os : OsState} {a C : Addr} {o : Obj} {K : PySem.W.Frag}
theorem Zvu (M : Model) (hx : h.get? a = some o) (hc : o.cls = .ref C) : PySem.W.Looks M h (typeOf (.ref a)) (.ref C) := hc ▸ (PySem.W.Looks.ld hx).andThen .now
theorem Zr7 {R : Result → Shared → Prop} (X : K.In h) (Z : Zh7 K C) (hx : h.get? a = some o) (hc : o.cls = .ref C) (hq : R (.ok (.ret (.ref C))) ⟨h, g, d, t, os⟩) :
    codeAny (model prog w) A (.call (.builtin "getset_descriptor.__get__") ⟨[.builtin "object.__class__", .ref a, .ref C], []⟩) R ⟨h, g, d, t, os⟩ := by
  have L1 : PySem.W.Looks (model prog w) h (isSubtype (.ref C) (.type (".".intercalate ("object.__class__".cutAt '.').dropLast))) true := by
    rw [F.owner_object_class]
    exact PySem.W.looks_subIn X Z.isO
  have T5 : (⟨h, g, d, t, os⟩ : Shared).TypeIs (.builtin "object.__class__") "getset_descriptor" := F.typeOf_object_class
  refine codeAny_call_builtin F.slot_gs_get.plain F.entry_gs_get (F.slot_gs_get.check _ _ _ _ _ _ _ _ T5 (F.args_gs_get _ _ _) ?_)
  repeat (any_goals (first | assumption | (with_reducible refine wpAny_loadPart_at hx ?_; rw [hc]) | (with_reducible refine wpAny_bind (PySem.W.Looks.at L1 ?_)) | (with_reducible refine PySem.W.Looks.at L1 ?_) | wp_step))
  refine ⟨Code.quiet_builtin _ (by decide +kernel), codeAny_builtin F.entry_object_class ?_⟩
  repeat (any_goals (first | assumption | (with_reducible refine wpAny_loadPart_at hx ?_; rw [hc]) | wp_step))
theorem Zny {tk : Tok} {Q : Fin → Shared → Prop} (X : K.In h) (Z : Zh7 K C) (hx : h.get? a = some o) (hc : o.cls = .ref C) (hq : Q (.done (.ret (.ref C))) ⟨h, g, d, t, os⟩) :
    wpAny (model prog w) A (Builtin.«object.__getattribute__» ⟨[.ref a, .str "__class__" tk], []⟩) Q E ⟨h, g, d, t, os⟩ := by
  have T5 : (⟨h, g, d, t, os⟩ : Shared).TypeIs (.builtin "object.__class__") "getset_descriptor" := F.typeOf_object_class
  have g5 := F.typeOf_object_class
  have g6 := F.slot_gs_get.lookup
  have g7 := F.slot_gs_set.lookup
  have L4 := PySem.W.looks_findIn (M := model prog w) X Z.cl
  repeat (any_goals (first | assumption | (with_reducible refine wpAny_loadPart_at hx ?_; rw [hc]) | (with_reducible refine wpAny_bind (PySem.W.Looks.at L4 ?_)) | (with_reducible refine PySem.W.Looks.at L4 ?_) | wp_step))
  refine Zr7 X Z hx hc ?_
  repeat (any_goals (first | assumption | wp_step))
theorem Znh {M : Model} {nameV : Value} {Q : Unit → Shared → Prop} (X : K.In h) (Z : Zh7 K C) (hx : h.get? a = some o) (hc : o.cls = .ref C) (hq : Q () ⟨h, g, d, t, os⟩) :
    wpAny M A (checkBuiltinCall "BaseException.__getattribute__" ⟨[.ref a, nameV], []⟩) Q E ⟨h, g, d, t, os⟩ := by
  have e1 : builtinKind "BaseException.__getattribute__" = some .slot := by decide +kernel
  have e2 : splitId "BaseException.__getattribute__" = some ("BaseException", "__getattribute__") := by decide +kernel
  have L1 := PySem.W.looks_subIn (M := M) X Z.isB
  have e3 := F.args_bexc_ga (.ref a) nameV
  simp only [checkBuiltinCall, e1, e2]
  refine wpAny_bind ?_
  unfold isInstance
  repeat (first | (with_reducible refine wpAny_loadPart_at hx ?_; rw [hc]) | (with_reducible refine wpAny_bind (PySem.W.Looks.at L1 ?_)) | (with_reducible refine PySem.W.Looks.at L1 ?_) | wp_step)
  exact hq
theorem Zn9 {tk : Tok} {R : Result → Shared → Prop} (X : K.In h) (Z : Zh7 K C) (hx : h.get? a = some o) (hc : o.cls = .ref C) (hq : R (.ok (.ret (.ref C))) ⟨h, g, d, t, os⟩) :
    codeAny (model prog w) A (.call (.builtin "BaseException.__getattribute__") ⟨[.ref a, .str "__class__" tk], []⟩) R ⟨h, g, d, t, os⟩ :=
  codeAny_call_builtin F.excAttr_ValueError.ga.plain F.entry_bexc_ga (Znh X Z hx hc (Zny X Z hx hc hq))
theorem Zx7 {tk : Tok} {fill expr : Bool} {Q : Value → Shared → Prop} (X : K.In h) (Z : Zh7 K C) (hx : h.get? a = some o) (hc : o.cls = .ref C) (hq : Q (.ref C) ⟨h, g, d, t, os⟩) :
    wpAny (model prog w) A (getAttrBy (.ref a) (.str "__class__" tk) fill expr) Q E ⟨h, g, d, t, os⟩ := by
  have f3 := F.excAttr_ValueError.ga.bind (.ref a)
  have y0 : (expr && onTheHeap (Value.builtin "BaseException.__getattribute__")) = false := by cases expr <;> rfl
  have y2 : (Value.builtin "BaseException.__getattribute__" == Value.builtin "object.__getattribute__") = false := by decide +kernel
  have y1 : (onTheHeap (Value.ref C) && Value.builtin "BaseException.__getattribute__" == Value.builtin "object.__getattribute__") = false := by rw [y2]; rfl
  have L2 := PySem.W.looks_findIn (M := model prog w) X Z.ga
  have L3 := PySem.W.looks_findIn (M := model prog w) X Z.gt
  repeat (any_goals (first | assumption | (with_reducible refine wpAny_loadPart_at hx ?_; rw [hc]) | (with_reducible refine PySem.W.Looks.at L2 ?_) | (with_reducible refine PySem.W.Looks.at L3 ?_) | (with_reducible refine wpAny_bind (PySem.W.Looks.at L2 ?_)) | (with_reducible refine wpAny_bind (PySem.W.Looks.at L3 ?_)) | wp_step))
  refine Zn9 X Z hx hc ?_
  repeat (any_goals (first | assumption | wp_step))
theorem Zp2 {Q : Option Value → Shared → Prop} (X : K.In h) (Z : Zh7 K C) (hx : h.get? a = some o) (hc : o.cls = .ref C) (hq : Q (some (.ref C)) ⟨h, g, d, t + 1, os⟩) :
    wpAny (model prog w) A (getAttr? (.ref a) "__class__") Q E ⟨h, g, d, t, os⟩ := by
  unfold getAttr? getAttrBy?
  repeat (any_goals (first | assumption | with_reducible apply Zx7 X Z hx hc | wp_step))
end
theorem Zrn {K : PySem.W.Frag} {a C : Addr} (Z : Zh7 K C) : PySem.W.KitX K (.ref a) (.ref C) (fun h => ∃ o, h.get? a = some o ∧ o.cls = .ref C) where
  ty := fun M h _ p => let ⟨_, hx, hc⟩ := p; Zvu M hx hc
  it := fun M h X _ => by
    have z := Z.isC
    unfold PySem.W.clsIn at z
    split at z
    · rename_i ho
      intro A' Q' E' s' k q
      unfold isType loadHead
      exact wpAny_bind (wpAny_loadPart (k _ _ (X _ _ ho)) (wpAny_pure q))
    · cases z
  ne := fun h tp dd its n sl X htp => by
    have z := Z.isC
    refine Bool.eq_false_iff.mpr fun q => ?_
    have e : C = tp := Value.ref.inj (beq_iff_eq.mp q)
    subst e
    unfold PySem.W.clsIn at z
    split at z
    · rename_i ho
      have z := (X _ _ ho).symm.trans htp
      cases z
    · cases z
  ca := fun {_ _ _ _ _ s} X p k => by
    obtain ⟨h, g, d, t, os⟩ := s
    obtain ⟨_, hx, hc⟩ := p
    exact Zp2 X Z hx hc k
end L2
namespace L2
open PySem PySem.Spec PyProof.Rows
variable {G : PySem.W.Frag}
noncomputable def tyD : PyData → String
  | .none => "NoneType"
  | .bool _ => "bool"
  | .int _ => "int"
  | .str _ => "str"
  | .list _ => "list"
  | .tuple _ => "tuple"
  | .dict _ => "dict"
theorem Zu0 {K : PySem.W.Frag} {T : String} {d : PyData} (h : T = "int" ∨ T = "bool" ∨ T = "str" ∨ T = "list" ∨ T = "tuple") (hd : ∀ kvs, d ≠ .dict kvs) : PySem.W.kitOne K (.type (tyD d)) (.type T) = some (Zmq T d) := by
  rcases h with rfl | rfl | rfl | rfl | rfl <;> cases d <;> first | rfl | (exact absurd rfl (hd _)) | (unfold PySem.W.kitOne PySem.W.kitCls; rfl) | (simp only [tyD, Zmq]; decide +kernel)
noncomputable def Z34 (G : PySem.W.Frag) : List V → Hp → VK → Prop := fun xs H Q => ∃ (x : V) (T : String) (L : Addr → Prop) (d : PyData), xs = [x, .ty T] ∧ Da G H L x d ∧ Zgi d = false ∧ (T = "int" ∨ T = "bool" ∨ T = "str" ∨ T = "list" ∨ T = "tuple") ∧ Q (.bl (Zmq T d)) H
theorem Zok {X : Cx} (hK : X.K = G) : Zdm X (.builtin "isinstance") (Z34 G) := by
  subst hK
  intro pins s σ H xs us Q I r h
  obtain ⟨x, T, L, d, rfl, q, hf, hT, h⟩ := h
  obtain ⟨u, w', rfl, r1, r2⟩ := vals2 r
  cases (show w' = Value.type T from r2)
  have fin : ∀ tk : Nat, EP X pins σ Q (.bool (Zmq T d)) { s with toks := tk } := fun tk => ⟨.bl _, H, I.tok tk, rfl, h⟩
  cases q with
  | non => exact J4 I r1 .non (Zu0 (d := .none) hT fun _ z => by cases z) fin
  | bl b => exact J4 I r1 (.bl b) (Zu0 (d := .bool b) hT fun _ z => by cases z) fin
  | int b => exact J4 I r1 (.int b) (Zu0 (d := .int b) hT fun _ z => by cases z) fin
  | str b => exact J4 I r1 (.str b) (Zu0 (d := .str b) hT fun _ z => by cases z) fin
  | lst l e qs =>
    rename_i ds
    rcases e with e | ⟨o, e⟩
    · exact J4 I r1 (.lst e) (Zu0 (d := .list ds) hT fun _ z => by cases z) fin
    · exact J4 I r1 (.frz e) (Zu0 (d := .list ds) hT fun _ z => by cases z) fin
  | tup e qs =>
    rename_i ds
    exact J4 I r1 (.tup e) (Zu0 (d := .tuple ds) hT fun _ z => by cases z) fin
  | scr ks =>
    rename_i a ns
    cases (show u = Value.ref a from r1)
    obtain ⟨its, vs, ⟨o, n, ho, hc, hd, hs⟩, _⟩ := I.list (ks.sq (H := H))
    exact PySem.W.kia_one PySem.W.kitx_list I.kIn ⟨o, ho, hc⟩ (Zu0 (d := .list (ns.map PyData.int)) hT fun _ z => by cases z) (fun z => nomatch z) fin
  | exc Z hn e =>
    rename_i a C x
    cases (show u = Value.ref a from r1)
    obtain ⟨⟨o, vs, ho, hc, _⟩, _, _⟩ := (show ObjOk X.prog X.w H s.heap a (.ext (ExO C a)) from I.hok a _ e)
    refine PySem.W.kia_one (Zrn Z) I.kIn ⟨o, ho, hc⟩ (b := Zmq T (exD x)) ?_ (fun z => nomatch z) fin
    rcases hT with rfl | rfl | rfl | rfl | rfl
    · exact Z.k1
    · exact Z.k2
    · exact Z.k3
    · exact Z.k4
    · exact Z.k5
  | fn _ => cases hf
  | dic _ _ _ _ => unfold dcD Zgi at hf; cases hf
section
variable {X : Cx} {io : List Nat} {p c p' c' : Bool} {a b e : Expr} {ma m : MEt} {pos pp p2 : Pos} {K : PySem.W.Frag}
theorem Zh0 {T : Str} {T' : String} (hT : T' = "int" ∨ T' = "bool" ∨ T' = "str" ∨ T' = "list" ∨ T' = "tuple") (hg : Gl X "isinstance") (hm : X.mg "isinstance" = none) (hv : bootBuiltins "isinstance" = some (.builtin "isinstance"))
    (hg2 : Gl X T) (hm2 : X.mg T = none) (hv2 : bootBuiltins T = some (.type T')) (ha : ME X io p c a ma) (hn : T ≠ "__name__" := by decide) (hd : (T == ("__debug__" : Str)) = false := by decide)
    (he : starEach [a, .Name T p2] X.env = (false, eval a X.env) :: starEach [.Name T p2] X.env := by rfl) (he2 : starEach [.Name T p2] X.env = (false, eval (.Name T p2) X.env) :: starEach [] X.env := by rfl) (hpl : (backTo pos (starEach [.Name T p2] X.env)).any (·.1) = false := by rfl) :
    ME X io p true (.Call (.Name "isinstance" pp) [a, .Name T p2] [] pos) (Z6a T' ma) := by
  obtain ⟨_, A, s⟩ := ha
  refine ⟨_, Zhz (Zok rfl) hg hm hv (Zaw A (Zaw (Zv2 (v := .ty T') hg2 hm2 hv2 rfl hn hd) Zd0 he2) he) (by decide) (by decide) he hpl, ?_⟩
  intro C H σ δ fp ex K' Q R h k
  refine s C H σ δ fp ex _ _ R h fun H' v r δ' fp' new r1 h1 => ?_
  exact ⟨v, T', _, _, rfl, r1.da R, h1.1, hT, k H' _ _ δ' fp' [] (.fz r1.base r1.stp (.bl _)) h1.2⟩
noncomputable abbrev MOt := Zh → (Option Int → Zh → Prop) → Prop
noncomputable def MO (X : Cx) (io : List Nat) (p : Bool) (e : Option Expr) (m : MOt) : Prop := ∃ t, PO X e t ∧ ∀ (C : MC X.K) (H : Hp) (σ : St) (δ : Zh) (fp : Fp) (ex : Addr → Prop) (K : Option Int → Zh → Prop) (Q : Option Int → Hp → Prop), Rel C io H σ δ fp ex → m δ K →
  (∀ H' b δ' fp', Rel C io H' σ δ' fp' ex → Stp p H δ fp H' δ' fp' → K b δ' → Q b H') → t σ H Q
noncomputable def Zqf : MOt := fun δ K => K none δ
noncomputable def Zy3 (m : MEt) : MOt := fun δ K => m δ fun r δ' => asI r.data fun i => K (some i) δ'
theorem Zjd : MO X io true none Zqf := ⟨_, Zwp, fun C H σ δ fp ex K Q R h k => k H none δ fp R (.refl _ _ _ _) h⟩
theorem Zdd (h : ME X io p c e m) : MO X io p (some e) (Zy3 m) := by
  obtain ⟨_, A, s⟩ := h
  exact ⟨_, Zw8 A, fun C H σ δ fp ex K Q R h k => s C H σ δ fp ex _ _ R h fun H' v r δ' fp' new r1 h1 => by
    obtain ⟨i, rfl, h1⟩ := (r1.da R).intInv h1
    exact ⟨i, rfl, k H' _ δ' fp' r1.base r1.stp h1⟩⟩
noncomputable def cutD (ds : List PyData) (lo hi : Option Int) : List PyData := (ds.drop (HT.sIx ds.length 0 lo)).take (HT.sIx ds.length ds.length hi - HT.sIx ds.length 0 lo)
theorem Das.cut {H : Hp} {L : Addr → Prop} {xs : List V} {ds : List PyData} (h : Das G H L xs ds) (lo hi : Option Int) : Das G H L (Zx8 xs lo hi) (cutD ds lo hi) := by
  unfold Zx8 cutD
  rw [h.length]
  exact (h.drop _).take _
noncomputable def mSl (m : MEt) (ml mh : MOt) : MEt := fun δ K => m δ fun r δ1 => ml δ1 fun lo δ2 => mh δ2 fun hi δ3 => asL r.data fun ds => K (.nd ((cutD ds lo hi).map OT.fz)) δ3
theorem Ztk {lo hi : Option Expr} {ml mh : MOt} (ha : ME X io true c a ma) (hl : MO X io true lo ml) (hh : MO X io true hi mh) : ME X io true c (.Subscript a (.Slice lo hi none p2) pos) (mSl ma ml mh) := by
  obtain ⟨_, A, s⟩ := ha
  obtain ⟨_, B, sl⟩ := hl
  obtain ⟨_, D, sh⟩ := hh
  refine ⟨_, Zti (Zss rfl) A B D, ?_⟩
  intro C H σ δ fp ex K' Q R h k
  refine s C H σ δ fp ex _ _ R h fun H1 v r δ1 fp1 new r1 h1 => ?_
  refine sl C H1 σ δ1 fp1 ex _ _ r1.base h1 fun H2 l δ2 fp2 R2 S2 h2 => ?_
  refine sh C H2 σ δ2 fp2 ex _ _ R2 h2 fun H3 u δ3 fp3 R3 S3 h3 => ?_
  have s2 : Same H1 H2 := fun b o e => S2.keep b o e (.inl rfl)
  have s3 : Same H2 H3 := fun b o e => S3.keep b o e (.inl rfl)
  obtain ⟨e1, e2⟩ := r1.stp.env rfl
  obtain ⟨e3, e4⟩ := S2.env rfl
  obtain ⟨e5, e6⟩ := S3.env rfl
  have q := ((r1.da R).same s2).same s3
  obtain ⟨a', xs, ds, rfl, e, qs, h3⟩ := q.lstInv h3
  refine ⟨a', xs, rfl, e, fun p hp => ?_⟩
  have S := (r1.stp.trans S2).trans S3
  refine k _ _ _ δ3 fp3 [p] (RE.tree R R3 S (Z7 hp _) (Zbk hp) (Zdw p) (Own.list hp ((qs.cut l u).wide fun a l _ => ?_))) h3
  rw [e6, e4]
  exact l
theorem Owns.set {H : Hp} {L : Addr → Prop} {x : V} {r : OT} (hr : Own G H L x r []) : ∀ {xs : List V} {ts : List OT} {as : List Addr} (j : Nat), Owns G H L xs ts as → ∃ bs, Owns G H L (xs.set j x) (ts.set j r) bs ∧ bs.Sublist as
  | _, _, _, _, .nil => ⟨[], .nil, .refl _⟩
  | _, _, _, 0, .cons k t => ⟨_, .cons hr t, by simp⟩
  | _, _, _, j + 1, .cons (as := as) k t => by
    obtain ⟨bs, o, s⟩ := Owns.set hr j t
    exact ⟨as ++ bs, .cons k o, List.Sublist.append_left s as⟩
theorem Owns.get {H : Hp} {L : Addr → Prop} : ∀ {xs : List V} {ts : List OT} {as : List Addr} {j : Nat} {t : OT}, Owns G H L xs ts as → ts[j]? = Option.some t → ∃ x bs, xs[j]? = Option.some x ∧ Own G H L x t bs ∧ bs.Sublist as
  | _, _, _, _, _, .nil, e => by simp at e
  | _, _, _, 0, _, .cons k _, e => by simp at e; subst e; exact ⟨_, _, rfl, k, List.sublist_append_left _ _⟩
  | _, _, _, j + 1, t, .cons _ r, e => by
    obtain ⟨x, bs, h1, h2, h3⟩ := Owns.get (j := j) (t := t) r (by simpa using e)
    exact ⟨x, bs, by simpa using h1, h2, h3.trans (List.sublist_append_right _ _)⟩
theorem Rel.top {C : MC G} {H : Hp} {σ : St} {δ : Zh} {fp : Fp} {ex : Addr → Prop} {i : Nat} {ts ts' : List OT} {a' : Addr} {xs ys : List V} {bs bs' : List Addr} (R : Rel C io H σ δ fp ex) (hi : δ[i]? = some (some (.nd ts))) (hv : σ[i]? = some (some (.ref a')))
    (hf : fp i = a' :: bs) (hx : H a' = some (.lst xs)) (o : Owns G H (Lf C fp ex) ys ts' bs') (hs : bs'.Sublist bs) :
    Rel C io (upd H a' (.lst ys)) σ (δ.set i (some (.nd ts'))) (fpu fp i (a' :: bs')) ex ∧ Stp false H δ fp (upd H a' (.lst ys)) (δ.set i (some (.nd ts'))) (fpu fp i (a' :: bs')) := by
  have nd := R.nd i
  rw [hf] at nd
  have hn := List.nodup_cons.mp nd
  have hm : a' ∈ fp i := by rw [hf]; exact .head _
  have ne' : ∀ a, ¬ Foot fp a → a ≠ a' := fun a h z => h ⟨i, by rw [z]; exact hm⟩
  have kp : ∀ b o, H b = some o → b ≠ a' → upd H a' (.lst ys) b = some o := fun b o e n => by rw [Zz n]; exact e
  have sub : ∀ a, a ∈ a' :: bs' → a ∈ fp i := fun a m => by
    rw [hf]
    rcases List.mem_cons.mp m with rfl | m
    · exact .head _
    · exact .tail _ (hs.subset m)
  have o' : Owns G (upd H a' (.lst ys)) (Lf C (fpu fp i (a' :: bs')) (exu ex [])) ys ts' bs' := by
    have f0 : ∀ a, ¬ Foot fp a → ¬ Foot (fpu fp i (a' :: bs')) a := fun a h z => by
      rcases z.of_u with z | ⟨j, _, z⟩
      · exact h ⟨i, sub a z⟩
      · exact h ⟨j, z⟩
    have f1 : ∀ a (zs : MuO), Lf C fp ex a → Rd H a zs.ho → Lf C (fpu fp i (a' :: bs')) (exu ex []) a ∧ Rd (upd H a' (.lst ys)) a zs.ho := fun a zs l q => by
      refine ⟨⟨f0 a l.1, fun z => l.2.1 (Zca.mp z), l.2.2⟩, ?_⟩
      rcases q with q | ⟨u, q⟩
      · exact .inl (kp a _ q (ne' a l.1))
      · exact .inr ⟨u, kp a _ q (ne' a l.1)⟩
    have f2 : ∀ a (zs : ImO), H a = some zs.ho → upd H a' (.lst ys) a = some zs.ho := fun a zs q => kp a _ q fun z => ImO.nl q (z ▸ hx)
    exact o.frame f1 f2 fun a m zs q => kp a _ q fun z => hn.1 (hs.subset (z ▸ m))
  have key := R.change (new := []) (as' := a' :: bs') (t' := .nd ts') (H' := upd H a' (.lst ys)) hi hv (fun b o e nb => kp b o e fun z => nb (by rw [z]; exact hm)) (fun b e => by
      by_cases q : b = a'
      · subst q; rw [Z8] at e; cases e
      · rwa [Zz q] at e) (.nd Z8 o') (List.nodup_cons.mpr ⟨fun m => hn.1 (hs.subset m), hn.2.sublist hs⟩) (fun a m => .inl (sub a m)) (fun a m => nomatch m)
  exact ⟨key.1.drop fun a z => .inl z, key.2⟩
end
end L2
namespace L2
open PySem PySem.Spec PyProof.Rows
variable {G : PySem.W.Frag}
section
variable {X : Cx} {io : List Nat} {p c p' c' : Bool} {a b e : Expr} {ma m mi mj : MEt} {pos pp p2 apos cpos px : Pos} {K : PySem.W.Frag} {i : Nat} {x : Str}
theorem Rel.ownNd {C : MC G} {H : Hp} {σ : St} {δ : Zh} {fp : Fp} {ex : Addr → Prop} {ts : List OT} (R : Rel C io H σ δ fp ex) (hi : δ[i]? = some (some (.nd ts))) :
    ∃ a' xs bs, σ[i]? = some (some (.ref a')) ∧ H a' = some (.lst xs) ∧ Owns G H (Lf C fp ex) xs ts bs ∧ fp i = a' :: bs := by
  obtain ⟨v, e, o⟩ := R.own i _ hi
  generalize hf : fp i = as at o
  cases o with
  | nd h r => exact ⟨_, _, _, e, h, r, rfl⟩
noncomputable def Zi9 (i : Nat) (m : MEt) : MSt := fun D δ => match δ[i]? with
  | some (some (.nd _)) => m δ fun r δ1 => match δ1[i]? with
    | some (some (.nd ts)) => ts.length < sizeLine ∧ D.nx (δ1.set i (some (.nd (ts ++ [.fz r.data]))))
    | _ => False
  | _ => False
theorem Zaa (i : Nat) (he : ME X io p true e m) (hN : X.N[i]? = some x := by rfl) (hv : Vis X.env.scope x := by first | exact Or.inl rfl | exact Or.inr (Or.inl rfl) | exact Or.inr (Or.inr rfl)) (hd : (x == ("__debug__" : Str)) = false := by decide)
    (hcd : (x == ("__classdict__" : Str)) = false := by decide)
    (hbase : attributeBase (.Name x px) "append" X.env (eval (.Name x px) X.env) = eval (.Name x px) X.env := by rfl)
    (hfew : ((backTo cpos (starEach [e] X.env)).all (fun x => !x.1) && (backToKw cpos (keywordEach [] X.env)).all (fun x => x.1.isSome)
      && decide ([e].length + ([] : List Keyword).length + (if ([] : List Keyword).isEmpty then 0 else 1) < 30)) = true := by rfl)
    (hline : (apos.endLine == cpos.line) = true := by rfl) (hs : starEach [e] X.env = (false, eval e X.env) :: starEach [] X.env := by rfl) (hplain : (backTo cpos (starEach [] X.env)).any (·.1) = false := by rfl)
    (hsw : swapsWith (.Call (.Attribute (.Name x px) "append" apos) [e] [] cpos) none pos.line X.env = pure false := by rfl) :
    MS X io (.Expr (.Call (.Attribute (.Name x px) "append" apos) [e] [] cpos) pos) (Zi9 i m) := by
  obtain ⟨_, A, s⟩ := he
  refine ⟨_, Zoz (Zto PySem.F.plainAttrs_list PySem.F.slot_list_append PySem.F.type_list_append Zj4 (pv i hN hv hd hcd) (Zaw A Zd0 hs) hbase hfew hline hs hplain) hsw, fun C H σ δ fp ex D D' R h E => ?_⟩
  unfold Zi9 at h
  split at h
  case h_2 => exact h.elim
  rename_i ts0 hi0
  obtain ⟨a', xs0, bs0, hv0, hx0, _, _⟩ := R.ownNd hi0
  refine ⟨_, hv0, .inl ⟨rfl, xs0, .inl (.inl hx0)⟩, ?_⟩
  refine s C H σ δ fp ex _ _ R h fun H1 v r δ1 fp1 new r1 h1 => ?_
  split at h1
  case h_2 => exact h1.elim
  rename_i ts1 hi1
  have R1 := r1.base
  obtain ⟨a1, xs1, bs1, hv1, hx1, o1, hf1⟩ := R1.ownNd hi1
  rw [hv0] at hv1
  cases hv1
  have q := (r1.da R).wide (L' := Lf C fp1 ex) fun a l _ => l rfl
  refine ⟨a', xs1, v, rfl, rfl, hx1, by rw [o1.length]; exact h1.1, ?_⟩
  have o2 := o1.snoc (.fz q)
  obtain ⟨R2, S2⟩ := R1.top hi1 hv0 hf1 hx1 o2 (by simp)
  exact E.nx _ σ _ _ R2 (r1.stp.kp.trans S2.kp) h1.2
noncomputable def Z0w (i : Nat) (m mi mj : MEt) : MSt := fun D δ => m δ fun r δ1 => match δ1[i]? with
  | some (some (.nd ts)) => mi δ1 fun n _ => asI n.data fun k => match ixN ts.length k with
    | some j => match ts[j]? with
      | some (.nd us) => mj δ1 fun n' _ => asI n'.data fun k' => match ixN us.length k' with
        | some j' => D.nx (δ1.set i (some (.nd (ts.set j (.nd (us.set j' (.fz r.data)))))))
        | none => False
      | _ => False
    | none => False
  | _ => False
theorem SE.pureAfter {t : TE} {C : MC G} {H : Hp} {σ : St} {δ : Zh} {fp : Fp} {ex : Addr → Prop} {K' : OT → Zh → Prop} {Q : VK} (s : SE G io true c t m) (R : Rel C io H σ δ fp ex) (h : m δ K') (k : ∀ H' v r, Rel C io H' σ δ fp ex → Same H H' → Da G H' (fun a => c = true → Lf C fp ex a) v r.data → K' r δ → Q v H') : t σ H Q :=
  s C H σ δ fp ex _ _ R h fun H1 v r δ1 fp1 new r1 h1 => by
    obtain ⟨e1, e2⟩ := r1.stp.env rfl
    have q := r1.da R
    have R1 := r1.base
    rw [e1] at R1 h1
    rw [e2] at R1 q
    exact k H1 v r R1 (fun b o e => r1.stp.keep b o e (.inl rfl)) q h1
theorem Owns.deep {H : Hp} {L : Addr → Prop} {b' : Addr} {ws ws' : List V} {us us' : List OT} (hb : H b' = Option.some (HO.lst ws)) (hL : ¬ L b') (hc : ∀ cs, Owns G H L ws us cs → ∃ cs', Owns G H L ws' us' cs' ∧ cs'.Sublist cs) :
    ∀ {xs : List V} {ts : List OT} {as : List Addr} {j : Nat}, Owns G H L xs ts as → as.Nodup → xs[j]? = Option.some (.ref b') → ts[j]? = Option.some (.nd us) → ∃ as', Owns G (upd H b' (.lst ws')) L xs (ts.set j (.nd us')) as' ∧ as'.Sublist as ∧ b' ∈ as
  | _, _, _, _, .nil, _, e, _ => by simp at e
  | _, _, _, 0, .cons (as := as) (bs := bs) k t, nd, e, e' => by
    simp at e e'
    subst e e'
    have nd' := List.nodup_append.mp nd
    have kp : ∀ a o, a ≠ b' → H a = Option.some o → upd H b' (.lst ws') a = Option.some o := fun a o n q => by rw [Zz n]; exact q
    have f1 : ∀ a (zs : MuO), L a → Rd H a zs.ho → L a ∧ Rd (upd H b' (.lst ws')) a zs.ho := fun a zs l q => ⟨l, by
      have na : a ≠ b' := fun z => hL (z ▸ l)
      rcases q with q | ⟨u, q⟩
      · exact .inl (kp a _ na q)
      · exact .inr ⟨u, kp a _ na q⟩⟩
    have f2 : ∀ a (zs : ImO), H a = Option.some zs.ho → upd H b' (.lst ws') a = Option.some zs.ho := fun a zs q => kp a _ (fun z => ImO.nl q (z ▸ hb)) q
    cases k with
    | nd h r =>
      rename_i xs0 as0
      rw [hb] at h
      cases h
      have nd2 := List.nodup_cons.mp nd'.1
      obtain ⟨cs', o', s'⟩ := hc _ r
      refine ⟨b' :: cs' ++ bs, .cons (.nd Z8 (o'.frame f1 f2 fun a m zs q => kp a _ (fun z => nd2.1 (s'.subset (z ▸ m))) q)) (t.frame f1 f2 fun a m zs q => kp a _ (fun z => nd'.2.2 b' (.head _) a m z.symm) q), List.Sublist.append_right (List.Sublist.cons₂ _ s') bs, List.mem_append_left _ (.head _)⟩
  | _, _, _, j + 1, .cons (as := as) (bs := bs) k t, nd, e, e' => by
    have nd' := List.nodup_append.mp nd
    obtain ⟨as', o, s, m⟩ := Owns.deep hb hL hc (j := j) t nd'.2.1 (by simpa using e) (by simpa using e')
    have nb : b' ∉ as := fun z => nd'.2.2 b' z b' m rfl
    refine ⟨as ++ as', .cons ?_ o, List.Sublist.append_left s as, List.mem_append_right _ m⟩
    have kp : ∀ a o, a ≠ b' → H a = Option.some o → upd H b' (.lst ws') a = Option.some o := fun a o n q => by rw [Zz n]; exact q
    refine k.frame (fun a zs l q => ⟨l, ?_⟩) (fun a zs q => kp a _ (fun z => ImO.nl q (z ▸ hb)) q) fun a m' zs q => kp a _ (fun z => nb (z ▸ m')) q
    have na : a ≠ b' := fun z => hL (z ▸ l)
    rcases q with q | ⟨u, q⟩
    · exact .inl (kp a _ na q)
    · exact .inr ⟨u, kp a _ na q⟩
theorem Zf7 (i : Nat) (he : ME X io p true e m) (hj : ME X io true c a mi) (hk : ME X io true c' b mj) (hPa : Zfo a) (hN : X.N[i]? = some x := by rfl) (hv : Vis X.env.scope x := by first | exact Or.inl rfl | exact Or.inr (Or.inl rfl) | exact Or.inr (Or.inr rfl)) (hd : (x == ("__debug__" : Str)) = false := by decide)
    (hcd : (x == ("__classdict__" : Str)) = false := by decide)
    (hpg : ∀ {to ti : TE}, PE X (.Subscript (.Name x px) a pp) to → PE X b ti → PG X (.Subscript (.Subscript (.Name x px) a pp) b p2) (Z7d to ti Z1f) := by intro _ _ A B; exact Zzv A B set_list)
    (hs : swapsWithSole [.Subscript (.Subscript (.Name x px) a pp) b p2] e pos.line X.env = pure false := by rfl) (hw : swappedStores [.Subscript (.Subscript (.Name x px) a pp) b p2] e X.env = pure none := by rfl)
    (h1 : (assignEach [.Subscript (.Subscript (.Name x px) a pp) b p2] X.env).map (·.2) = [assign (.Subscript (.Subscript (.Name x px) a pp) b p2) X.env] := by rfl) :
    MS X io (.Assign [.Subscript (.Subscript (.Name x px) a pp) b p2] e pos) (Z0w i m mi mj) := by
  obtain ⟨_, A, s⟩ := he
  obtain ⟨_, B, sj⟩ := hj
  obtain ⟨_, B2, sk⟩ := hk
  refine ⟨_, Zyy A (hpg (Zwx (Zr1 rfl) (pv i hN hv hd hcd) B hPa) B2) hs hw h1, fun C H σ δ fp ex D D' R h E => ?_⟩
  refine s C H σ δ fp ex _ _ R h fun H1 v r δ1 fp1 new r1 h1 => ?_
  have R1 := r1.base
  have q := (r1.da R).wide (L' := Lf C fp1 ex) fun a l _ => l rfl
  split at h1
  case h_2 => exact h1.elim
  rename_i ts hi
  obtain ⟨a', _, _, hv0, _⟩ := R1.ownNd hi
  refine ⟨_, hv0, ?_⟩
  refine sj.pureAfter R1 h1 fun H2 w n R2 s2 q2 h2 => ?_
  obtain ⟨k, rfl, h2⟩ := q2.intInv h2
  split at h2
  case h_2 => exact h2.elim
  rename_i j hj
  split at h2
  case h_2 => exact h2.elim
  rename_i us hus
  -- the row
  obtain ⟨a2, xs2, bs2, hv2, hx2, o2, hf2⟩ := R2.ownNd hi
  rw [hv0] at hv2
  cases hv2
  obtain ⟨xr, cr, hxr, orow, _⟩ := o2.get hus
  obtain ⟨b', rfl⟩ : ∃ b', xr = V.ref b' := by
    cases orow with
    | nd h r => exact ⟨_, rfl⟩
  refine ⟨a', xs2, k, V.ref b', rfl, rfl, .inl (.inl hx2), ?_, ?_⟩
  · unfold atI
    rw [o2.length, hj]
    exact hxr
  refine sk.pureAfter R2 h2 fun H3 w' n' R3 s3 q3 h3 => ?_
  obtain ⟨k', rfl, h3⟩ := q3.intInv h3
  split at h3
  case h_2 => exact h3.elim
  rename_i j' hj'
  obtain ⟨a3, xs3, bs3, hv3, hx3, o3, hf3⟩ := R3.ownNd hi
  rw [hv0] at hv3
  cases hv3
  have exs : xs3 = xs2 := by
    have := s3 _ _ hx2
    rw [hx3] at this
    cases this; rfl
  subst exs
  obtain ⟨xr3, cr3, hxr3, orow3, hsub3⟩ := o3.get hus
  rw [hxr] at hxr3
  cases hxr3
  have nd3 := R3.nd i
  rw [hf3] at nd3
  have hn3 := List.nodup_cons.mp nd3
  cases orow3 with
  | nd hb r3 =>
    rename_i ws3 bs4
    have hbm : b' ∈ bs3 := hsub3.subset (.head _)
    have hbf : b' ∈ fp1 i := by rw [hf3]; exact .tail _ hbm
    have hLb : ¬ Lf C fp1 ex b' := fun l => l.1 ⟨i, hbf⟩
    obtain ⟨as', oo, ss, _⟩ := Owns.deep (ws' := ws3.set j' v) (us' := us.set j' (.fz r.data)) hb hLb (fun cs hcs => Owns.set (.fz ((q.same s2).same s3)) j' hcs) o3 hn3.2 hxr hus
    refine ⟨b', ws3, k', j', rfl, rfl, hb, by rw [r3.length]; exact hj', ?_⟩
    have hba : a' ≠ b' := fun z => hn3.1 (z ▸ hbm)
    -- the change
    have sub : ∀ a, a ∈ a' :: as' → a ∈ fp1 i := fun a m => by
      rw [hf3]
      rcases List.mem_cons.mp m with rfl | m
      · exact .head _
      · exact .tail _ (ss.subset m)
    have kp : ∀ b o, H3 b = some o → b ≠ b' → upd H3 b' (.lst (ws3.set j' v)) b = some o := fun b o e n => by rw [Zz n]; exact e
    have lw : ∀ a, Lf C fp1 ex a → upd H3 b' (.lst (ws3.set j' v)) a ≠ none → Lf C (fpu fp1 i (a' :: as')) (exu ex []) a := fun a l _ => ⟨fun z => by
      rcases z.of_u with z | ⟨j, _, z⟩
      · exact l.1 ⟨i, sub a z⟩
      · exact l.1 ⟨j, z⟩, fun z => l.2.1 (Zca.mp z), l.2.2⟩
    obtain ⟨R4, S4⟩ := R3.change (new := []) (as' := a' :: as') (t' := .nd (ts.set j (.nd (us.set j' (.fz r.data))))) (H' := upd H3 b' (.lst (ws3.set j' v))) hi hv0 (fun b o e nb => kp b o e fun z => nb (by rw [z]; exact hbf)) (fun b e => by
        by_cases q : b = b'
        · subst q; rw [Z8] at e; cases e
        · rwa [Zz q] at e) (.nd (by rw [Zz hba]; exact hx3) (oo.wide lw)) (List.nodup_cons.mpr ⟨fun m => hn3.1 (ss.subset m), hn3.2.sublist ss⟩) (fun a m => .inl (sub a m)) (fun a m => nomatch m)
    have k23 : Kp H1 fp1 H3 fp1 := ⟨fun b o e _ => s3 _ _ (s2 _ _ e), fun z => (nomatch z), fun a z => .inl z, fun b e => s2.al b (s3.al b e)⟩
    exact E.nx _ σ _ _ (R4.drop fun a z => .inl z) (r1.stp.kp.trans (k23.trans S4.kp)) h3
end
end L2
namespace L2
open PySem PySem.Spec PyProof.Rows
variable {G : PySem.W.Frag}
mutual
noncomputable def Zed : OT → Bool
  | .fz d => Zay d
  | .nd ts => Zf8 ts
  | .tp ts => Zf8 ts
  | .dc _ _ _ => false
noncomputable def Zf8 : List OT → Bool
  | [] => true
  | t :: ts => Zed t && Zf8 ts
end
theorem Own.flat2 {H : Hp} {L L' : Addr → Prop} : (∀ {v : V} {t : OT} {as : List Addr}, Own G H L v t as → Zed t = true → Own G H L' v t as) ∧ ∀ {v : List V} {t : List OT} {as : List Addr}, Owns G H L v t as → Zf8 t = true → Owns G H L' v t as :=
  Own.both (fun q h => .fz (q.flat (by rw [Zed] at h; exact h))) (fun e r h => .nd e (r (by rw [Zed] at h; exact h))) (fun e r h => .tp e (r (by rw [Zed] at h; exact h))) (fun _ _ _ h => by rw [Zed] at h; cases h) (fun _ => .nil) (fun k r h => by rw [Zf8, Bool.and_eq_true] at h; exact .cons (k h.1) (r h.2))
theorem Own.flat {H : Hp} {L L' : Addr → Prop} {v : V} {t : OT} {as : List Addr} (h : Own G H L v t as) (f : Zed t = true) : Own G H L' v t as := Own.flat2.1 h f
section
variable {X : Cx} {io : List Nat} {p c : Bool} {e : Expr} {m : MEt}
noncomputable def Zt6 (m : MEt) : MEt := fun δ K => m δ fun r δ' => Zed r = true ∧ K r δ'
theorem Zwn (h : ME X io p c e m) : ME X io p true e (Zt6 m) := by
  obtain ⟨_, A, s⟩ := h
  exact ⟨_, A, fun C H σ δ fp ex K Q R h k => s C H σ δ fp ex _ _ R h fun H' v r δ' fp' new r1 h1 => k H' v r δ' fp' new ⟨r1.rel, r1.stp, r1.own.flat h1.1, r1.nd, r1.fresh⟩ h1.2⟩
theorem Rel.freeze {C : MC G} {H : Hp} {σ : St} {δ : Zh} {fp : Fp} {ex : Addr → Prop} {i : Nat} {t : OT} (R : Rel C io H σ δ fp ex) (hio : i ∉ io) (hi : δ[i]? = some (some t)) : Rel C io H σ (δ.set i (some (.fz t.data))) (fpu fp i []) ex := by
  have hil : i < δ.length := (List.getElem?_eq_some_iff.mp hi).1
  have sub : ∀ j a, a ∈ fpu fp i [] j → j ≠ i ∧ a ∈ fp j := fun j a m => by
    by_cases ej : j = i
    · subst ej; rw [Yg] at m; exact nomatch m
    · rw [Wc ej] at m; exact ⟨ej, m⟩
  have lw : ∀ a, Lf C fp ex a → Lf C (fpu fp i []) ex a := fun a l => ⟨fun ⟨j, z⟩ => l.1 ⟨j, (sub j a z).2⟩, l.2.1, l.2.2⟩
  have ln : ∀ a ∈ fp i, Lf C (fpu fp i []) ex a := fun a m => ⟨fun ⟨j, z⟩ => (sub j a z).1 (R.dj j i a (sub j a z).2 m), R.dx i a m, .inr (by
    rcases R.new i a m with z | z
    · exact absurd z.1 hio
    · exact z)⟩
  refine ⟨by rw [List.length_set]; exact R.len, fun j t' e => ?_, fun j h => ?_, fun j => ?_, fun j k a h1 h2 => R.dj j k a (sub j a h1).2 (sub k a h2).2, fun j a h z => R.dx j a (sub j a h).2 z, R.xa, R.fr, R.al, fun j a h => R.new j a (sub j a h).2, R.io⟩
  · by_cases ej : j = i
    · subst ej
      rw [List.getElem?_set_self hil] at e
      cases e
      obtain ⟨v, e1, o⟩ := R.own j t hi
      exact ⟨v, e1, by rw [Yg]; exact .fz (o.da (fun a l _ => lw a l) ln)⟩
    · rw [List.getElem?_set_ne (Ne.symm ej)] at e
      obtain ⟨w, e1, o⟩ := R.own j t' e
      exact ⟨w, e1, by rw [Wc ej]; exact o.wide fun a l _ => lw a l⟩
  · by_cases ej : j = i
    · subst ej; rw [Yg]
    · rw [Wc ej]
      exact R.emp j fun t' z => h t' (by rw [List.getElem?_set_ne (Ne.symm ej)]; exact z)
  · by_cases ej : j = i
    · subst ej; rw [Yg]; exact .nil
    · rw [Wc ej]; exact R.nd j
noncomputable def Ziy (i : Nat) (u : MSt) : MSt := fun D δ => match δ[i]? with | some (some t) => u D (δ.set i (some (.fz t.data))) | _ => False
theorem Zf5 {st : Stmt} {u : MSt} (i : Nat) (h : MS X io st u) (hio : i ∉ io := by decide) : MS X io st (Ziy i u) := by
  obtain ⟨_, A, s⟩ := h
  exact ⟨_, A, fun C H σ δ fp ex D D' R h E => by
    unfold Ziy at h
    split at h
    case h_2 => exact h.elim
    rename_i t hi
    refine s C H σ _ _ ex D D' (R.freeze hio hi) h (E.shift ⟨fun b o e _ => e, fun z => (nomatch z), fun a z => ?_, fun b e => e⟩)
    rcases z.of_u with z | ⟨j, _, z⟩
    · exact nomatch z
    · exact .inl ⟨j, z⟩⟩
end
end L2
namespace L2
open PySem PySem.Spec PyProof.Rows
variable {G : PySem.W.Frag}
noncomputable def Zzs (ds : List PyData) (k : OT → Prop) : Prop := ∃ ns : List Int, ds = [.list (ns.map PyData.int)] ∧ ns.length ≤ 63 ∧ k (.fz (.bool true))
theorem Zyu {H : Hp} {a : Addr} {ns : List Int} {E : XK} (hl : ns.length ≤ 63) (h : SqL G H a (ns.map V.int)) : spD G Zzs [.ref a] H (fun v _ => v = .bl true) E := by
  refine ⟨fun _ => True, [.list (ns.map PyData.int)], fun r => r = .fz (.bool true), .cons ?_ .nil, ⟨ns, rfl, hl, rfl⟩, fun r v H' new kr s o _ _ => ?_⟩
  · rcases h with h | h
    · exact .lst trivial h (.ints ns)
    · exact .scr h
  · subst kr
    cases o with
    | fz q => cases q; rfl
section
variable {P : Program} {w : World} {mg : Str → Option Value} {base : Heap} {CX : CXT} {n : Nat} {f : Addr} {fd : FuncData} {ps : List Str}
theorem Da.ints_sq {H : Hp} {L : Addr → Prop} {v : V} {ns : List Int} (h : Da G H L v (.list (ns.map PyData.int))) : ∃ a, v = .ref a ∧ SqL G H a (ns.map V.int) := by
  generalize e : PyData.list (ns.map PyData.int) = d at h
  cases h with
  | lst l e1 r =>
    cases e
    rw [r.int_inv] at e1
    exact ⟨_, rfl, .inl e1⟩
  | scr k =>
    rename_i a ms
    have e' := PyData.list.inj e
    have : ns = ms := (List.map_inj_right (fun _ _ h => by cases h; rfl)).mp e'
    subst this
    exact ⟨_, rfl, k.sq⟩
  | _ => cases e
end
end L2
namespace L2
open PySem PySem.Spec PyProof.Rows
@[simp] theorem Za8 : OT.datas [] = [] := rfl
@[simp] theorem J1 (t : OT) (ts : List OT) : OT.datas (t :: ts) = t.data :: OT.datas ts := rfl
theorem Zk3 {α : Type} {xs : List α} {i : Int} (h0 : 0 ≤ i) : atI xs i = xs[i.toNat]? := by
  unfold atI ixN
  rw [if_pos h0]
  split
  · rfl
  · rename_i h
    symm
    exact List.getElem?_eq_none_iff.mpr (by omega)
theorem Z01 {α : Type} {xs : List α} {i : Nat} : atI xs (i : Int) = xs[i]? := by
  rw [Zk3 (by omega), Int.toNat_natCast]
@[simp] theorem Z8e {α : Type} (x : α) (xs : List α) : atI (x :: xs) 0 = some x := by
  rw [Zk3 (by decide)]; rfl
@[simp] theorem Z71 {α : Type} (x y : α) (xs : List α) : atI (x :: y :: xs) 1 = some y := by
  rw [Zk3 (by decide)]; rfl
@[simp] theorem Z73 {α : Type} (x y z : α) (xs : List α) : atI (x :: y :: z :: xs) 2 = some z := by
  rw [Zk3 (by decide)]; rfl
@[simp] theorem Z2h (ds : List PyData) (i : Int) : ixD (.list ds) (.int i) = atI ds i := rfl
@[simp] theorem Z46 (ds : List PyData) (i : Int) : ixD (.tuple ds) (.int i) = atI ds i := rfl
@[simp] theorem Z0l (ds : List PyData) : Zsx (.list ds) = some ds.length := rfl
@[simp] theorem Z2d (ds : List PyData) : Zsx (.tuple ds) = some ds.length := rfl
noncomputable def Zg0 (r : List Rat) : PyData := .list (r.map frD)
noncomputable def tbD (T : List (List Rat)) : PyData := .list (T.map Zg0)
noncomputable def Z2r (r : List Rat) : OT := .nd (r.map fun q => .fz (frD q))
noncomputable def tbT (T : List (List Rat)) : OT := .nd (T.map Z2r)
@[simp] theorem Zpe (r : List Rat) : (Z2r r).data = Zg0 r := by
  unfold Z2r Zg0
  rw [OT.data_nd, List.map_map]
  rfl
@[simp] theorem Z2f (T : List (List Rat)) : (tbT T).data = tbD T := by
  unfold tbT tbD
  rw [OT.data_nd, List.map_map]
  exact congrArg PyData.list (List.map_congr_left fun r _ => Zpe r)
noncomputable def Sq (n : Nat) (T : List (List Rat)) : Prop := T.length = n ∧ ∀ r ∈ T, r.length = n
noncomputable def dd (T : List (List Rat)) (i j : Nat) : Rat := (T.getD i []).getD j 0
@[simp] theorem Z3w (T : List (List Rat)) : Zsx (tbD T) = some T.length := by unfold tbD Zsx; simp
@[simp] theorem Z2z (r : List Rat) : Zsx (Zg0 r) = some r.length := by unfold Zg0 Zsx; simp
@[simp] theorem Z3o (q : Rat) : Zay (frD q) = true := by unfold frD fr; simp [Zay, Zkf]
end L2
namespace L2
open PySem PySem.Spec PyProof.Rows
end L2
namespace L2
open PySem PySem.Spec PyProof.Rows
end L2
namespace L2
open PySem PySem.Spec PyProof.Rows
end L2
namespace L2
open PySem PySem.Spec PyProof.Rows
end L2
namespace L2
open PySem PySem.Spec PyProof.Rows
end L2
namespace L2
open PySem PySem.Spec PyProof.Rows
theorem Zky {n a : Nat} (h : a < n) : ixN n (a : Int) = some a := by
  unfold ixN
  rw [if_pos (by omega), if_pos (by omega)]; simp
theorem Sq.ixN {n a : Nat} {T : List (List Rat)} (h : Sq n T) (ha : a < n) : ixN (T.map Z2r).length (a : Int) = some a := Zky (by rw [List.length_map, h.1]; exact ha)
theorem ix3 {d1 d2 d3 : PyData} {r : Int} (r0 : 0 ≤ r) (r1 : r < 3) : ∃ d, (d = d1 ∨ d = d2 ∨ d = d3) ∧ ixD (.list [d1, d2, d3]) (.int r) = some d := by
  have : r = 0 ∨ r = 1 ∨ r = 2 := by omega
  rcases this with rfl | rfl | rfl
  · exact ⟨d1, .inl rfl, rfl⟩
  · exact ⟨d2, .inr (.inl rfl), rfl⟩
  · exact ⟨d3, .inr (.inr rfl), rfl⟩
end L2
namespace L2
open PySem PySem.Spec PyProof.Rows
end L2
namespace L2
open PySem PySem.Spec PyProof.Rows
end L2
namespace L2
open PySem PySem.Spec PyProof.Rows
theorem Zk2 : ∀ (r : List Rat), Ju (r.map frD) = true
  | [] => rfl
  | q :: r => by
    show Ju (frD q :: r.map frD) = true
    rw [Ju, Zk2 r]; rfl
theorem Zkp : ∀ (T : List (List Rat)), Ju (T.map Zg0) = true
  | [] => rfl
  | r :: T => by
    show Ju (Zg0 r :: T.map Zg0) = true
    rw [Ju, Zkp T, Bool.and_true]
    unfold Zg0
    rw [W2]
    exact Zk2 r
theorem Zrp (T : List (List Rat)) : W2 (tbD T) = true := by
  unfold tbD
  rw [W2]
  exact Zkp T
theorem Zs0 {d : PyData} (h : W2 d = true) : PyData.eqv d d = true := Zyj h h rfl
end L2
namespace L2
open PySem PySem.Spec PyProof.Rows
structure Sh (n : Nat) (d : PyData) : Prop where
  lay : PyData.canLay0 d = true
  dep : PyData.depth d ≤ n
theorem Sh.shp {n : Nat} {d : PyData} (h : Sh n d) (hn : n ≤ 64 := by decide) : Z0y d := ⟨by
  show (PyData.canLay0 d && decide (PyData.depth d ≤ 64)) = true
  rw [h.lay, decide_eq_true (Nat.le_trans h.dep hn)]; rfl⟩
theorem Zju {n : Nat} : ∀ {ds : List PyData}, (∀ d ∈ ds, Sh n d) → PyData.canLayAll0 ds = true ∧ PyData.depthAll ds ≤ n
  | [], _ => ⟨by rw [PyData.canLayAll0], by rw [PyData.depthAll]; exact Nat.zero_le _⟩
  | d :: ds, h => by
    obtain ⟨h1, h2⟩ := Zju fun e m => h e (.tail _ m)
    have h3 := h d (.head _)
    refine ⟨by rw [PyData.canLayAll0, h3.lay, h1]; rfl, ?_⟩
    rw [PyData.depthAll]
    exact Nat.max_le.mpr ⟨h3.dep, h2⟩
theorem Zpk {n : Nat} {ds : List PyData} (h : ∀ d ∈ ds, Sh n d) : Sh (n + 1) (.list ds) :=
  ⟨by rw [PyData.canLay0]; exact (Zju h).1, by rw [PyData.depth]; exact Nat.succ_le_succ (Zju h).2⟩
theorem Z1o {n : Nat} {ds : List PyData} (h : ∀ d ∈ ds, Sh n d) : Sh (n + 1) (.tuple ds) :=
  ⟨by rw [PyData.canLay0]; exact (Zju h).1, by rw [PyData.depth]; exact Nat.succ_le_succ (Zju h).2⟩
theorem Z1i (i : Int) : Sh 0 (.int i) := ⟨rfl, Nat.le_of_eq rfl⟩
theorem Z4v (q : Rat) : Sh 1 (frD q) := Z1o fun d m => by
  simp at m
  rcases m with rfl | rfl <;> exact Z1i _
theorem Z1d (r : List Rat) : Sh 2 (Zg0 r) := Zpk fun d m => by
  obtain ⟨q, _, rfl⟩ := List.mem_map.mp m
  exact Z4v q
theorem Z36 (T : List (List Rat)) : Sh 3 (tbD T) := Zpk fun d m => by
  obtain ⟨q, _, rfl⟩ := List.mem_map.mp m
  exact Z1d q
end L2
namespace L2
open PySem PySem.Spec PyProof.Rows
section
variable {X : Cx} {pins : List (Addr × Obj)} {σ : St} {H : Hp} {s : Shared}
theorem Inv.turnTup {h' : Heap} {ch : List Addr} {T : Addr} {xs : List V} {its : List Value} (I : Inv X pins σ H s) (f : ∀ b ∈ ch, Zio X pins H b) (k : ∀ b o, b ∉ ch → s.heap.get? b = some o → h'.get? b = some o)
    (th : ∀ b ∈ ch, ∃ o, h'.get? b = some o) (hT : s.heap.objs.size ≤ T) (hz : xs.length ≤ sizeLine) (r : Vals xs its) (ht : IsTup h' T its.toArray) : Inv X pins σ (upd H T (.tup xs)) { s with heap := h' } := by
  have hn : H T = none := I.hok.fresh hT
  have nch : ∀ b u, H b = some u → b ∉ ch := fun b u e z => by rw [(f b z).1] at e; cases e
  have new : ObjOk X.prog X.w (upd H T (.tup xs)) h' T (.tup xs) := ⟨hz, its, r, ht⟩
  refine I.call (ch := ch) (g' := s.gens) (d' := s.drawn) (t' := s.toks) ⟨fun b o e _ _ hc => k b o hc e, fun b o e _ _ hc => ⟨o.slots, k b o hc e⟩, fun b o e n _ => ?_, fun b o e hc => ?_, fun b ys e => ?_, fun b o u e => ?_, fun b ps e => ?_⟩ (fun b u e => ?_) I.bare (fun b hb => ?_)
  · rw [Zz (fun z => by rw [z] at e; exact absurd (Heap.lt_size e) (Nat.not_lt.mpr hT))]; exact n
  · exact ⟨o, k b o hc e⟩
  · rw [Zz (Y6 e hn)]; exact e
  · rw [Zz (Y6 e hn)]; exact e
  · exact ⟨#[], by rw [Zz (Y6 e hn), e]; simp⟩
  · by_cases hb : b = T
    · subst hb; rw [Z8] at e; cases e; exact new
    · rw [Zz hb] at e
      refine (I.hok b u e).stay (fun c v hc q => k c v ?_ q) (fun c q => by rw [Zz (Y6 q hn)]; exact q) fun c ys q => by rw [Zz (Y6 q hn)]; exact q
      rcases hc with rfl | hc
      · exact nch _ _ e
      · exact nch _ _ hc
  · obtain ⟨f0, f1, f2, f3, f4, f5⟩ := f b hb
    exact ⟨f3, f1, f4, f5⟩
theorem Inv.turnAll {h' : Heap} {ch : List Addr} (I : Inv X pins σ H s) (f : ∀ b ∈ ch, Zio X pins H b) (k : ∀ b o, b ∉ ch → s.heap.get? b = some o → h'.get? b = some o) : Inv X pins σ H { s with heap := h' } := by
  have nch : ∀ b u, H b = some u → b ∉ ch := fun b u e z => by rw [(f b z).1] at e; cases e
  refine I.call (ch := ch) (g' := s.gens) (d' := s.drawn) (t' := s.toks) ⟨fun b o e _ _ hc => k b o hc e, fun b o e _ _ hc => ⟨o.slots, k b o hc e⟩, fun b o e n _ => n, fun b o e hc => ⟨o, k b o hc e⟩, fun b ys e => e, fun b o u e => e, fun b ps e => ⟨#[], by rw [e]; simp⟩⟩ (fun b u e => ?_) I.bare (fun b hb => ?_)
  · refine (I.hok b u e).stay (fun c v hc q => k c v ?_ q) (fun c q => q) fun c ys q => q
    rcases hc with rfl | hc
    · exact nch _ _ e
    · exact nch _ _ hc
  · obtain ⟨f0, f1, f2, f3, f4, f5⟩ := f b hb
    exact ⟨f3, f1, f4, f5⟩
end
end L2
namespace L2
open PySem PySem.Spec PyProof.Rows
variable {G : PySem.W.Frag}
section
variable {X : Cx} {io : List Nat} {p c : Bool} {e a b tg : Expr} {m : MEt} {mr : MAt}
theorem Rel.keptList {C : MC G} {H : Hp} {σ : St} {δ : Zh} {fp : Fp} {ex : Addr → Prop} {v : V} {ds : List PyData} (R : Rel C io H σ δ fp ex) (q : Da G H (fun a => c = true → Lf C fp ex a) v (.list ds)) :
    ∃ a xs, v = .ref a ∧ ∀ H' : Hp, (∀ b o, H b = some o → (c = false ∨ ¬ Foot fp b) → H' b = some o) → SqL G H' a xs ∧ Das G H' (fun a => c = true → (Lf C fp ex a ∧ H a ≠ none)) xs ds := by
  generalize hd : PyData.list ds = d at q
  cases q with
  | lst l e r =>
    cases hd
    rename_i a0 xs0
    refine ⟨a0, xs0, rfl, fun H' kp => ?_⟩
    obtain ⟨f1, f2⟩ := R.kept kp
    exact ⟨.inl (f1 _ (.lst _) l e).2, r.frame f1 f2⟩
  | scr k =>
    rename_i a ns
    have := PyData.list.inj hd
    subst this
    exact ⟨a, _, rfl, fun H' _ => ⟨k.sq, .ints ns⟩⟩
  | _ => cases hd
noncomputable def Zin (as bs : List PyData) : List PyData := (as.zip bs).map fun x => .tuple [x.1, x.2]
theorem Zja {as bs : List PyData} {i : Nat} {d : PyData} (h : (Zin as bs)[i]? = some d) : ∃ x y, as[i]? = some x ∧ bs[i]? = some y ∧ d = .tuple [x, y] := by
  unfold Zin at h
  rw [List.getElem?_map] at h
  cases e : (as.zip bs)[i]? with
  | none => rw [e] at h; cases h
  | some z =>
    rw [e] at h
    cases h
    obtain ⟨h1, h2⟩ := List.getElem?_zip_eq_some.mp e
    exact ⟨z.1, z.2, h1, h2, rfl⟩
theorem Zpo {as bs : List PyData} {i : Nat} (h : (Zin as bs)[i]? = none) : as.length ≤ i ∨ bs.length ≤ i := by
  unfold Zin at h
  have := List.getElem?_eq_none_iff.mp h
  simp at this
  omega
@[simp] theorem Zwv (as bs : List PyData) : (Zin as bs).length = min as.length bs.length := by simp [Zin]
end
end L2
namespace L2
open PySem PySem.Spec PyProof.Rows
variable {G : PySem.W.Frag}
section
variable {X : Cx} {io : List Nat} {c1 c2 c3 : Bool} {a b e : Expr} {ma mb mc : MEt} {pos : Pos} {f g : Int → Int → Bool}
end
section
variable {X : Cx} {io : List Nat} {p c : Bool} {a b e : Expr} {ma mb m : MEt} {pos pl : Pos}
noncomputable def Z57 (m mb : MEt) : MEt := fun δ K => m δ fun r δ1 => mb δ1 fun n _ => asI n.data fun k => (-(2 ^ 63) ≤ k ∧ k < 2 ^ 63 ∧ k.toNat ≤ sizeLine) ∧ K (.nd (List.replicate k.toNat (.fz r.data))) δ1
theorem Zl3 {α : Type} (x : α) : ∀ n : Nat, (List.replicate n [x]).flatten = List.replicate n x
  | 0 => rfl
  | n + 1 => by rw [List.replicate_succ, List.flatten_cons, Zl3 x n]; rfl
theorem Das.rep {H : Hp} {L : Addr → Prop} {v : V} {d : PyData} (h : Da G H L v d) : ∀ n : Nat, Das G H L (List.replicate n v) (List.replicate n d)
  | 0 => .nil
  | n + 1 => .cons h (Das.rep h n)
theorem Zvo (ha : ME X io p true a m) (hb : ME X io true c b mb) (hs : starEach [a] X.env = (false, eval a X.env) :: starEach [] X.env := by rfl) : ME X io p true (.BinOp (.List [a] pl) .Mult b pos) (Z57 m mb) := by
  obtain ⟨_, A, sa⟩ := ha
  obtain ⟨_, B, sb⟩ := hb
  refine ⟨_, Zxu Z1b (Zu3 (Zaw A Zd0 hs)) B, fun C H σ δ fp ex K Q R h k => ?_⟩
  refine sa C H σ δ fp ex _ _ R h fun H1 v r δ1 fp1 new r1 h1 => ⟨(by show 1 ≤ sizeLine; decide), fun l hl => ?_⟩
  have R1 := r1.base
  have s1 := Z7 hl (.lst [v])
  refine sb.pureAfter (R1.mk0 s1) h1 fun H2 w n R2 s2 q2 h2 => ?_
  obtain ⟨i, rfl, h2⟩ := q2.intInv h2
  have q := (((r1.da R).wide (L' := Lf C fp1 ex) fun a l _ => l rfl).same s1).same s2
  refine ⟨l, i, [v], rfl, rfl, s2 _ _ Z8, h2.1.1, h2.1.2.1, by show 1 * i.toNat ≤ sizeLine; rw [Nat.one_mul]; exact h2.1.2.2, fun t ht => ?_⟩
  rw [Zl3]
  have S : Stp p H δ fp H2 δ1 fp1 := by
    have := r1.stp.trans (p' := true) (Stp.same (p := true) (δ := δ1) (fp := fp1) (s1.trans s2) (s1.trans s2).al)
    rwa [Bool.and_true] at this
  refine k _ _ _ δ1 fp1 [t] (RE.tree R R2 S (Z7 ht _) (Zbk ht) (Zdw t) ?_) h2.2
  have := Own.list ht ((Das.rep q i.toNat).wide (L' := fun a => true = true → Lf C fp1 ex a) fun a l _ _ => l)
  rwa [List.map_replicate] at this
end
end L2
namespace L2
open PySem PySem.Spec PyProof.Rows
variable {G : PySem.W.Frag}
section
variable {X : Cx}
noncomputable def Zxa : List V → Hp → VK → Prop := fun vs H Q => ∃ j : Int, vs = [.int j] ∧ ∀ r, H r = none → Q (.ref r) (upd H r (.rng 0 j))
theorem Zqq : Zdm X (.type "range") Zxa := by
  intro pins s σ H vs us Q I r h
  obtain ⟨j, rfl, q⟩ := h
  obtain ⟨u, rfl, t, rfl⟩ := vals1 r
  refine call_range_1 ?_
  exact ⟨.ref s.heap.objs.size, _, I.laid (o := .rng 0 j) (fun b o e => Heap.get?_push_of_some _ e) (Nat.le_refl _) ⟨_, _, _, Heap.get?_push_size _ rfl⟩, rfl, q _ I.fresh⟩
noncomputable def Zr0 (lo : Int) (n : Nat) : List V := (List.range n).map fun (i : Nat) => V.int (lo + (i : Int))
noncomputable def Zsg : List V → Hp → VK → Prop := fun vs H Q => ∃ r lo hi, vs = [.ref r] ∧ H r = some (.rng lo hi) ∧ (-(2 ^ 62) ≤ lo ∧ lo < 2 ^ 62 ∧ -(2 ^ 62) ≤ hi ∧ hi < 2 ^ 62) ∧ (hi - lo).toNat ≤ sizeLine ∧ ∀ l, H l = none → Q (.ref l) (upd H l (.lst (Zr0 lo (hi - lo).toNat)))
theorem Zjf (lo : Int) (n : Nat) : Zr0 lo (n + 1) = .int lo :: Zr0 (lo + 1) n := by
  unfold Zr0
  rw [List.range_succ_eq_map, List.map_cons, List.map_map]
  congr 1
  · simp
  · refine List.map_congr_left fun i _ => ?_
    show V.int (lo + ((i + 1 : Nat) : Int)) = V.int (lo + 1 + (i : Int))
    congr 1
    omega
theorem Zme : ∀ (acc : List Value) (lo : Int), (∀ (i : Nat) (v : Value), acc[i]? = some v → ∃ t, v = Value.int (lo + i) t) → Vals (Zr0 lo acc.length) acc
  | [], _, _ => .nil
  | v :: acc, lo, h => by
    rw [List.length_cons, Zjf]
    obtain ⟨t, e⟩ := h 0 v rfl
    refine .cons ⟨t, by rw [e]; simp⟩ (Zme acc (lo + 1) fun i w hw => ?_)
    obtain ⟨t', e'⟩ := h (i + 1) w (by simpa using hw)
    refine ⟨t', ?_⟩
    rw [e']
    congr 1
    omega
theorem Zim (hc : X.calm = true) : Zdm X (.type "list") Zsg := by
  intro pins s σ H vs us Q I r h
  obtain ⟨a, lo, hi, rfl, e, hb, hz, q⟩ := h
  obtain ⟨u, rfl, ru⟩ := vals1 r
  cases (show u = Value.ref a from ru)
  obtain ⟨t, u', v, e1⟩ := (show ObjOk X.prog X.w H s.heap a (.rng lo hi) from I.hok a _ e)
  refine call_list_range (n := (hi - lo).toNat) (I.ok.hd hc) e1 ?_ ?_ hz fun h' tk acc c' hk hS hacc => ?_
  · exact small_one hb.1 hb.2.1 hb.2.2.1 hb.2.2.2
  · rw [rangeSize_one]; split <;> omega
  · refine ⟨.ref s.heap.objs.size, _, I.laid (o := .lst (Zr0 lo (hi - lo).toNat)) (t' := tk) hk (Nat.le_refl _) ⟨?_, acc.toList, c', ?_, by simpa using hS⟩, rfl, q _ I.fresh⟩
    · simp [Zr0]; omega
    · have := Zme acc.toList lo fun i v hv => by
        obtain ⟨t, e⟩ := hacc.2 i v (by simpa using hv)
        exact ⟨t, by rw [e, Int.mul_one]⟩
      rwa [show acc.toList.length = (hi - lo).toNat by simpa using hacc.1] at this
end
end L2
namespace L2
open PySem PySem.Spec PyProof.Rows PySem.SeqAt
variable {G : PySem.W.Frag}
theorem Zp4 (lo : Int) (n : Nat) : Zb3 lo (n + 1) = .int lo :: Zb3 (lo + 1) n := by
  unfold Zb3
  rw [List.range_succ_eq_map, List.map_cons, List.map_map]
  congr 1
  · simp
  · refine List.map_congr_left fun i _ => ?_
    show PyData.int (lo + ((i + 1 : Nat) : Int)) = PyData.int (lo + 1 + (i : Int))
    congr 1
    omega
theorem Das.rng {H : Hp} {L : Addr → Prop} : ∀ (n : Nat) (lo : Int), Das G H L (Zr0 lo n) (Zb3 lo n)
  | 0, _ => .nil
  | n + 1, lo => by
    rw [Zjf, Zp4]
    exact .cons (.int _) (Das.rng n _)
section
variable {X : Cx} {io : List Nat} {p c : Bool} {a b e : Expr} {ma mb m : MEt} {mr : MAt} {pos pos' pl pr : Pos}
noncomputable def Z6n (mr : MAt) : MEt := fun δ K => mr δ fun rs δ' => n1 (fun d => asI d fun j => (-(2 ^ 62) ≤ j ∧ j < 2 ^ 62 ∧ j.toNat ≤ sizeLine) ∧ K (.nd ((Zb3 0 j.toNat).map OT.fz)) δ') (OT.datas rs)
theorem Z0k {C : MC G} {H H1 : Hp} {σ : St} {δ δ1 : Zh} {fp fp1 : Fp} {ex : Addr → Prop} {r l : Addr} {lo hi : Int} {n : Nat} (R : Rel C io H σ δ fp ex) (R1 : Rel C io H1 σ δ1 fp1 ex) (S : Stp p H δ fp H1 δ1 fp1) (hr : H1 r = none)
    (hl : upd H1 r (.rng lo hi) l = none) : RE C io p true H σ δ fp ex (upd (upd H1 r (.rng lo hi)) l (.lst (Zr0 lo n))) (.ref l) (.nd ((Zb3 lo n).map OT.fz)) δ1 fp1 [l] := by
  have s1 := Z7 hr (.rng lo hi)
  have S' : Stp p H δ fp (upd H1 r (.rng lo hi)) δ1 fp1 := by
    have := S.trans (p' := true) (Stp.same (p := true) (δ := δ1) (fp := fp1) s1 s1.al)
    rwa [Bool.and_true] at this
  exact RE.tree R (R1.mk0 s1) S' (Z7 hl _) (Zbk hl) (Zdw l) (Own.list hl (Das.rng n lo))
theorem Zjn (hc : X.calm = true) (hgl : Gl X "list") (hml : X.mg "list" = none) (hvl : bootBuiltins "list" = some (.type "list")) (hg : Gl X "range") (hm : X.mg "range" = none) (hv : bootBuiltins "range" = some (.type "range")) (ha : MA X io p c [a] mr)
    (he : starEach [a] X.env = (false, eval a X.env) :: starEach [] X.env := by rfl) (hpl : (backTo pos' (starEach [] X.env)).any (·.1) = false := by rfl)
    (he' : starEach [.Call (.Name "range" pr) [a] [] pos'] X.env = (false, eval (.Call (.Name "range" pr) [a] [] pos') X.env) :: starEach [] X.env := by rfl) (hpl' : (backTo pos (starEach [] X.env)).any (·.1) = false := by rfl) :
    ME X io p true (.Call (.Name "list" pl) [.Call (.Name "range" pr) [a] [] pos'] [] pos) (Z6n mr) := by
  obtain ⟨_, A, s⟩ := ha
  refine ⟨_, Zdz (Zim hc) hgl hml hvl (Zaw (Zdz Zqq hg hm hv A (he := he) (hpl := hpl)) Zd0 he') (he := he') (hpl := hpl'), fun C H σ δ fp ex K Q R h kk => s C H σ δ fp ex _ _ R h fun H1 vs rs δ1 fp1 new r1 h1 => ?_⟩
  obtain ⟨v, d, rfl, e2, q, h2⟩ := (r1.das R).one h1
  obtain ⟨j, rfl, h2⟩ := q.intInv h2
  refine ⟨j, rfl, fun r hr => ⟨r, 0, j, rfl, Z8, ⟨by decide, by decide, h2.1.1, h2.1.2.1⟩, by rw [Int.sub_zero]; exact h2.1.2.2, fun l hl => ?_⟩⟩
  rw [Int.sub_zero]
  exact kk _ _ _ δ1 fp1 [l] (Z0k R r1.base r1.stp hr hl) h2.2
end
theorem Ziz : ∀ {ns : List Int} {its : List Value}, Vals (ns.map V.int) its → IntsAre its ns
  | [], _, .nil => .nil
  | n :: ns, _, .cons r rs => by
    obtain ⟨t, e⟩ := (show ∃ t, _ = Value.int n t from r)
    rw [e]
    exact .cons n t (Ziz rs)
section
variable {X : Cx} {io : List Nat} {p c : Bool} {a b e : Expr} {ma mb m : MEt} {mr : MAt} {pos pos' pl pr : Pos}
noncomputable def Z13 (K : PySem.W.Frag) : V → List V → Hp → VK → Prop := fun x vs H Q => ∃ (l : Addr) (ns : List Int) (k : Int), x = .ref l ∧ vs = [.int k] ∧ SqL K H l (ns.map V.int) ∧ ns.length ≤ 2 ^ 20 ∧ k ∈ ns ∧ Q (.int (ns.idxOf k : Nat)) H
theorem Zsv {K : PySem.W.Frag} (hK : X.K = K) : MtR X "list.index" (Z13 K) := by
  subst hK
  intro pins s σ H x vs v us Q I rx rv h
  obtain ⟨l, ns, k, rfl, rfl, hs, hb, hk, q⟩ := h
  cases rx
  obtain ⟨u, rfl, t, rfl⟩ := vals1 rv
  obtain ⟨its, rw', pl, hz⟩ := I.list hs
  have hi := Ziz rw'
  obtain ⟨⟨cls, dd, data, sl⟩, ho, hc, n, hd⟩ := id pl.isList
  simp only at hc hd
  subst hc hd
  have hlen := hi.length
  have hj : ns.idxOf k < ns.length := List.idxOf_lt_length_iff.mpr hk
  refine call_meets PySem.F.slot_list_index ⟨_, ho, rfl⟩ PySem.F.entry_list_index (PySem.F.args_list_index_2 _ _)
    (list_indexAt l its.toArray n dd sl (.int k t) (isInt k) (ns.idxOf k) (by simpa [hlen] using hj) (by omega) ?_ ?_) ⟨ho, fun y hy => (eq_isInt k t hi y (by simpa using hy)).at _ _, ⟨.int (ns.idxOf k : Nat), H, I.kept (h' := s.heap) (fun b o e => e), ⟨_, rfl⟩, q⟩⟩
  · show isInt k its[ns.idxOf k] = true
    rw [isInt_at k hi _ (by omega) hj]
    simpa using List.getElem_idxOf hj
  · intro j hjs hlt
    show isInt k its[j] = false
    rw [isInt_at k hi j (by simpa using hjs) (by omega)]
    exact ne_of_lt_idxOf hlt _
noncomputable def Zu1 (m mb : MEt) : MEt := fun δ K => m δ fun r δ1 => ∃ ns : List Int, r.data = .list (ns.map PyData.int) ∧ ns.length ≤ 2 ^ 20 ∧ mb δ1 fun n δ2 => asI n.data fun k => k ∈ ns ∧ K (.fz (.int (ns.idxOf k : Nat))) δ2
theorem Zwu {o : Expr} {apos cpos : Pos} (ho : ME X io true true o m) (he : ME X io true c e mb)
    (hbase : attributeBase o "index" X.env (eval o X.env) = eval o X.env := by rfl)
    (hfew : ((backTo cpos (starEach [e] X.env)).all (fun x => !x.1) && (backToKw cpos (keywordEach [] X.env)).all (fun x => x.1.isSome)
      && decide ([e].length + ([] : List Keyword).length + (if ([] : List Keyword).isEmpty then 0 else 1) < 30)) = true := by rfl)
    (hline : (apos.endLine == cpos.line) = true := by rfl) (hs : starEach [e] X.env = (false, eval e X.env) :: starEach [] X.env := by rfl) (hplain : (backTo cpos (starEach [] X.env)).any (·.1) = false := by rfl) :
    ME X io true true (.Call (.Attribute o "index" apos) [e] [] cpos) (Zu1 m mb) := by
  obtain ⟨_, A, sa⟩ := ho
  obtain ⟨_, B, sb⟩ := he
  refine ⟨_, Zto PySem.F.plainAttrs_list PySem.F.slot_list_index PySem.F.type_list_index (Zsv rfl) A (Zaw B Zd0 hs) hbase hfew hline hs hplain, fun C H σ δ fp ex K Q R h kk => ?_⟩
  refine sa.pureAfter R h fun H1 v r R1 s1 q1 h1 => ?_
  obtain ⟨ns, e1, hb, h1⟩ := h1
  rw [e1] at q1
  obtain ⟨a, rfl, hsq⟩ := q1.ints_sq
  refine ⟨.inl ⟨rfl, _, hsq⟩, ?_⟩
  refine sb.pureAfter R1 h1 fun H2 w n R2 s2 q2 h2 => ?_
  obtain ⟨k, e2, h2⟩ := q2.intInv h2
  subst e2
  obtain ⟨a', ea, hs'⟩ := (q1.same s2).ints_sq
  cases ea
  have s12 : Same H H2 := s1.trans s2
  exact ⟨a, ns, k, rfl, rfl, hs', hb, h2.1, kk H2 _ _ δ fp [] (.fz R2 (.same s12 s12.al) (.int _)) h2.2⟩
noncomputable def Z2i (i : Nat) (m : MEt) : MEt := fun δ K => match δ[i]? with
  | some (some (.nd _)) => m δ fun n δ1 => match δ1[i]? with
    | some (some (.nd ts)) => asI n.data fun j => match ixN ts.length j with
      | some k => match ts[k]? with
        | some (.fz d) => ts.length ≤ sizeLine ∧ K (.fz d) (δ1.set i (some (.nd (ts.eraseIdx k))))
        | _ => False
      | none => False
    | _ => False
  | _ => False
theorem Owns.erase {H : Hp} {L : Addr → Prop} : ∀ {xs : List V} {ts : List OT} {as : List Addr} {k : Nat} {d : PyData}, Owns G H L xs ts as → ts[k]? = Option.some (.fz d) → Owns G H L (xs.eraseIdx k) (ts.eraseIdx k) as
  | _, _, _, _, _, .nil, e => by simp at e
  | _, _, _, 0, d, .cons q r, e => by
    simp at e
    subst e
    cases q
    exact r
  | _, _, _, k + 1, d, .cons q r, e => .cons q (Owns.erase (k := k) r (by simpa using e))
theorem Zwg {x : Str} {px : Pos} {apos cpos : Pos} (i : Nat) (he : ME X io p c e m) (hN : X.N[i]? = some x := by rfl) (hv : Vis X.env.scope x := by first | exact Or.inl rfl | exact Or.inr (Or.inl rfl) | exact Or.inr (Or.inr rfl)) (hd : (x == ("__debug__" : Str)) = false := by decide)
    (hcd : (x == ("__classdict__" : Str)) = false := by decide)
    (hbase : attributeBase (.Name x px) "pop" X.env (eval (.Name x px) X.env) = eval (.Name x px) X.env := by rfl)
    (hfew : ((backTo cpos (starEach [e] X.env)).all (fun x => !x.1) && (backToKw cpos (keywordEach [] X.env)).all (fun x => x.1.isSome)
      && decide ([e].length + ([] : List Keyword).length + (if ([] : List Keyword).isEmpty then 0 else 1) < 30)) = true := by rfl)
    (hline : (apos.endLine == cpos.line) = true := by rfl) (hs : starEach [e] X.env = (false, eval e X.env) :: starEach [] X.env := by rfl) (hplain : (backTo cpos (starEach [] X.env)).any (·.1) = false := by rfl) :
    ME X io false true (.Call (.Attribute (.Name x px) "pop" apos) [e] [] cpos) (Z2i i m) := by
  obtain ⟨_, A, s⟩ := he
  refine ⟨_, Zto PySem.F.plainAttrs_list PySem.F.slot_list_pop PySem.F.type_list_pop Zth (pv i hN hv hd hcd) (Zaw A Zd0 hs) hbase hfew hline hs hplain, fun C H σ δ fp ex K Q R h kk => ?_⟩
  unfold Z2i at h
  split at h
  case h_2 => exact h.elim
  rename_i ts0 hi0
  obtain ⟨a', xs0, bs0, hv0, hx0, _, _⟩ := R.ownNd hi0
  refine ⟨_, hv0, .inl ⟨rfl, xs0, .inl (.inl hx0)⟩, ?_⟩
  refine s C H σ δ fp ex _ _ R h fun H1 v r δ1 fp1 new r1 h1 => ?_
  split at h1
  case h_2 => exact h1.elim
  rename_i ts1 hi1
  obtain ⟨j, rfl, h1⟩ := (r1.da R).intInv h1
  split at h1
  case h_2 => exact h1.elim
  rename_i k hk
  split at h1
  case h_2 => exact h1.elim
  rename_i d hd1
  have R1 := r1.base
  obtain ⟨a1, xs1, bs1, hv1, hx1, o1, hf1⟩ := R1.ownNd hi1
  rw [hv0] at hv1
  cases hv1
  obtain ⟨y, cs, hy, oy, _⟩ := o1.get hd1
  have qy : Da X.K H1 (Lf C fp1 ex) y d := by cases oy; assumption
  obtain ⟨z1, z2, z3, z4⟩ := Zlb hk
  have hz := h1.1
  have hsz : sizeLine = 16777216 := sizeLine_eq
  refine ⟨a', xs1, j, k, y, rfl, rfl, hx1, by omega, by omega, by rw [o1.length]; exact z1, hy, ?_⟩
  obtain ⟨R2, S2⟩ := R1.top hi1 hv0 hf1 hx1 (o1.erase hd1) (List.Sublist.refl _)
  have S := (r1.stp.trans S2).cast (p' := false) fun z => nomatch z
  refine kk _ _ _ _ _ [] (.fz R2 S ?_) h1.2
  have ne' : ∀ a, ¬ Foot fp1 a → a ≠ a' := fun a h z => h ⟨i, by rw [z, hf1]; exact .head _⟩
  have f0 : ∀ a, ¬ Foot fp1 a → ¬ Foot (fpu fp1 i (a' :: bs1)) a := fun a h z => by
    rcases z.of_u with z | ⟨j, _, z⟩
    · exact h ⟨i, by rw [hf1]; exact z⟩
    · exact h ⟨j, z⟩
  refine qy.frame (fun a zs l q => ⟨fun _ => ⟨f0 a l.1, l.2.1, l.2.2⟩, ?_⟩) fun a zs q => ?_
  · rcases q with q | ⟨u, q⟩
    · exact .inl (by rw [Zz (ne' a l.1)]; exact q)
    · exact .inr ⟨u, by rw [Zz (ne' a l.1)]; exact q⟩
  · rw [Zz]
    · exact q
    · intro z
      exact ImO.nl q (z ▸ hx1)
end
end L2
namespace L2
open PySem PySem.Spec PyProof.Rows
section
variable {X : Cx} {io : List Nat} {p p' c : Bool} {a b e : Expr} {ma mb m : MEt} {pos p2 : Pos}
end
end L2
namespace L2
open PySem PySem.Spec PyProof.Rows
structure Apart (X : Cx) (pins : List (Addr × Obj)) (H : Hp) (b : Addr) : Prop where
  fr : H b = none
  new : X.s₀.heap.get? b = none
  loc : b ≠ X.env.locals
  cel : ∀ x c, X.env.cells.lookup x = some c → c ≠ b
  pin : ∀ p ∈ X.pn ++ pins, p.1 ≠ b
section
variable {X : Cx} {pins : List (Addr × Obj)} {σ : St} {H H' : Hp} {s : Shared} {h' : Heap} {b a C : Addr}
noncomputable def Fl (ap : Addr → Prop) (C a : Addr) (fl : Value) (h : Heap) : Prop := ∃ a0 oe vs T oT ts, h.get? a = some oe ∧ (oe.cls = .ref C ∧ vs[0]? = some a0) ∧ oe.data = .fields vs ∧ vs[1]? = some (.ref T) ∧ T ≠ a ∧ h.get? T = some oT ∧ oT.data = .fields ts ∧ ts[3]? = some fl ∧ ap a ∧ ap T
noncomputable def Fl0 (ap : Addr → Prop) (C a : Addr) (h : Heap) : Prop := ∃ a0 oe vs, h.get? a = some oe ∧ (oe.cls = .ref C ∧ vs[0]? = some a0) ∧ oe.data = .fields vs ∧ vs[1]? = some .none ∧ ap a
noncomputable def FlA (ap : Addr → Prop) (fl : Value) (C a : Addr) (h : Heap) : Prop := Fl ap C a .none h ∨ Fl0 ap C a h ∨ Fl ap C a fl h
section
variable {M : Model} {A : Around} {E : Value → Shared → Prop} {Q : Unit → Shared → Prop} {ch : List Addr}
end
end
end L2
namespace L2
open PySem PySem.Spec PyProof.Rows
noncomputable abbrev MXt := Zh → (Addr → Zh → Prop) → Prop
noncomputable def XW (X : Cx) (C : MC X.K) (io : List Nat) (pins : List (Addr × Obj)) (ex : Addr → Prop) (H : Hp) (fp : Fp) (k : Addr → Zh → Prop) (e : Value) (s' : Shared) : Prop :=
  ∃ a cl σ' H' δ' fp', e = .ref a ∧ Inv X pins σ' H' s' ∧ FlA (Apart X pins H') (rawInt X.env.locals) cl a s'.heap ∧ Rel C io H' σ' δ' fp' ex ∧ Kp H fp H' fp' ∧ k cl δ'
noncomputable def XS (X : Cx) (io : List Nat) (st : Stmt) (m : MXt) : Prop := ∀ (C : MC X.K) (pins : List (Addr × Obj)) (s : Shared) (σ : St) (H : Hp) (δ : Zh) (fp : Fp) (ex : Addr → Prop) (k : Addr → Zh → Prop), Inv X pins σ H s → Rel C io H σ δ fp ex → m δ k →
  wpAny (model X.prog X.w) X.A (exec st X.env) (fun _ _ => False) (XW X C io pins ex H fp k) s
noncomputable def XSs (X : Cx) (io : List Nat) (sts : List Stmt) (m : MXt) : Prop := ∀ (C : MC X.K) (pins : List (Addr × Obj)) (s : Shared) (σ : St) (H : Hp) (δ : Zh) (fp : Fp) (ex : Addr → Prop) (k : Addr → Zh → Prop), Inv X pins σ H s → Rel C io H σ δ fp ex → m δ k →
  wpAny (model X.prog X.w) X.A (execs sts X.env) (fun _ _ => False) (XW X C io pins ex H fp k) s
section
variable {X : Cx} {io : List Nat} {p c : Bool} {e : Expr} {es : List Expr} {mr : MAt} {m : MXt} {pos : Pos} {st : Stmt} {sts a b : List Stmt} {u : MSt} {w v : MXt} {mt : MTt} {i : Nat} {x : Str}
end
end L2
namespace L2
open PySem PySem.Spec PyProof.Rows
section
variable {P : Program} {w : World} {K : PySem.W.Frag} {mg : Str → Option Value} {base : Heap}
end
section
variable {X : Cx} {io : List Nat} {p c : Bool} {e : Expr} {es : List Expr} {mr : MAt} {pos pp : Pos} {k : Nat} {f : Addr} {fd : FuncData} {ps : List Str} {x : Str}
end
section
variable {X : Cx} {pins : List (Addr × Obj)} {σ : St} {H : Hp} {s : Shared} {a C : Addr}
noncomputable abbrev Cx.suite (X : Cx) (a : Addr) : Cx := { X with A := X.A.mark (some (.ref a)), calm := false }
end
end L2
namespace L2
open PySem PySem.Spec PyProof.Rows
section
variable {X : Cx} {io : List Nat} {i : Nat} {n y : Str} {Dc : Addr} {b₀ : Stmt} {body suite : List Stmt} {pos hpos np : Pos} {u h : MSt} {x : MXt}
end
end L2
namespace L2
open PySem PySem.Spec PyProof.Rows
theorem Zui (b : Bool) (k : Bool → Prop) : asB (.bool b) k = k b := rfl
inductive Z3k : V → Value → Prop where
  | own (D : Addr) : Z3k (.ref D) (.ref D)
  | ty (T : String) : Z3k (.ty T) (.type T)
inductive ClsVs : List V → List Value → Prop where
  | nil : ClsVs [] []
  | cons {v : V} {c : Value} {vs : List V} {cs : List Value} : Z3k v c → ClsVs vs cs → ClsVs (v :: vs) (c :: cs)
theorem ClsVs.length : ∀ {vs : List V} {cs : List Value}, ClsVs vs cs → vs.length = cs.length
  | _, _, .nil => rfl
  | _, _, .cons _ t => by simp [t.length]
section
variable {X : Cx} {io : List Nat} {p c : Bool} {a b : Expr} {ma : MEt} {pos pp p2 : Pos}
end
end L2
namespace L2
open PySem PySem.Spec PyProof.Rows PySem.P
section
variable {prog : Program} {w : World} {A : Around} {E : Value → Shared → Prop} {s : Shared} {e t0 C : Addr} {o : Obj} {vs : Array Value} {K : PySem.W.Frag} {m : Str} {tk : Tok}
structure Z7x (s : Shared) (e C t0 : Addr) (m : Str) (tk : Tok) : Prop where
  ob : ∃ o vs, s.heap.get? e = some o ∧ o.cls = .ref C ∧ o.data = .fields vs ∧ vs[0]? = some (.ref t0)
  tx : s.heap.TupAt t0 [.str m tk]
end
section
variable {X : Cx} {C : Addr} {x j : Str} {jk : Nat} {np cpos pos kp p1 : Pos}
end
end L2
namespace L2
open PySem PySem.Spec PyProof.Rows
variable {G : PySem.W.Frag}
section
variable {X : Cx} {io : List Nat} {p c : Bool} {e : Expr} {m : MEt} {pos apos cpos px : Pos} {i : Nat} {x : Str}
end
end L2
namespace L2
open PySem PySem.Spec PyProof.Rows
variable {G : PySem.W.Frag}
section
variable {X : Cx} {io : List Nat} {e : Expr} {pos apos cpos px pt pl p2 : Pos} {i j : Nat} {x y : Str}
end
section
variable {X : Cx} {io : List Nat} {e : Expr} {i : Nat} {y : Str}
end
end L2
namespace L2
open PySem PySem.Spec PyProof.Rows
section
variable {X : Cx} {pins : List (Addr × Obj)} {σ : St} {H : Hp} {s : Shared} {M : Model} {A : Around} {E : Value → Shared → Prop} {Q : Unit → Shared → Prop} {C a L : Addr} {fl : Value}
end
end L2
namespace L2
open PySem PySem.Spec PyProof.Rows
section
variable {X : Cx} {io : List Nat} {p : Bool} {tg iter : Expr} {body : List Stmt} {mi : MIt} {g : MGt} {u : MSt} {x : MXt} {pos : Pos}
end
end L2
namespace L2
open PySem PySem.Spec PyProof.Rows
noncomputable abbrev FE := Zh → Option (OT × Zh)
noncomputable abbrev FA := Zh → Option (List OT × Zh)
noncomputable abbrev FT := Zh → Option (Bool × Zh)
noncomputable abbrev FI := Zh → Option (List PyData × Zh)
noncomputable abbrev FO := Zh → Option (Option Int × Zh)
noncomputable abbrev FG := PyData → Zh → Option Zh
noncomputable abbrev FGs := List PyData → Zh → Option Zh
noncomputable def o2 {α : Type} (f : Zh → Option (α × Zh)) : Zh → (α → Zh → Prop) → Prop := fun δ K => ∃ r δ', f δ = some (r, δ') ∧ K r δ'
noncomputable def oG (g : FG) : MGt := fun d δ k => ∃ δ', g d δ = some δ' ∧ k δ'
noncomputable def oGs (g : FGs) : Zrj := fun d δ k => ∃ δ', g d δ = some δ' ∧ k δ'
section
variable {X : Cx} {io : List Nat} {p c : Bool} {e tg : Expr} {es : List Expr} {m m' : MEt} {mr mr' : MAt} {mt mt' : MTt} {mi mi' : MIt} {g g' : MGt} {gs gs' : Zrj} {mo mo' : MOt} {st : Stmt} {sts : List Stmt} {u u' : MSt} {eo : Option Expr}
theorem ME.weak (h : ME X io p c e m) (w : ∀ δ K, m' δ K → m δ K) : ME X io p c e m' := let ⟨t, A, s⟩ := h; ⟨t, A, fun C H σ δ fp ex K Q R h k => s C H σ δ fp ex K Q R (w δ K h) k⟩
theorem MA.weak (h : MA X io p c es mr) (w : ∀ δ K, mr' δ K → mr δ K) : MA X io p c es mr' := let ⟨t, A, s⟩ := h; ⟨t, A, fun C H σ δ fp ex K Q R h k => s C H σ δ fp ex K Q R (w δ K h) k⟩
theorem MT.weak (h : MT X io p e mt) (w : ∀ δ K, mt' δ K → mt δ K) : MT X io p e mt' := let ⟨t, A, s⟩ := h; ⟨t, A, fun C H σ δ fp ex K Q R h k => s C H σ δ fp ex K Q R (w δ K h) k⟩
theorem MW.weak (h : MW X io p e mt) (w : ∀ δ K, mt' δ K → mt δ K) : MW X io p e mt' := let ⟨t, A, s⟩ := h; ⟨t, A, fun C H σ δ fp ex K Q R h k => s C H σ δ fp ex K Q R (w δ K h) k⟩
theorem MIfs.weak (h : MIfs X io p es mt) (w : ∀ δ K, mt' δ K → mt δ K) : MIfs X io p es mt' := let ⟨t, A, s⟩ := h; ⟨t, A, fun C H σ δ fp ex K Q R h k => s C H σ δ fp ex K Q R (w δ K h) k⟩
theorem MI.weak (h : MI X io p c tg e mi) (w : ∀ δ K, mi' δ K → mi δ K) : MI X io p c tg e mi' := let ⟨t, A, s⟩ := h; ⟨t, A, fun C H σ δ fp ex K Q R h k => s C H σ δ fp ex K Q R (w δ K h) k⟩
theorem MO.weak (h : MO X io p eo mo) (w : ∀ δ K, mo' δ K → mo δ K) : MO X io p eo mo' := let ⟨t, A, s⟩ := h; ⟨t, A, fun C H σ δ fp ex K Q R h k => s C H σ δ fp ex K Q R (w δ K h) k⟩
theorem MG.weak (h : MG X io c tg g) (w : ∀ d δ K, g' d δ K → g d δ K) : MG X io c tg g' := let ⟨t, A, s⟩ := h; ⟨t, A, fun C H σ δ fp ex v d k Q R q h kk => s C H σ δ fp ex v d k Q R q (w d δ k h) kk⟩
theorem MGs.weak (h : MGs X io c es gs) (w : ∀ d δ K, gs' d δ K → gs d δ K) : MGs X io c es gs' := let ⟨t, A, s⟩ := h; ⟨t, A, fun C H σ δ fp ex v d k Q R q h kk => s C H σ δ fp ex v d k Q R q (w d δ k h) kk⟩
theorem MS.weak (h : MS X io st u) (w : ∀ D δ, u' D δ → u D δ) : MS X io st u' := let ⟨t, A, s⟩ := h; ⟨t, A, fun C H σ δ fp ex D D' R h E => s C H σ δ fp ex D D' R (w D δ h) E⟩
theorem MSs.weak (h : MSs X io sts u) (w : ∀ D δ, u' D δ → u D δ) : MSs X io sts u' := let ⟨t, A, s⟩ := h; ⟨t, A, fun C H σ δ fp ex D D' R h E => s C H σ δ fp ex D D' R (w D δ h) E⟩
end
noncomputable def Zd (i : Nat) : FE := fun δ => match δ[i]? with | some (some (.fz d)) => some (.fz d, δ) | _ => none
noncomputable def Jz (i : Nat) : FE := fun δ => match δ[i]? with | some (some t) => some (.fz t.data, δ) | _ => none
noncomputable def fC (d : PyData) : FE := fun δ => some (.fz d, δ)
noncomputable def Zf (g : PyData → PyData → Option PyData) (a b : FE) : FE := fun δ => (a δ).bind fun p => (b p.2).bind fun q => (g p.1.data q.1.data).bind fun d => some (.fz d, q.2)
noncomputable def Yd (g : PyData → PyData → Option OT) (a b : FE) : FE := fun δ => (a δ).bind fun p => (b p.2).bind fun q => (g p.1.data q.1.data).bind fun d => some (d, q.2)
noncomputable def fUn (g : PyData → Option PyData) (a : FE) : FE := fun δ => (a δ).bind fun p => (g p.1.data).bind fun d => some (.fz d, p.2)
noncomputable def Zty (a b : FE) : FE := fun δ => (a δ).bind fun p => match p.1.data with | .bool true => b p.2 | .bool false => some (.fz (.bool false), p.2) | _ => none
noncomputable def fOr (a b : FE) : FE := fun δ => (a δ).bind fun p => match p.1.data with | .bool true => some (.fz (.bool true), p.2) | .bool false => b p.2 | _ => none
noncomputable def fIf (t : FT) (a b : FE) : FE := fun δ => (t δ).bind fun p => if p.1 = true then a p.2 else b p.2
noncomputable def tV (e : FE) : FT := fun δ => (e δ).bind fun p => match p.1 with | .fz (.bool b) => some (b, p.2) | _ => none
noncomputable def tNo (t : FT) : FT := fun δ => (t δ).bind fun p => some (!p.1, p.2)
noncomputable def tAn (t u : FT) : FT := fun δ => (t δ).bind fun p => if p.1 = true then u p.2 else some (false, p.2)
noncomputable def tO (t u : FT) : FT := fun δ => (t δ).bind fun p => if p.1 = true then some (true, p.2) else u p.2
noncomputable def tD (e : FE) : FT := fun δ => (e δ).bind fun p => (Zsu p.1.data).bind fun b => some (b, p.2)
noncomputable def Zm : FA := fun δ => some ([], δ)
noncomputable def Zb (e : FE) (a : FA) : FA := fun δ => (e δ).bind fun p => (a p.2).bind fun q => some (p.1 :: q.1, q.2)
noncomputable def Zn6 (a : FA) : FE := fun δ => (a δ).bind fun p => if p.1.length ≤ sizeLine then some (.fz (.tuple (OT.datas p.1)), p.2) else none
noncomputable def Zbe (a : FA) : FE := fun δ => (a δ).bind fun p => if p.1.length ≤ sizeLine then some (.nd p.1, p.2) else none
noncomputable def Zpv (e : FE) : FE := fun δ => (e δ).bind fun p => if Zay p.1.data = true then some (.fz p.1.data, p.2) else none
noncomputable def Z2w (e : FE) : FE := fun δ => (e δ).bind fun p => some (.fz p.1.data, p.2)
noncomputable def Zhj (e : FE) : FE := fun δ => (e δ).bind fun p => if Zed p.1 = true then some (p.1, p.2) else none
inductive RF where
  | ok (r : OT)
  | exn (c : Str)
  | bad
noncomputable abbrev FD := List PyData → RF
noncomputable abbrev FIO := OT → List PyData → Option (OT × OT)
noncomputable def Zt (F : FD) (a : FA) : FE := fun δ => (a δ).bind fun p => match F (OT.datas p.1) with | .ok r => some (r, p.2) | _ => none
noncomputable def Zu2 (i : Nat) (F : FIO) (a : FA) : FE := fun δ => match δ[i]? with
  | some (some _) => (a δ).bind fun p => match p.2[i]? with
    | some (some t) => (F t (OT.datas p.1)).bind fun q => some (q.1, p.2.set i (some q.2))
    | _ => none
  | _ => none
noncomputable def Zau (g : List PyData → Option PyData) (a : FA) : FE := fun δ => (a δ).bind fun p => (g (OT.datas p.1)).bind fun d => some (.fz d, p.2)
noncomputable def fBl (g : List PyData → Option OT) (a : FA) : FE := fun δ => (a δ).bind fun p => (g (OT.datas p.1)).bind fun d => some (d, p.2)
noncomputable def Zli (T : String) (e : FE) : FE := fun δ => (e δ).bind fun p => if Zgi p.1.data = true then none else some (.fz (.bool (Zmq T p.1.data)), p.2)
noncomputable def oN : FO := fun δ => some (none, δ)
noncomputable def oI (e : FE) : FO := fun δ => (e δ).bind fun p => match p.1.data with | .int i => some (some i, p.2) | _ => none
noncomputable def fSl (e : FE) (lo hi : FO) : FE := fun δ => (e δ).bind fun p => (lo p.2).bind fun q => (hi q.2).bind fun r => match p.1.data with | .list ds => some (.nd ((cutD ds q.1 r.1).map OT.fz), r.2) | _ => none
noncomputable def Zfi (e : FE) : FI := fun δ => (e δ).bind fun p => match p.1.data with | .list ds => some (ds, p.2) | _ => none
noncomputable def iTp (e : FE) : FI := fun δ => (e δ).bind fun p => match p.1.data with | .tuple ds => some (ds, p.2) | _ => none
noncomputable def rOk (j : Int) : Bool := decide (-(2 ^ 62) ≤ j) && decide (j < 2 ^ 62)
theorem Zcl {j : Int} (h : rOk j = true) : -(2 ^ 62) ≤ j ∧ j < 2 ^ 62 := by
  unfold rOk at h
  rw [Bool.and_eq_true] at h
  exact ⟨of_decide_eq_true h.1, of_decide_eq_true h.2⟩
theorem Zfu {j : Int} (h0 : -1000000 ≤ j) (h1 : j ≤ 1000000) : rOk j = true := by
  unfold rOk
  rw [decide_eq_true (show -(2 ^ 62) ≤ j by omega), decide_eq_true (show j < 2 ^ 62 by omega)]; rfl
noncomputable def iRa (a : FA) : FI := fun δ => (a δ).bind fun p => match OT.datas p.1 with | [.int j] => if rOk j = true then some (Zb3 0 j.toNat, p.2) else none | _ => none
noncomputable def iRb (a : FA) : FI := fun δ => (a δ).bind fun p => match OT.datas p.1 with | [.int i, .int j] => if (rOk i && rOk j) = true then some (Zb3 i (j - i).toNat, p.2) else none | _ => none
noncomputable def Z1v (a : FA) : FI := fun δ => (a δ).bind fun p => match OT.datas p.1 with | [.list as, .list bs] => some (Zin as bs, p.2) | _ => none
noncomputable def gNm (i : Nat) : FG := fun d δ => some (δ.set i (some (.fz d)))
noncomputable def Z8a (i : Nat) : FG := fun d δ => if Zay d = true then some (δ.set i (some (.fz d))) else none
noncomputable def gNl : FGs := fun ds δ => match ds with | [] => some δ | _ => none
noncomputable def gCn (g : FG) (gs : FGs) : FGs := fun ds δ => match ds with | d :: r => (g d δ).bind (gs r) | [] => none
noncomputable def gTp (n : Nat) (gs : FGs) : FG := fun d δ => match d with | .tuple ds => if ds.length = n then gs ds δ else none | _ => none
noncomputable def gLs (n : Nat) (gs : FGs) : FG := fun d δ => match d with | .list ds => if ds.length = n then gs ds δ else none | _ => none
noncomputable def compLoop (g : FG) (t : FT) (e : FE) : List PyData → Zh → Option (List OT × Zh)
  | [], δ => some ([], δ)
  | d :: ds, δ => (g d δ).bind fun δ1 => (t δ1).bind fun p => if p.1 = true then (e p.2).bind fun q => (compLoop g t e ds q.2).bind fun z => some (q.1 :: z.1, z.2) else compLoop g t e ds p.2
noncomputable def Y7 (n : Nat) (caps : List Nat) (it : FI) (g : FG) (t : FT) (e : FE) : FE := fun δ => (it δ).bind fun p => if p.1.length ≤ sizeLine then (compLoop g t e p.1 (blk n caps p.2)).bind fun z => some (.nd z.1, p.2) else none
noncomputable def Zet : FT := fun δ => some (true, δ)
inductive RS where
  | nx (δ : Zh)
  | rt (r : OT) (δ : Zh)
  | bk (δ : Zh)
  | ct (δ : Zh)
  | ex (c : Str) (δ : Zh)
  | bad
noncomputable abbrev FS := Zh → RS
noncomputable def RS.fits (D : Zg1) : RS → Prop
  | .nx δ => D.nx δ
  | .rt r δ => D.rt r δ
  | .bk δ => D.bk δ
  | .ct δ => D.ct δ
  | _ => False
noncomputable def oS (f : FS) : MSt := fun D δ => (f δ).fits D
noncomputable def xS (K : PySem.W.Frag) (f : FS) : MXt := fun δ k => ∃ c C δ', f δ = .ex c δ' ∧ ClsAt K c C ∧ k C δ'
noncomputable def Zu (f g : FS) : FS := fun δ => match f δ with | .nx δ' => g δ' | r => r
noncomputable def fNx : FS := fun δ => .nx δ
noncomputable def Z8s : FS := fun δ => .bk δ
noncomputable def Z85 : FS := fun δ => .ct δ
noncomputable def wE (e : FE) (k : OT → Zh → RS) : FS := fun δ => match e δ with | some (r, δ') => k r δ' | none => .bad
noncomputable def wX (F : FD) (a : FA) (k : OT → Zh → RS) : FS := fun δ => match a δ with
  | some (rs, δ1) => match F (OT.datas rs) with
    | .ok r => k r δ1
    | .exn c => .ex c δ1
    | .bad => .bad
  | none => .bad
noncomputable def Z4a : OT → Zh → RS := fun _ δ => .nx δ
noncomputable def Jj : OT → Zh → RS := fun r δ => .rt r δ
noncomputable def Z5f : OT → Zh → RS := fun r δ => if Zay r.data = true then .rt (.fz r.data) δ else .bad
noncomputable def Yh (i : Nat) : OT → Zh → RS := fun r δ => .nx (δ.set i (some (.fz r.data)))
noncomputable def Z3q (i : Nat) : OT → Zh → RS := fun r δ => if Zay r.data = true then .nx (δ.set i (some (.fz r.data))) else .bad
noncomputable def Ja (i : Nat) : OT → Zh → RS := fun r δ => .nx (δ.set i (some r))
noncomputable def Z75 (g : FG) : OT → Zh → RS := fun r δ => match g r.data δ with | some δ' => .nx δ' | none => .bad
noncomputable def Z3l : FS := fun δ => .rt (.fz .none) δ
noncomputable def J9 (i : Nat) : FS := fun δ => match δ[i]? with | some (some t) => .rt t (δ.set i none) | _ => .bad
noncomputable def Ww (t : FT) (u w : FS) : FS := fun δ => match t δ with | some (b, δ') => if b = true then u δ' else w δ' | none => .bad
noncomputable def Zuj (c : Str) : FS := fun δ => .ex c δ
noncomputable def Wl (i : Nat) (e : FE) : FS := fun δ => match δ[i]? with
  | some (some (.nd _)) => wE e (fun r δ1 => match δ1[i]? with
    | some (some (.nd ts)) => if ts.length < sizeLine then .nx (δ1.set i (some (.nd (ts ++ [.fz r.data])))) else .bad
    | _ => .bad) δ
  | _ => .bad
noncomputable def Zm5 (i : Nat) (e : FE) : FS := fun δ => match δ[i]? with
  | some (some (.nd _)) => wE e (fun r δ1 => match δ1[i]? with
    | some (some (.nd ts)) => if ts.length < sizeLine then .nx (δ1.set i (some (.nd (ts ++ [r])))) else .bad
    | _ => .bad) δ
  | _ => .bad
noncomputable def Z55 (i : Nat) (e j : FE) : FS := wE e fun r δ1 => match δ1[i]? with
  | some (some (.nd ts)) => wE j (fun n _ => match n.data with
    | .int k => match ixN ts.length k with
      | some j => .nx (δ1.set i (some (.nd (ts.set j (.fz r.data)))))
      | none => .bad
    | _ => .bad) δ1
  | _ => .bad
noncomputable def Zgt (i : Nat) (e j j2 : FE) : FS := wE e fun r δ1 => match δ1[i]? with
  | some (some (.nd ts)) => wE j (fun n _ => match n.data with
    | .int k => match ixN ts.length k with
      | some j => match ts[j]? with
        | some (.nd us) => wE j2 (fun n' _ => match n'.data with
          | .int k' => match ixN us.length k' with
            | some j' => .nx (δ1.set i (some (.nd (ts.set j (.nd (us.set j' (.fz r.data)))))))
            | none => .bad
          | _ => .bad) δ1
        | _ => .bad
      | none => .bad
    | _ => .bad) δ1
  | _ => .bad
noncomputable def Zbh (i : Nat) (u : FS) : FS := fun δ => match δ[i]? with | some (some t) => u (δ.set i (some (.fz t.data))) | _ => .bad
noncomputable def forLoop (g : FG) (u : FS) : List PyData → Zh → RS
  | [], δ => .nx δ
  | d :: ds, δ => match g d δ with
    | none => .bad
    | some δ1 => match u δ1 with
      | .nx δ2 => forLoop g u ds δ2
      | .ct δ2 => forLoop g u ds δ2
      | .bk δ2 => .nx δ2
      | r => r
noncomputable def Za2 (it : FI) (g : FG) (u : FS) : FS := fun δ => match it δ with | some (ds, δ1) => forLoop g u ds δ1 | none => .bad
noncomputable def whileLoop (t : FT) (u : FS) : Nat → Zh → RS
  | 0, _ => .bad
  | n + 1, δ => match t δ with
    | none => .bad
    | some (b, δ1) => if b = true then match u δ1 with
      | .nx δ2 => whileLoop t u n δ2
      | .ct δ2 => whileLoop t u n δ2
      | .bk δ2 => .nx δ2
      | .rt r δ2 => .rt r δ2
      | _ => .bad
      else .nx δ1
open Classical in
noncomputable def Zha (t : FT) (u : FS) : FS := fun δ => if h : ∃ n, whileLoop t u n δ ≠ .bad then whileLoop t u (Classical.choose h) δ else .bad
noncomputable def Zbt (n : Nat) (ds : List PyData) : Zh := ds.map (fun d => some (.fz d)) ++ List.replicate (n - ds.length) none
noncomputable def Z33 (n : Nat) (t : OT) (ds : List PyData) : Zh := some t :: (ds.map (fun d => some (.fz d)) ++ List.replicate (n - (ds.length + 1)) none)
noncomputable def RS.told : RS → RF
  | .nx _ => .ok (.fz .none)
  | .rt r _ => .ok r
  | .ex c _ => .exn c
  | _ => .bad
noncomputable def J3 (np n : Nat) (S : FS) : FD := fun ds => if ds.length = np then (S (Zbt n ds)).told else .bad
end L2
namespace L2
open PySem PySem.Spec PyProof.Rows
noncomputable def sD (F : FD) : List PyData → (OT → Prop) → Prop := fun ds k => ∃ r, F ds = .ok r ∧ k r
theorem bs {α β : Type} {x : Option α} {f : α → Option β} {b : β} (h : x.bind f = some b) : ∃ a, x = some a ∧ f a = some b := Option.bind_eq_some_iff.mp h
section
variable {X : Cx} {io : List Nat} {p c : Bool} {e tg : Expr} {es : List Expr} {st : Stmt} {sts : List Stmt} {eo : Option Expr} {fa fb fc : FE} {ra : FA} {ta tb : FT} {i : Nat}
theorem Ys (h : ME X io p c e (Z2o i)) : ME X io p c e (o2 (Zd i)) := h.weak fun δ K q91 => by
  obtain ⟨r, δ', h, k⟩ := q91
  unfold Zd at h; unfold Z2o
  split at h
  · rename_i d hd; (try rw [hd]); cases h; exact k
  · cases h
theorem Zcx (h : ME X io p c e (Z2q i)) : ME X io p c e (o2 (Jz i)) := h.weak fun δ K q92 => by
  obtain ⟨r, δ', h, k⟩ := q92
  unfold Jz at h; unfold Z2q
  split at h
  · rename_i d hd; (try rw [hd]); cases h; exact k
  · cases h
theorem Zgh {d : PyData} (h : ME X io p c e (mC d)) : ME X io p c e (o2 (fC d)) := h.weak fun δ K ⟨r, δ', h, k⟩ => by cases h; exact k
noncomputable def ByS (g : PyData → PyData → Option PyData) (rp : PyData → PyData → (PyData → Prop) → Prop) : Prop := ∀ d e r k, g d e = some r → k r → rp d e k
noncomputable def ByO (g : PyData → PyData → Option OT) (rp : PyData → PyData → (OT → Prop) → Prop) : Prop := ∀ d e r k, g d e = some r → k r → rp d e k
theorem Zug {g rp} (G : ByS g rp) {δ : Zh} {K : OT → Zh → Prop} (h : o2 (Zf g fa fb) δ K) : Zlf rp (o2 fa) (o2 fb) δ K := by
  obtain ⟨r, δ', h, k⟩ := h
  obtain ⟨⟨x, δ1⟩, h1, h⟩ := bs h
  obtain ⟨⟨y, δ2⟩, h2, h⟩ := bs h
  obtain ⟨d, h3, h⟩ := bs h
  cases h
  exact ⟨x, δ1, h1, y, δ2, h2, G _ _ _ _ h3 k⟩
theorem Ji {g rp} (G : ByS g rp) (h : ME X io p c e (Zlf rp (o2 fa) (o2 fb))) : ME X io p c e (o2 (Zf g fa fb)) := h.weak fun δ K z => Zug G z
theorem Z8z {f : FE} {δ : Zh} {K : Bool → Zh → Prop} (h : o2 (tV f) δ K) : o2 f δ (kB K) := by
  obtain ⟨b, δ', h, k⟩ := h
  obtain ⟨⟨x, δ1⟩, h1, h⟩ := bs h
  refine ⟨x, δ1, h1, ?_⟩
  unfold kB
  try dsimp only at h ⊢
  split at h
  · cases h; exact k
  · cases h
theorem Zao {g rp} (G : ByS g rp) (h : MT X io p e (fun δ K => Zlf rp (o2 fa) (o2 fb) δ (kB K))) : MT X io p e (o2 (tV (Zf g fa fb))) := h.weak fun δ K z => Zug G (Z8z z)
theorem Zch {g rp} (G : ByO g rp) (h : ME X io p c e (Z2p rp (o2 fa) (o2 fb))) : ME X io p c e (o2 (Yd g fa fb)) := h.weak fun δ K h => by
  obtain ⟨r, δ', h, k⟩ := h
  obtain ⟨⟨x, δ1⟩, h1, h⟩ := bs h
  obtain ⟨⟨y, δ2⟩, h2, h⟩ := bs h
  obtain ⟨d, h3, h⟩ := bs h
  cases h
  exact ⟨x, δ1, h1, y, δ2, h2, G _ _ _ _ h3 k⟩
noncomputable def Zns : PyData → Option PyData | .int i => some (.int (-i)) | _ => none
noncomputable def Z2m : PyData → Option PyData | .bool b => some (.bool (!b)) | _ => none
theorem Zjx (h : ME X io p c e (Z5v (o2 fa))) : ME X io p c e (o2 (fUn Zns fa)) := h.weak fun δ K h => by
  obtain ⟨r, δ', h, k⟩ := h
  obtain ⟨⟨x, δ1⟩, h1, h⟩ := bs h
  obtain ⟨d, h3, h⟩ := bs h
  cases h
  refine ⟨x, δ1, h1, ?_⟩
  dsimp only at h3 ⊢
  cases q : x.data <;> rw [q] at h3 <;> cases h3
  exact k
theorem Zwl (h : ME X io p c e (Zyv (o2 fa))) : ME X io p c e (o2 (fUn Z2m fa)) := h.weak fun δ K h => by
  obtain ⟨r, δ', h, k⟩ := h
  obtain ⟨⟨x, δ1⟩, h1, h⟩ := bs h
  obtain ⟨d, h3, h⟩ := bs h
  cases h
  refine ⟨x, δ1, h1, ?_⟩
  dsimp only at h3 ⊢
  cases q : x.data <;> rw [q] at h3 <;> cases h3
  exact k
theorem Zi6 (h : ME X io p c e (Z1e (o2 fa) (o2 fb))) : ME X io p c e (o2 (Zty fa fb)) := h.weak fun δ K h => by
  obtain ⟨r, δ', h, k⟩ := h
  obtain ⟨⟨x, δ1⟩, h1, h⟩ := bs h
  refine ⟨x, δ1, h1, ?_⟩
  try dsimp only at h ⊢
  split at h
  · rename_i q; (try rw [q]); rw [Zui, if_pos rfl]; exact ⟨r, δ', h, k⟩
  · rename_i q; (try rw [q]); cases h; rw [Zui, if_neg Bool.false_ne_true]; exact k
  · cases h
theorem Zuz (h : MT X io p e (Z7g (o2 ta))) : MT X io p e (o2 (tNo ta)) := h.weak fun δ K h => by
  obtain ⟨r, δ', h, k⟩ := h
  obtain ⟨⟨x, δ1⟩, h1, h⟩ := bs h
  cases h
  exact ⟨x, δ1, h1, k⟩
theorem Zmj (h : MW X io p e (Z56 (o2 ta) (o2 tb))) : MW X io p e (o2 (tAn ta tb)) := h.weak fun δ K h => by
  obtain ⟨r, δ', h, k⟩ := h
  obtain ⟨⟨x, δ1⟩, h1, h⟩ := bs h
  refine ⟨x, δ1, h1, ?_⟩
  try dsimp only at h ⊢
  split at h
  · rename_i q; rw [if_pos q]; exact ⟨r, δ', h, k⟩
  · rename_i q; rw [if_neg q]; cases h; exact k
theorem Zye (h : MW X io p e (mOr (o2 ta) (o2 tb))) : MW X io p e (o2 (tO ta tb)) := h.weak fun δ K h => by
  obtain ⟨r, δ', h, k⟩ := h
  obtain ⟨⟨x, δ1⟩, h1, h⟩ := bs h
  refine ⟨x, δ1, h1, ?_⟩
  try dsimp only at h ⊢
  split at h
  · rename_i q; rw [if_pos q]; cases h; exact k
  · rename_i q; rw [if_neg q]; exact ⟨r, δ', h, k⟩
theorem Zex (h : MT X io p e (Z6s (o2 fa))) : MT X io p e (o2 (tD fa)) := h.weak fun δ K h => by
  obtain ⟨r, δ', h, k⟩ := h
  obtain ⟨⟨x, δ1⟩, h1, h⟩ := bs h
  obtain ⟨d, h3, h⟩ := bs h
  cases h
  refine ⟨x, δ1, h1, ?_⟩
  dsimp only at h3 ⊢
  rw [h3]
  exact k
theorem Zat (h : MA X io p c es Z5u) : MA X io p c es (o2 Zm) := h.weak fun δ K ⟨r, δ', h, k⟩ => by cases h; exact k
theorem Zwy (h : MA X io p c es (Zzk (o2 fa) (o2 ra))) : MA X io p c es (o2 (Zb fa ra)) := h.weak fun δ K h => by
  obtain ⟨r, δ', h, k⟩ := h
  obtain ⟨⟨x, δ1⟩, h1, h⟩ := bs h
  obtain ⟨⟨y, δ2⟩, h2, h⟩ := bs h
  cases h
  exact ⟨x, δ1, h1, y, δ2, h2, k⟩
theorem Zzu (h : ME X io p c e (Z7m (o2 ra))) : ME X io p c e (o2 (Zn6 ra)) := h.weak fun δ K h => by
  obtain ⟨r, δ', h, k⟩ := h
  obtain ⟨⟨x, δ1⟩, h1, h⟩ := bs h
  refine ⟨x, δ1, h1, ?_⟩
  dsimp only at h
  split at h
  · rename_i q; cases h; exact ⟨q, k⟩
  · cases h
theorem Zqj (h : ME X io p c e (Z5k (o2 ra))) : ME X io p c e (o2 (Zbe ra)) := h.weak fun δ K h => by
  obtain ⟨r, δ', h, k⟩ := h
  obtain ⟨⟨x, δ1⟩, h1, h⟩ := bs h
  refine ⟨x, δ1, h1, ?_⟩
  dsimp only at h
  split at h
  · rename_i q; cases h; exact ⟨q, k⟩
  · cases h
theorem Zvh (h : ME X io p c e (Zyp (o2 fa))) : ME X io p c e (o2 (Zpv fa)) := h.weak fun δ K h => by
  obtain ⟨r, δ', h, k⟩ := h
  obtain ⟨⟨x, δ1⟩, h1, h⟩ := bs h
  refine ⟨x, δ1, h1, ?_⟩
  dsimp only at h
  split at h
  · rename_i q; cases h; exact ⟨q, k⟩
  · cases h
theorem Zst (h : ME X io p c e (Zt6 (o2 fa))) : ME X io p c e (o2 (Zhj fa)) := h.weak fun δ K h => by
  obtain ⟨r, δ', h, k⟩ := h
  obtain ⟨⟨x, δ1⟩, h1, h⟩ := bs h
  refine ⟨x, δ1, h1, ?_⟩
  dsimp only at h
  split at h
  · rename_i q; cases h; exact ⟨q, k⟩
  · cases h
theorem Zy0 (h : ME X io p c e (Z5x (o2 fa))) : ME X io p c e (o2 (Z2w fa)) := h.weak fun δ K h => by
  obtain ⟨r, δ', h, k⟩ := h
  obtain ⟨⟨x, δ1⟩, h1, h⟩ := bs h
  cases h
  exact ⟨x, δ1, h1, k⟩
theorem Zjb {F : FD} (h : ME X io p c e (Zx2 (sD F) (o2 ra))) : ME X io p c e (o2 (Zt F ra)) := h.weak fun δ K h => by
  obtain ⟨r, δ', h, k⟩ := h
  obtain ⟨⟨x, δ1⟩, h1, h⟩ := bs h
  refine ⟨x, δ1, h1, ?_⟩
  dsimp only at h
  split at h
  · rename_i q; cases h; exact ⟨_, q, k⟩
  · cases h
theorem Zc1 {g rp} (G : ∀ ds r k, g ds = some r → k r → rp ds k) (h : ME X io p c e (Z3z rp (o2 ra))) : ME X io p c e (o2 (Zau g ra)) := h.weak fun δ K h => by
  obtain ⟨r, δ', h, k⟩ := h
  obtain ⟨⟨x, δ1⟩, h1, h⟩ := bs h
  obtain ⟨d, h3, h⟩ := bs h
  cases h
  exact ⟨x, δ1, h1, G _ _ _ h3 k⟩
theorem Zxd {g rp} (G : ∀ ds r k, g ds = some r → k r → rp ds k) (h : ME X io p c e (mBl rp (o2 ra))) : ME X io p c e (o2 (fBl g ra)) := h.weak fun δ K h => by
  obtain ⟨r, δ', h, k⟩ := h
  obtain ⟨⟨x, δ1⟩, h1, h⟩ := bs h
  obtain ⟨d, h3, h⟩ := bs h
  cases h
  exact ⟨x, δ1, h1, G _ _ _ h3 k⟩
theorem Zd1 {T : String} (h : ME X io p c e (Z6a T (o2 fa))) : ME X io p c e (o2 (Zli T fa)) := h.weak fun δ K h => by
  obtain ⟨r, δ', h, k⟩ := h
  obtain ⟨⟨x, δ1⟩, h1, h⟩ := bs h
  by_cases hf : Zgi x.data = true
  · have h' : (if Zgi x.data = true then none else some (OT.fz (.bool (Zmq T x.data)), δ1)) = some (r, δ') := h
    rw [if_pos hf] at h'
    cases h'
  · have h' : (if Zgi x.data = true then none else some (OT.fz (.bool (Zmq T x.data)), δ1)) = some (r, δ') := h
    rw [if_neg hf] at h'
    injection h' with h'
    injection h' with e1 e2
    subst e1 e2
    exact ⟨x, _, h1, Bool.eq_false_iff.mpr hf, k⟩
theorem Zik (h : MO X io p eo Zqf) : MO X io p eo (o2 oN) := h.weak fun δ K ⟨r, δ', h, k⟩ => by cases h; exact k
theorem Zc7 (h : MO X io p eo (Zy3 (o2 fa))) : MO X io p eo (o2 (oI fa)) := h.weak fun δ K h => by
  obtain ⟨r, δ', h, k⟩ := h
  obtain ⟨⟨x, δ1⟩, h1, h⟩ := bs h
  refine ⟨x, δ1, h1, ?_⟩
  try dsimp only at h ⊢
  split at h
  · rename_i q; (try rw [q]); cases h; exact k
  · cases h
theorem Zsc {lo hi : FO} (h : ME X io p c e (mSl (o2 fa) (o2 lo) (o2 hi))) : ME X io p c e (o2 (fSl fa lo hi)) := h.weak fun δ K h => by
  obtain ⟨r, δ', h, k⟩ := h
  obtain ⟨⟨x, δ1⟩, h1, h⟩ := bs h
  obtain ⟨⟨y, δ2⟩, h2, h⟩ := bs h
  obtain ⟨⟨z, δ3⟩, h3, h⟩ := bs h
  refine ⟨x, δ1, h1, y, δ2, h2, z, δ3, h3, ?_⟩
  try dsimp only at h ⊢
  split at h
  · rename_i q; (try rw [q]); cases h; exact k
  · cases h
theorem Zwr (h : MI X io p c tg e (iL (o2 fa))) : MI X io p c tg e (o2 (Zfi fa)) := h.weak fun δ K h => by
  obtain ⟨r, δ', h, k⟩ := h
  obtain ⟨⟨x, δ1⟩, h1, h⟩ := bs h
  refine ⟨x, δ1, h1, ?_⟩
  try dsimp only at h ⊢
  split at h
  · rename_i q; (try rw [q]); cases h; exact k
  · cases h
theorem Zc9 (h : MI X io p c tg e (iR1 (o2 ra))) : MI X io p c tg e (o2 (iRa ra)) := h.weak fun δ K h => by
  obtain ⟨r, δ', h, k⟩ := h
  obtain ⟨⟨x, δ1⟩, h1, h⟩ := bs h
  refine ⟨x, δ1, h1, ?_⟩
  try dsimp only at h ⊢
  split at h
  case h_2 => cases h
  rename_i q
  (try rw [q])
  try dsimp only
  split at h
  · rename_i b; cases h; exact ⟨Zcl b, k⟩
  · cases h
theorem Zsy (h : MI X io p c tg e (iR2 (o2 ra))) : MI X io p c tg e (o2 (iRb ra)) := h.weak fun δ K h => by
  obtain ⟨r, δ', h, k⟩ := h
  obtain ⟨⟨x, δ1⟩, h1, h⟩ := bs h
  refine ⟨x, δ1, h1, ?_⟩
  try dsimp only at h ⊢
  split at h
  case h_2 => cases h
  rename_i q
  (try rw [q])
  try dsimp only
  split at h
  · rename_i b
    cases h
    rw [Bool.and_eq_true] at b
    exact ⟨⟨(Zcl b.1).1, (Zcl b.1).2, (Zcl b.2).1, (Zcl b.2).2⟩, k⟩
  · cases h
theorem Ziv (h : MG X io c tg (dName i)) : MG X io c tg (oG (gNm i)) := h.weak fun d δ K ⟨δ', h, k⟩ => by cases h; exact k
theorem Zo7 (h : MGs X io c es Z54) : MGs X io c es (oGs gNl) := h.weak fun d δ K q94 => by
  obtain ⟨δ', h, k⟩ := q94
  unfold gNl at h
  split at h
  · cases h; exact ⟨rfl, k⟩
  · cases h
theorem Zfj {g : FG} {gs : FGs} (h : MGs X io c es (Z15 (oG g) (oGs gs))) : MGs X io c es (oGs (gCn g gs)) := h.weak fun d δ K q95 => by
  obtain ⟨δ', h, k⟩ := q95
  unfold gCn at h
  split at h
  · obtain ⟨δ1, h1, h⟩ := bs h
    exact ⟨δ1, h1, δ', h, k⟩
  · cases h
theorem Zup {n : Nat} {gs : FGs} (h : MG X io c tg (dTup n (oGs gs))) : MG X io c tg (oG (gTp n gs)) := h.weak fun d δ K q96 => by
  obtain ⟨δ', h, k⟩ := q96
  unfold gTp at h
  split at h
  case h_2 => cases h
  split at h
  · rename_i q; exact ⟨q, δ', h, k⟩
  · cases h
theorem Jg (h : MIfs X io p es Z1x) : MIfs X io p es (o2 Zet) := h.weak fun δ K ⟨r, δ', h, k⟩ => by cases h; exact k
theorem Zwh {g : FG} {t : FT} {me : FE} {ds : List PyData} {δ0 : Zh} {zs : List OT} {δe : Zh} (h : compLoop g t me ds δ0 = some (zs, δe)) :
    ∃ I : Nat → List OT → Zh → Prop, I 0 [] δ0 ∧
  (∀ (i : Nat) (d : PyData) (rs : List OT) (δ' : Zh), ds[i]? = some d → I i rs δ' → oG g d δ' fun δ2 => o2 t δ2 fun b δ3 => if b = true then o2 me δ3 fun r δ4 => I (i + 1) (rs ++ [r]) δ4 else I (i + 1) rs δ3) ∧
  ∀ rs δ', I ds.length rs δ' → rs = zs ∧ δ' = δe := by
  refine ⟨fun i rs δ' => ∃ ys, rs ++ ys = zs ∧ compLoop g t me (ds.drop i) δ' = some (ys, δe), ⟨zs, rfl, by rw [List.drop_zero]; exact h⟩, ?_, ?_⟩
  · rintro i d rs δ' hd ⟨ys, e, hl⟩
    obtain ⟨hi, hdi⟩ := List.getElem?_eq_some_iff.mp hd
    rw [List.drop_eq_getElem_cons hi, hdi] at hl
    unfold compLoop at hl
    obtain ⟨δ1, h1, hl⟩ := bs hl
    obtain ⟨⟨b, δ2⟩, h2, hl⟩ := bs hl
    refine ⟨δ1, h1, b, δ2, h2, ?_⟩
    dsimp only at hl
    split at hl
    · rename_i hb
      rw [if_pos hb]
      obtain ⟨⟨r, δ3⟩, h3, hl⟩ := bs hl
      obtain ⟨⟨ws, δ4⟩, h4, hl⟩ := bs hl
      cases hl
      exact ⟨r, δ3, h3, ws, by rw [List.append_assoc]; exact e, h4⟩
    · rename_i hb
      rw [if_neg hb]
      exact ⟨ys, e, hl⟩
  · rintro rs δ' ⟨ys, e, hl⟩
    rw [List.drop_length] at hl
    unfold compLoop at hl
    cases hl
    exact ⟨by rw [← e, List.append_nil], rfl⟩
theorem Zmr {n : Nat} {caps : List Nat} {it : FI} {g : FG} {t : FT} {me : FE} {δ : Zh} {K : OT → Zh → Prop} (h : o2 (Y7 n caps it g t me) δ K) : Zeh n caps (o2 it) (oG g) (o2 t) (o2 me) δ K := by
  obtain ⟨r, δ', h, k⟩ := h
  obtain ⟨⟨ds, δ1⟩, h1, h⟩ := bs h
  refine ⟨ds, δ1, h1, ?_⟩
  dsimp only at h
  split at h
  case isFalse => cases h
  rename_i hz
  obtain ⟨⟨zs, δe⟩, h2, h⟩ := bs h
  cases h
  obtain ⟨I, i0, st, en⟩ := Zwh h2
  refine ⟨hz, I, i0, st, fun rs δ'' q => ?_⟩
  obtain ⟨rfl, rfl⟩ := en rs δ'' q
  exact k
theorem Zbg {n : Nat} {caps : List Nat} {it : FI} {g : FG} {t : FT} {me : FE} (h : ME X io p c e (Zeh n caps (o2 it) (oG g) (o2 t) (o2 me))) : ME X io p c e (o2 (Y7 n caps it g t me)) := h.weak fun δ K z => Zmr z
end
end L2
namespace L2
open PySem PySem.Spec PyProof.Rows
section
variable {X : Cx} {io : List Nat} {p c : Bool} {e tg iter : Expr} {es : List Expr} {st : Stmt} {sts : List Stmt} {fa fb fc : FE} {ra : FA} {ta tb : FT} {i : Nat} {f g u w : FS}
theorem Zcw (h : MSs X io sts (Z3h (oS f) (oS g))) : MSs X io sts (oS (Zu f g)) := h.weak fun D δ h => by
  unfold oS Zu at h; unfold Z3h oS
  cases q : f δ <;> rw [q] at h <;> exact h
theorem Zbo (h : MSs X io sts Z0j) : MSs X io sts (oS fNx) := h.weak fun D δ h => h
theorem Zn4 {k : OT → Zh → RS} {D : Zg1} {δ : Zh} (h : oS (wE fa k) D δ) : o2 fa δ fun r δ' => (k r δ').fits D := by
  unfold oS wE at h
  split at h
  · rename_i q; exact ⟨_, _, q, h⟩
  · exact h.elim
theorem o2.imp {α : Type} {f : Zh → Option (α × Zh)} {δ : Zh} {K K' : α → Zh → Prop} (h : o2 f δ K) (k : ∀ r δ', K r δ' → K' r δ') : o2 f δ K' := let ⟨r, δ', e, q⟩ := h; ⟨r, δ', e, k r δ' q⟩
theorem Zm0 {P : Prop} [Decidable P] {a : RS} {D : Zg1} (h : (if P then a else .bad : RS).fits D) : P ∧ a.fits D := by
  split at h
  · exact ⟨‹_›, h⟩
  · exact h.elim
theorem Ze4 (h : MS X io st (Z2j (o2 fa))) : MS X io st (oS (wE fa Jj)) := h.weak fun D δ h => Zn4 h
theorem Zbq (h : MS X io st (Zku i)) : MS X io st (oS (J9 i)) := h.weak fun D δ h => by
  unfold oS J9 at h; unfold Zku
  split at h
  · rename_i q; (try rw [q]); exact h
  · exact h.elim
theorem Zic (h : MS X io st (Z2t (o2 ta) (oS u) (oS w))) : MS X io st (oS (Ww ta u w)) := h.weak fun D δ h => by
  unfold oS Ww at h
  split at h
  · rename_i b δ' q
    refine ⟨b, δ', q, ?_⟩
    split at h
    · rename_i hb; rw [if_pos hb]; exact h
    · rename_i hb; rw [if_neg hb]; exact h
  · exact h.elim
theorem Zps (h : MS X io st (Zyb i (o2 fa))) : MS X io st (oS (wE fa (Yh i))) := h.weak fun D δ h => Zn4 h
theorem Zpg (h : MS X io st (Zkg i (o2 fa))) : MS X io st (oS (wE fa (Ja i))) := h.weak fun D δ h => Zn4 h
section
variable {n : Nat} {caps : List Nat} {o q : Nat} {it : FI} {gg : FG} {t : FT} {me : FE}
theorem Zi3 (h : MS X io st (if true = true then Zkg i (Zeh n caps (o2 it) (oG gg) (o2 t) (o2 me)) else Zyb i (Zeh n caps (o2 it) (oG gg) (o2 t) (o2 me)))) : MS X io st (oS (wE (Y7 n caps it gg t me) (Ja i))) :=
  h.weak fun D δ h => by rw [if_pos rfl]; exact Zmr (Zn4 h)
theorem Zql (h : MS X io st (if false = true then Zkg i (Zeh n caps (o2 it) (oG gg) (o2 t) (o2 me)) else Zyb i (Zeh n caps (o2 it) (oG gg) (o2 t) (o2 me)))) : MS X io st (oS (wE (Y7 n caps it gg t me) (Yh i))) :=
  h.weak fun D δ h => by rw [if_neg Bool.false_ne_true]; exact Zmr (Zn4 h)
end
theorem Zag (h : MS X io st (Zi9 i (o2 fa))) : MS X io st (oS (Wl i fa)) := h.weak fun D δ h => by
  unfold oS Wl at h; unfold Zi9
  split at h
  case h_2 => exact h.elim
  rename_i q; (try rw [q])
  refine (Zn4 h).imp fun r δ' z => ?_
  split at z
  · rename_i q2; (try rw [q2]); exact Zm0 z
  · exact z.elim
theorem Zf1 (h : MS X io st (Z0w i (o2 fa) (o2 fb) (o2 fc))) : MS X io st (oS (Zgt i fa fb fc)) := h.weak fun D δ h => by
  refine (Zn4 h).imp fun r δ' z => ?_
  split at z
  case h_2 => exact z.elim
  rename_i q; (try rw [q])
  refine (Zn4 z).imp fun n δ2 z => ?_
  split at z
  case h_2 => exact z.elim
  rename_i k q2; (try rw [q2])
  show match ixN _ k with | some j => _ | none => _
  split at z
  case h_2 => exact z.elim
  rename_i q3; (try rw [q3])
  try dsimp only
  split at z
  case h_2 => exact z.elim
  rename_i q4; (try rw [q4])
  refine (Zn4 z).imp fun n' δ3 z => ?_
  split at z
  case h_2 => exact z.elim
  rename_i k' q5; (try rw [q5])
  show match ixN _ k' with | some j => _ | none => _
  split at z
  · rename_i q6; (try rw [q6]); exact z
  · exact z.elim
theorem Zgk (h : MS X io st (Ziy i (oS u))) : MS X io st (oS (Zbh i u)) := h.weak fun D δ h => by
  unfold oS Zbh at h; unfold Ziy
  split at h
  · rename_i q; (try rw [q]); exact h
  · exact h.elim
theorem Ze5 {gg : FG} {d : PyData} {ds : List PyData} {δ : Zh} : forLoop gg u (d :: ds) δ = match gg d δ with
    | none => .bad
    | some δ1 => match u δ1 with
      | .nx δ2 => forLoop gg u ds δ2
      | .ct δ2 => forLoop gg u ds δ2
      | .bk δ2 => .nx δ2
      | r => r := rfl
theorem Zq2 {it : FI} {gg : FG} (h : MS X io st (Z5w (o2 it) (oG gg) (oS u))) : MS X io st (oS (Za2 it gg u)) := h.weak fun D δ h => by
  unfold oS Za2 at h
  split at h
  case h_2 => exact h.elim
  rename_i ds δ1 q
  refine ⟨ds, δ1, q, fun i δ' => (forLoop gg u (ds.drop i) δ').fits D, by show RS.fits D (forLoop gg u (ds.drop 0) δ1); rw [List.drop_zero]; exact h, fun i d δ' hd z => ?_, fun δ' z => ?_⟩
  · obtain ⟨hi, hdi⟩ := List.getElem?_eq_some_iff.mp hd
    replace z : RS.fits D (forLoop gg u (ds.drop i) δ') := z
    rw [List.drop_eq_getElem_cons hi, hdi, Ze5] at z
    split at z
    case h_1 => exact z.elim
    rename_i δ2 q2
    refine ⟨δ2, q2, ?_⟩
    unfold oS
    cases q3 : u δ2 <;> rw [q3] at z <;> (try rw [q3]) <;> exact z
  · replace z : RS.fits D (forLoop gg u (ds.drop ds.length) δ') := z
    rw [List.drop_length] at z; exact z
theorem Zmg (h : MS X io st (Zu8 (o2 ta) (oS u))) : MS X io st (oS (Zha ta u)) := h.weak fun D δ h => by
  unfold oS Zha at h
  split at h
  case isFalse => exact h.elim
  rename_i hn
  refine ⟨fun n δ' => (whileLoop ta u n δ').fits D, ⟨_, h⟩, fun n δ' z => ?_⟩
  cases n with
  | zero => exact z.elim
  | succ n =>
    unfold whileLoop at z
    split at z
    case h_1 => exact z.elim
    rename_i b δ1 q
    refine ⟨b, δ1, q, ?_⟩
    split at z
    · rename_i hb
      rw [if_pos hb]
      refine ⟨fun δ'' => (whileLoop ta u n δ'').fits D, fun δ'' y => ⟨n, Nat.lt_succ_self n, y⟩, ?_⟩
      unfold oS
      cases q3 : u δ1 <;> rw [q3] at z <;> exact z
    · rename_i hb
      rw [if_neg hb]
      exact z
theorem Zc0 {n m : Nat} : ∀ {δ : Zh}, whileLoop ta u n δ ≠ .bad → whileLoop ta u (n + m) δ = whileLoop ta u n δ := by
  induction n with
  | zero => intro δ h; exact absurd rfl h
  | succ n ih =>
    intro δ h
    rw [Nat.succ_add]
    unfold whileLoop at h ⊢
    cases q : ta δ with
    | none => rfl
    | some x =>
      obtain ⟨b, δ1⟩ := x
      rw [q] at h
      try dsimp only at h ⊢
      split
      · rename_i hb
        rw [if_pos hb] at h
        cases q3 : u δ1 <;> rw [q3] at h <;> first | exact ih h | rfl
      · rfl
theorem Zjw {r : RS} {δ : Zh} (n : Nat) (h : whileLoop ta u n δ = r) (hr : r ≠ .bad) : Zha ta u δ = r := by
  have hn : ∃ n, whileLoop ta u n δ ≠ .bad := ⟨n, by rw [h]; exact hr⟩
  unfold Zha
  rw [dif_pos hn]
  have h1 := Classical.choose_spec hn
  have e1 := Zc0 (m := n) h1
  have e2 := Zc0 (m := Classical.choose hn) (show whileLoop ta u n δ ≠ .bad by rw [h]; exact hr)
  rw [Nat.add_comm] at e2
  rw [← e1, e2, h]
class NoEx (f : FS) : Prop where
  no : ∀ δ cn δ', f δ ≠ .ex cn δ'
class NoExK (k : OT → Zh → RS) : Prop where
  no : ∀ r δ cn δ', k r δ ≠ .ex cn δ'
end
section
variable {P : Program} {w : World} {K : PySem.W.Frag} {mg : Str → Option Value} {base : Heap} {x qual : Str} {st : Stmt} {f : Addr} {fd : FuncData} {N ps : List Str} {n np nn : Nat} {S : FS}
theorem RS.told_fits {r : RS} {o : OT} {k : OT → Prop} (h : r.told = .ok o) (hk : k o) : r.fits (Zqa k) := by
  cases r <;> unfold RS.told at h <;> first | (cases h; exact hk) | cases h
theorem Yr (F : Fun K x qual st f fd) (Sc : Zv N ps (Zk st)) (hN : N.length = nn) (hp : np = ps.length)
    (hb : ∀ (cdv : Value) (A : Around) (outer : List Env) (s : Shared) (H : Hp) (E : XK), Room n (A.deeper (envOfC qual (Zk st) s.heap.objs.size f cdv)) → MSs (Zrl CX0 P w K mg base N qual (Zk st) f cdv A outer s H E).nox [] (J8 st) (oS S)) :
    FnOk P w K mg base CX0 (n + 1) f fd ps (spD K (sD (J3 np nn S))) := by
  subst hN hp
  refine F.okD Sc (fun ds k h => ?_) fun cdv A outer s H E hr => ⟨_, hb cdv A outer s H E hr, fun ds k h => ?_⟩
  · obtain ⟨r, h, _⟩ := h
    unfold J3 at h
    split at h
    · assumption
    · cases h
  · obtain ⟨r, h, hk⟩ := h
    unfold J3 at h
    split at h
    · exact RS.told_fits h hk
    · cases h
end
end L2
namespace L2
open PySem PySem.Spec PyProof.Rows
noncomputable def i2 (g : Int → Int → PyData) : PyData → PyData → Option PyData := fun d e => match d, e with | .int i, .int j => some (g i j) | _, _ => none
noncomputable def i2c (c : Int → Int → Bool) (g : Int → Int → PyData) : PyData → PyData → Option PyData := fun d e => match d, e with | .int i, .int j => if c i j = true then some (g i j) else none | _, _ => none
theorem Zon {g : Int → Int → PyData} : ByS (i2 g) (Zuf g) := fun d e r k h hk => by
  unfold i2 at h
  split at h
  · cases h; exact hk
  · cases h
theorem Zl4 {c : Int → Int → Bool} {C : Int → Int → Prop} {g : Int → Int → PyData} (hc : ∀ i j, c i j = true → C i j) : ByS (i2c c g) (d2I C g) := fun d e r k h hk => by
  unfold i2c at h
  split at h
  · split at h
    · cases h; exact ⟨hc _ _ ‹_›, hk⟩
    · cases h
  · cases h
noncomputable def Zw7 (a b : Int) : Bool := !(decide (Builtin.Int.intBits a > shortFactorBits) && decide (Builtin.Int.intBits b > shortFactorBits) && Builtin.Int.intTooBig (Builtin.Int.intBits a + Builtin.Int.intBits b))
noncomputable def Zyf (_ j : Int) : Bool := decide (j ≠ 0) && decide (j.natAbs.log2 < 9000)
noncomputable def Z6e (_ j : Int) : Bool := decide (j ≠ 0)
noncomputable def Z70 (i j : Int) : Bool := decide (0 ≤ j ∧ j ≤ 1000000 ∧ i.natAbs < 2 ^ 64)
theorem Zfh {a b : Int} : Zw7 a b = true ↔ IntMulOk a b := by
  unfold Zw7 IntMulOk
  rw [Bool.not_eq_true', Bool.not_eq_true]
noncomputable def Jp := i2 fun i j => .int (i + j)
noncomputable def gSb := i2 fun i j => .int (i - j)
noncomputable def Ze2 := i2c Zw7 fun i j => .int (i * j)
noncomputable def Jc := i2c Zyf fun i j => .int (i.fdiv j)
noncomputable def Zal := i2c Z6e fun i j => .int (i.fmod j)
noncomputable def Zmn := i2c Z70 fun i j => .int (i ^ j.toNat)
noncomputable def gLt := i2 fun i j => .bool (decide (i < j))
noncomputable def gLe := i2 fun i j => .bool (decide (i ≤ j))
noncomputable def gGt := i2 fun i j => .bool (decide (j < i))
noncomputable def gGe := i2 fun i j => .bool (decide (j ≤ i))
theorem Z3m : ByS Jp (Zuf fun i j => .int (i + j)) := Zon
theorem Zx1 : ByS gSb (Zuf fun i j => .int (i - j)) := Zon
theorem Z5c : ByS Ze2 (d2I MulOk fun i j => .int (i * j)) := Zl4 fun i j h => ⟨Zfh.mp h⟩
theorem Z0z : ByS Jc (d2I Z5j fun i j => .int (i.fdiv j)) := Zl4 fun i j h => ⟨by
  unfold Zyf at h
  rw [Bool.and_eq_true] at h
  exact ⟨of_decide_eq_true h.1, of_decide_eq_true h.2⟩⟩
theorem Z20 : ByS Zal (d2I (fun _ j => j ≠ 0) fun i j => .int (i.fmod j)) := Zl4 fun i j h => of_decide_eq_true h
theorem Z3s : ByS Zmn (d2I Z7a fun i j => .int (i ^ j.toNat)) := Zl4 fun i j h => ⟨(of_decide_eq_true h : 0 ≤ j ∧ j ≤ 1000000 ∧ i.natAbs < 2 ^ 64)⟩
theorem Z58 : ByS gLt (Zuf fun i j => .bool (decide (i < j))) := Zon
theorem Z8g : ByS gGt (Zuf fun i j => .bool (decide (j < i))) := Zon
theorem Z7w : ByS gGe (Zuf fun i j => .bool (decide (j ≤ i))) := Zon
noncomputable def gEq : PyData → PyData → Option PyData := fun d e => if (SeqAt.shaped d && SeqAt.shaped e) = true then some (.bool (PyData.eqv d e)) else none
noncomputable def gNe : PyData → PyData → Option PyData := fun d e => if (SeqAt.shaped d && SeqAt.shaped e) = true then some (.bool (!PyData.eqv d e)) else none
theorem Z18 : ByS gEq dEq := fun d e r k h hk => by
  unfold gEq at h
  split at h
  · rename_i q
    rw [Bool.and_eq_true] at q
    cases h
    exact ⟨⟨q.1⟩, ⟨q.2⟩, hk⟩
  · cases h
theorem Z2n : ByS gNe dNe := fun d e r k h hk => by
  unfold gNe at h
  split at h
  · rename_i q
    rw [Bool.and_eq_true] at q
    cases h
    exact ⟨⟨q.1⟩, ⟨q.2⟩, hk⟩
  · cases h
noncomputable def gIs : PyData → PyData → Option PyData := fun d e => match e with | .none => some (.bool (Zdl d)) | _ => none
noncomputable def Zfm : PyData → PyData → Option PyData := fun d e => match e with | .none => some (.bool (!Zdl d)) | _ => none
theorem Z50 : ByS gIs Z6i := fun d e r k h hk => by
  unfold gIs at h
  split at h
  · cases h; exact ⟨rfl, hk⟩
  · cases h
theorem Zvq : ByS Zfm Zz1 := fun d e r k h hk => by
  unfold Zfm at h
  split at h
  · cases h; exact ⟨rfl, hk⟩
  · cases h
noncomputable def Zm7 (neg : Bool) : PyData → PyData → Option PyData := fun d e => match Zmp e with
  | some ds => if (scD d && ds.all scD) = true then some (.bool (if neg then !memS d ds else memS d ds)) else none
  | none => none
theorem Zt2 {neg : Bool} : ByS (Zm7 neg) (dIn neg) := fun d e r k h hk => by
  unfold Zm7 at h
  split at h
  case h_2 => cases h
  rename_i ds q
  split at h
  case isFalse => cases h
  rename_i q2
  rw [Bool.and_eq_true] at q2
  cases h
  refine ⟨q2.1, ?_⟩
  cases e <;> cases q
  · exact ⟨q2.2, hk⟩
  · exact ⟨q2.2, hk⟩
noncomputable def gIx : PyData → PyData → Option OT := fun d e => (ixD d e).bind fun x => some (.fz x)
theorem Z3g : ByO gIx dIx := fun d e r k h hk => by
  obtain ⟨x, h1, h2⟩ := bs h
  cases h2
  unfold dIx
  rw [h1]
  exact hk
noncomputable def Ze8 : PyData → PyData → Option OT := fun d e => match d, e with | .list ds, .list es => if ds.length + es.length ≤ sizeLine then some (.nd ((ds ++ es).map OT.fz)) else none | _, _ => none
theorem Zke : ByO Ze8 dCat := fun d e r k h hk => by
  unfold Ze8 at h
  split at h
  · split at h
    · cases h; exact ⟨‹_›, hk⟩
    · cases h
  · cases h
noncomputable def Zam : List PyData → Option PyData := fun ds => match ds with | [d] => (Zsx d).bind fun n => some (.int n) | _ => none
theorem Znz : ∀ ds r k, Zam ds = some r → k r → Z6j ds k := fun ds r k h hk => by
  unfold Zam at h
  split at h
  · obtain ⟨n, h1, h2⟩ := bs h
    cases h2
    show match Zsx _ with | some n => _ | none => _
    rw [h1]
    exact hk
  · cases h
noncomputable def Zyd : List PyData → Option PyData := fun ds => match ds with | [.int i] => some (.int (if i < 0 then -i else i)) | _ => none
theorem Zv5 : ∀ ds r k, Zyd ds = some r → k r → Z6o ds k := fun ds r k h hk => by
  unfold Zyd at h
  split at h
  · cases h; exact hk
  · cases h
noncomputable def Z0b : List PyData → Option PyData := fun ds => match ds with | [.int i, .int j] => some (.int (if j > i then j else i)) | _ => none
theorem Z38 : ∀ ds r k, Z0b ds = some r → k r → Z5i ds k := fun ds r k h hk => by
  unfold Z0b at h
  split at h
  · cases h; exact hk
  · cases h
noncomputable def Z82 : List PyData → Option PyData := fun ds => match ds with | [.int i, .int j] => some (.int (if j < i then j else i)) | _ => none
noncomputable def Z7j : List PyData → Option PyData := fun ds => match ds with | [.int i] => some (.int i) | [.bool b] => some (.int (if b then 1 else 0)) | _ => none
noncomputable def Znw : List PyData → Option OT := fun ds => match ds with | [d] => (Zmp d).bind fun es => some (.nd (es.map OT.fz)) | _ => none
theorem Zz9 : ∀ ds r k, Znw ds = some r → k r → Zyk ds k := fun ds r k h hk => by
  unfold Znw at h
  split at h
  · obtain ⟨n, h1, h2⟩ := bs h
    cases h2
    show match Zmp _ with | some n => _ | none => _
    rw [h1]
    exact hk
  · cases h
noncomputable def Zln : List PyData → Option (List Int)
  | [] => some []
  | .int i :: r => (Zln r).bind fun l => some (i :: l)
  | _ :: _ => none
theorem Ziq : ∀ {ds : List PyData} {ns : List Int}, Zln ds = some ns → ds = ns.map PyData.int
  | [], _, h => by cases h; rfl
  | .int i :: r, _, h => by
    obtain ⟨l, h1, h2⟩ := bs h
    cases h2
    rw [Ziq h1]; rfl
  | .none :: _, _, h => by cases h
  | .bool _ :: _, _, h => by cases h
  | .str _ :: _, _, h => by cases h
  | .list _ :: _, _, h => by cases h
  | .tuple _ :: _, _, h => by cases h
  | .dict _ :: _, _, h => by cases h
@[simp] theorem Zgo : ∀ ns : List Int, Zln (ns.map PyData.int) = some ns
  | [] => rfl
  | n :: ns => by rw [List.map_cons, Zln, Zgo ns]; rfl
section
variable {X : Cx} {io : List Nat} {p c : Bool} {e tg : Expr} {es : List Expr} {st : Stmt} {fa fb fc : FE} {ra : FA} {i : Nat}
noncomputable def Zwt (a : FA) : FE := fun δ => (a δ).bind fun p => match OT.datas p.1 with | [.int j] => if rOk j = true ∧ j.toNat ≤ sizeLine then some (.nd ((Zb3 0 j.toNat).map OT.fz), p.2) else none | _ => none
theorem Zt7 (h : ME X io p c e (Z6n (o2 ra))) : ME X io p c e (o2 (Zwt ra)) := h.weak fun δ K h => by
  obtain ⟨r, δ', h, k⟩ := h
  obtain ⟨⟨x, δ1⟩, h1, h⟩ := bs h
  refine ⟨x, δ1, h1, ?_⟩
  dsimp only at h
  split at h
  case h_2 => cases h
  rename_i q
  split at h
  case isFalse => cases h
  rename_i b
  cases h
  (try rw [q])
  exact ⟨⟨(Zcl b.1).1, (Zcl b.1).2, b.2⟩, k⟩
noncomputable def Zri (a b : FE) : FE := fun δ => (a δ).bind fun p => (b p.2).bind fun q => match q.1.data with | .int k => if rOk k = true ∧ k.toNat ≤ sizeLine then some (.nd (List.replicate k.toNat (.fz p.1.data)), p.2) else none | _ => none
theorem Zqd (h : ME X io p c e (Z57 (o2 fa) (o2 fb))) : ME X io p c e (o2 (Zri fa fb)) := h.weak fun δ K h => by
  obtain ⟨r, δ', h, k⟩ := h
  obtain ⟨⟨x, δ1⟩, h1, h⟩ := bs h
  obtain ⟨⟨y, δ2⟩, h2, h⟩ := bs h
  refine ⟨x, δ1, h1, y, δ2, h2, ?_⟩
  try dsimp only at h ⊢
  split at h
  case h_2 => cases h
  rename_i q
  (try rw [q])
  split at h
  case isFalse => cases h
  rename_i b
  cases h
  have z := Zcl b.1
  exact ⟨⟨by omega, by omega, b.2⟩, k⟩
noncomputable def Zk4 (a b : FE) : FE := fun δ => (a δ).bind fun p => match p.1.data with
  | .list es => (Zln es).bind fun ns => if ns.length ≤ 2 ^ 20 then (b p.2).bind fun q => match q.1.data with
    | .int k => if k ∈ ns then some (.fz (.int (ns.idxOf k : Nat)), q.2) else none
    | _ => none else none
  | _ => none
theorem Zr5 (h : ME X io p c e (Zu1 (o2 fa) (o2 fb))) : ME X io p c e (o2 (Zk4 fa fb)) := h.weak fun δ K h => by
  obtain ⟨r, δ', h, k⟩ := h
  obtain ⟨⟨x, δ1⟩, h1, h⟩ := bs h
  refine ⟨x, δ1, h1, ?_⟩
  try dsimp only at h ⊢
  split at h
  case h_2 => cases h
  rename_i q
  obtain ⟨ns, h2, h⟩ := bs h
  split at h
  case isFalse => cases h
  obtain ⟨⟨y, δ2⟩, h3, h⟩ := bs h
  refine ⟨ns, by rw [q, Ziq h2], ‹_›, y, δ2, h3, ?_⟩
  try dsimp only at h ⊢
  split at h
  case h_2 => cases h
  rename_i q2
  (try rw [q2])
  split at h
  case isFalse => cases h
  cases h
  exact ⟨‹_›, k⟩
noncomputable def Zsk (i : Nat) (a : FE) : FE := fun δ => match δ[i]? with
  | some (some (.nd _)) => (a δ).bind fun p => match p.2[i]? with
    | some (some (.nd ts)) => match p.1.data with
      | .int j => match ixN ts.length j with
        | some k => match ts[k]? with
          | some (.fz d) => if ts.length ≤ sizeLine then some (.fz d, p.2.set i (some (.nd (ts.eraseIdx k)))) else none
          | _ => none
        | none => none
      | _ => none
    | _ => none
  | _ => none
theorem Zpb (h : ME X io p c e (Z2i i (o2 fa))) : ME X io p c e (o2 (Zsk i fa)) := h.weak fun δ K h => by
  obtain ⟨r, δ', h, k⟩ := h
  unfold Zsk at h; unfold Z2i
  split at h
  case h_2 => cases h
  rename_i q; (try rw [q])
  obtain ⟨⟨x, δ1⟩, h1, h⟩ := bs h
  refine ⟨x, δ1, h1, ?_⟩
  try dsimp only at h ⊢
  split at h
  case h_2 => cases h
  rename_i q2; (try rw [q2])
  try dsimp only
  split at h
  case h_2 => cases h
  rename_i j q3; (try rw [q3])
  show match ixN _ j with | some k => _ | none => _
  split at h
  case h_2 => cases h
  rename_i q4; (try rw [q4]); (try dsimp only)
  split at h
  case h_2 => cases h
  rename_i q5; (try rw [q5])
  split at h
  case isFalse => cases h
  cases h
  exact ⟨‹_›, k⟩
end
end L2
namespace L2
open PySem PySem.Spec PyProof.Rows
variable {G : PySem.W.Frag}
section
variable {X : Cx} {io : List Nat} {p c : Bool} {e a b : Expr} {es : List Expr} {m ma mb : MEt} {mr : MAt} {pos apos cpos px py pt sp kp : Pos} {i j : Nat} {x y : Str} {fa fb : FE} {ra : FA} {st : Stmt}
noncomputable def Z22 (a : FA) : FE := fun δ => (a δ).bind fun p => if p.1.length ≤ sizeLine then some (.tp p.1, p.2) else none
noncomputable def Zut (i c : Nat) (e : FE) : FS := fun δ => match δ[i]? with
  | some (some (.tp ts)) => match ts[c]? with
    | some (.nd us) => wE e (fun r _ => if us.length < sizeLine then .nx (δ.set i (some (.tp (ts.set c (.nd (us ++ [.fz r.data])))))) else .bad) δ
    | _ => .bad
  | _ => .bad
noncomputable def Z5r (i j : Nat) (a : FA) : FS := fun δ => match a δ with
  | some (rs, δ1) => match OT.datas rs with
    | [d, e] => .nx ((δ1.set i (some (.fz d))).set j (some (.fz e)))
    | _ => .bad
  | none => .bad
end
class NoStar (e : Expr) : Prop where
  h : ∀ es env, starEach (e :: es) env = (false, eval e env) :: starEach es env
instance nx_Name {x : Str} {p : Pos} : NoStar (.Name x p) := ⟨fun _ _ => rfl⟩
instance nx_Constant {x k} {p : Pos} : NoStar (.Constant x k p) := ⟨fun _ _ => rfl⟩
instance nx_BinOp {a o b} {p : Pos} : NoStar (.BinOp a o b p) := ⟨fun _ _ => rfl⟩
instance nx_Call {f a k} {p : Pos} : NoStar (.Call f a k p) := ⟨fun _ _ => rfl⟩
instance nx_List {a} {p : Pos} : NoStar (.List a p) := ⟨fun _ _ => rfl⟩
instance nx_Tuple {a k} {p : Pos} : NoStar (.Tuple a k p) := ⟨fun _ _ => rfl⟩
instance nx_Subscript {a b} {p : Pos} : NoStar (.Subscript a b p) := ⟨fun _ _ => rfl⟩
theorem Ze {X : Cx} {io : List Nat} {p p' c c' p2 c2 : Bool} {e : Expr} {es : List Expr} {fa : FE} {ra : FA} [NoStar e] (ha : ME X io p c e (o2 fa)) (hr : MA X io p' c' es (o2 ra)) (hc : p' = true ∨ c = true := by first | exact Or.inl rfl | exact Or.inr rfl) (h2 : (p && p') = p2 := by rfl) (h3 : (c && c') = c2 := by rfl) : MA X io p2 c2 (e :: es) (o2 (Zb fa ra)) :=
  h2 ▸ h3 ▸ Zwy (Zxh ha hr hc (NoStar.h es X.env))
theorem Zgx {X : Cx} {io : List Nat} {p p' c c' : Bool} {e : Expr} {m : MEt} (h : ME X io p c e m) (h2 : p = p' := by rfl) (h3 : c = c' := by rfl) : ME X io p' c' e m := h2 ▸ h3 ▸ h
theorem Zxj {P : Program} {w : World} {K : PySem.W.Frag} {mg : Str → Option Value} {base : Heap} {CX : CXT} {k : Nat} {f : Addr} {fd : FuncData} {ps : List Str} {S : List PyData → (OT → Prop) → Prop} (h : ∀ ds k, ¬ S ds k) : FnOk P w K mg base CX k f fd ps (spD K S) := by
  have h' : ∀ {vs H Q E}, spD K S vs H Q E → False := fun q => by
    obtain ⟨_, ds, k, _, z, _⟩ := q
    exact h ds k z
  exact ⟨fun vs H Q E q => (h' q).elim, fun A outer s H args us vs Q E _ _ _ _ q => (h' q).elim⟩
end L2
namespace L2
open PySem PySem.Spec PyProof.Rows
variable {G : PySem.W.Frag}
section
variable {X : Cx} {io : List Nat} {p c : Bool} {e a b : Expr} {es : List Expr} {m ma mb : MEt} {mr : MAt} {pos apos cpos px py pt sp kp : Pos} {i j : Nat} {x y : Str} {fa fb : FE} {ra : FA} {st : Stmt} {u : FS}
noncomputable def insI (x : Int) : List Int → List Int
  | [] => [x]
  | y :: ys => if x ≤ y then x :: y :: ys else y :: insI x ys
noncomputable def Zd2 : List Int → List Int
  | [] => []
  | x :: xs => insI x (Zd2 xs)
theorem insI_perm (x : Int) : ∀ l, (insI x l).Perm (x :: l)
  | [] => .refl _
  | y :: ys => by
    unfold insI
    split
    · exact .refl _
    · exact ((insI_perm x ys).cons y).trans (.swap x y ys)
theorem Zcq : ∀ l, (Zd2 l).Perm l
  | [] => .refl _
  | x :: xs => (insI_perm x _).trans ((Zcq xs).cons x)
theorem Zfw (x : Int) : ∀ {l}, l.Pairwise (· ≤ ·) → (insI x l).Pairwise (· ≤ ·)
  | [], _ => .cons (fun _ m => nomatch m) .nil
  | y :: ys, h => by
    unfold insI
    cases h with
    | cons h1 h2 =>
      split
      · rename_i c
        refine .cons (fun z m => ?_) (.cons h1 h2)
        rcases List.mem_cons.mp m with rfl | m
        · exact c
        · exact Int.le_trans c (h1 z m)
      · rename_i c
        refine .cons (fun z m => ?_) (Zfw x h2)
        rcases List.mem_cons.mp ((insI_perm x ys).mem_iff.mp m) with rfl | m
        · omega
        · exact h1 z m
theorem Ze3 : ∀ l, (Zd2 l).Pairwise (· ≤ ·)
  | [] => .nil
  | x :: xs => Zfw x (Ze3 xs)
theorem Zdt : ∀ {l₁ l₂ : List Int}, l₁.Perm l₂ → l₁.Pairwise (· ≤ ·) → l₂.Pairwise (· ≤ ·) → l₁ = l₂
  | [], l₂, h, _, _ => h.nil_eq
  | a :: l₁, [], h, _, _ => h.eq_nil
  | a :: l₁, b :: l₂, h, h1, h2 => by
    cases h1 with
    | cons p1 q1 =>
      cases h2 with
      | cons p2 q2 =>
        have e : a = b := by
          have m1 : a ∈ b :: l₂ := h.mem_iff.mp (.head _)
          have m2 : b ∈ a :: l₁ := h.mem_iff.mpr (.head _)
          rcases List.mem_cons.mp m1 with e | m1
          · exact e
          · rcases List.mem_cons.mp m2 with e | m2
            · exact e.symm
            · have := p2 a m1
              have := p1 b m2
              omega
        subst e
        rw [Zdt h.cons_inv q1 q2]
noncomputable def Zuw (K : PySem.W.Frag) : List V → Hp → VK → Prop := fun xs H Q => ∃ (a : Addr) (ns : List Int), xs = [.ref a] ∧ SqL K H a (ns.map V.int) ∧ ns.length < 64 ∧ ∀ l, H l = none → Q (.ref l) (upd H l (.lst ((Zd2 ns).map V.int)))
theorem Zy2 : ∀ {its : List Value} {ns : List Int}, IntsAre its ns → Vals (ns.map V.int) its
  | [], _, h => by cases h; exact .nil
  | v :: its, _, h => by
    cases h with
    | cons n t h => exact .cons ⟨_, rfl⟩ (Zy2 h)
theorem Zhh {K : PySem.W.Frag} (hK : X.K = K) : Zdm X (.builtin "sorted") (Zuw K) := by
  subst hK
  intro pins s σ H xs us Q I r h
  obtain ⟨l, ns, rfl, hs, h64, q⟩ := h
  obtain ⟨u, rfl, ru⟩ := vals1 r
  cases (show u = Value.ref l from ru)
  obtain ⟨its, rv, pl, hz⟩ := I.list hs
  have hl := rv.length
  rw [List.length_map] at hl
  refine sorted_ints pl.isList (Ziz rv) (by omega) fun out ns' a1 a2 a3 => ?_
  obtain ⟨e, he⟩ := sortedAll_at s.heap its out
  have en : ns' = Zd2 ns := Zdt (a2.trans (Zcq ns).symm) a3 (Ze3 ns)
  subst en
  refine ⟨.ref (s.heap.objs.size + 1), _, I.laid (t' := s.toks) (o := .lst ((Zd2 ns).map V.int)) (fun b ob q => sortedAll_old q) (by omega) ⟨?_, out.toList, e, Zy2 a1, he⟩, rfl, q _ (I.hok.fresh (by omega))⟩
  rw [List.length_map, (Zcq ns).length_eq, sizeLine_eq]; omega
noncomputable def Zux : List PyData → (OT → Prop) → Prop := fun ds k => n1 (fun d => ∃ ns : List Int, d = .list (ns.map PyData.int) ∧ ns.length < 64 ∧ k (.nd (((Zd2 ns).map PyData.int).map OT.fz))) ds
theorem Zna : PN G (Zuw G) Zux := fun H L xs ds k Q hx h kk => by
  obtain ⟨v, d, rfl, rfl, q, ns, e, h64, h⟩ := hx.one h
  have fin : ∀ (p : Addr), H p = none → Q (.ref p) (upd H p (.lst ((Zd2 ns).map V.int))) := fun p hp => kk _ _ _ [p] (Z7 hp _) (Own.list hp (Das.ints _)) (Zdw p) (Zbk hp) h
  subst e
  generalize ed : PyData.list (ns.map PyData.int) = d at q
  cases q with
  | lst l e r =>
    cases ed
    exact ⟨_, ns, rfl, by rw [r.int_inv] at e; exact .inl e, h64, fin⟩
  | scr ks =>
    injection ed with ed
    have : ns = _ := List.map_inj_right (fun x y z => by injection z) |>.mp ed
    subst this
    exact ⟨_, _, rfl, ks.sq, h64, fin⟩
  | _ => cases ed
noncomputable def Zkx : List PyData → Option OT := fun ds => match ds with | [.list es] => (Zln es).bind fun ns => if ns.length < 64 then some (.nd (((Zd2 ns).map PyData.int).map OT.fz)) else none | _ => none
theorem Zpr : ∀ ds r k, Zkx ds = some r → k r → Zux ds k := fun ds r k h hk => by
  unfold Zkx at h
  split at h
  case h_2 => cases h
  obtain ⟨ns, h1, h⟩ := bs h
  split at h
  case isFalse => cases h
  rename_i h2
  cases h
  exact ⟨ns, by rw [Ziq h1], h2, hk⟩
end
end L2
namespace L2
open PySem PySem.Spec PyProof.Rows
structure Gives (P : Program) (w : World) (it : Addr) (f : List Addr) (St : Heap → Prop) (x : Value) (St' : Heap → Prop) : Prop where
  mem : it ∈ f
  run : ∀ {A : Around} {E : Value → Shared → Prop} {s : Shared} {Q : Value → Shared → Prop}, St s.heap → (∀ h', St' h' → Heap.SameBut it s.heap h' → Q x { s with heap := h' }) → wpAny (model P w) A (Builtin.SmallTypes.nextOf (.ref it)) Q E s
  keep : ∀ h h', (∀ c ∈ f, ∀ o, h.get? c = some o → h'.get? c = some o) → St h → St h'
  keep' : ∀ h h', (∀ c ∈ f, ∀ o, h.get? c = some o → h'.get? c = some o) → St' h → St' h'
structure Zg8 (P : Program) (w : World) (it : Addr) (f : List Addr) (St : Heap → Prop) : Prop where
  mem : it ∈ f
  run : ∀ {A : Around} {E : Value → Shared → Prop} {s : Shared} {Q : Value → Shared → Prop}, A.handled = none → St s.heap → (∀ h' e, Heap.ExtBut it s.heap h' → (∃ o, h'.get? e = some o ∧ o.cls = .type "StopIteration") → E (.ref e) { s with heap := h' }) → wpAny (model P w) A (Builtin.SmallTypes.nextOf (.ref it)) Q E s
  keep : ∀ h h', (∀ c ∈ f, ∀ o, h.get? c = some o → h'.get? c = some o) → St h → St h'
structure ZA (z TI TO i1 i2 : Addr) (f1 f2 : List Addr) : Prop where
  TIz : TI ≠ z
  TOz : TO ≠ z
  a1 : ∀ c ∈ f1, c ≠ z ∧ c ≠ TO ∧ c ≠ i2
  a2 : ∀ c ∈ f2, c ≠ z ∧ c ≠ TO ∧ c ≠ i1
section
variable {P : Program} {w : World} {A : Around} {E : Value → Shared → Prop} {s : Shared}
theorem Zi7 {T : Addr} {a b x : Value} {k : Nat} {Q : Unit → Shared → Prop} (hT : IsPair s.heap T a b) (h : ∀ h', h'.get? T = some { cls := .type "tuple", data := .seq ((#[a, b] : Array Value).setIfInBounds k x) } → Heap.SameBut T s.heap h' → Q () { s with heap := h' }) :
    wpAny (model P w) A (updateSeq T (·.setIfInBounds k x)) Q E s := wpAny_updateSeq_pair hT h
theorem Zqb {z TI TO i1 i2 : Addr} {f1 f2 : List Addr} {S1 T1 S2 T2 : Heap → Prop} {x y a b : Value} {Q : Value → Shared → Prop} (D : ZA z TI TO i1 i2 f1 f2) (G1 : Gives P w i1 f1 S1 x T1) (G2 : Gives P w i2 f2 S2 y T2)
    (hz : IsZip s.heap z TI TO .none) (hTI : IsPair s.heap TI (.ref i1) (.ref i2)) (hTO : IsPair s.heap TO a b) (h1 : S1 s.heap) (h2 : S2 s.heap)
    (hQ : ∀ h', IsZip h' z TI TO (rawInt s.heap.objs.size) → IsPair h' TO x y → T1 h' → T2 h' → IsPair h' s.heap.objs.size x y →
      (∀ c o, c ∉ [z, TO, i1, i2] → s.heap.get? c = some o → h'.get? c = some o) → Q (.ref s.heap.objs.size) { s with heap := h' }) :
    wpAny (model P w) A (Builtin.«zip.__next__» ⟨[.ref z], []⟩) (fun fin s' => ∃ v, fin = .done (.ret v) ∧ Q v s') E s := by
  obtain ⟨i1z, i1O, i12⟩ := D.a1 i1 G1.mem
  obtain ⟨i2z, i2O, i21⟩ := D.a2 i2 G2.mem
  have r1 : z ∉ f1 ∧ TO ∉ f1 ∧ i2 ∉ f1 := ⟨fun m => (D.a1 z m).1 rfl, fun m => (D.a1 TO m).2.1 rfl, fun m => (D.a1 i2 m).2.2 rfl⟩
  have r2 : z ∉ f2 ∧ TO ∉ f2 ∧ i1 ∉ f2 := ⟨fun m => (D.a2 z m).1 rfl, fun m => (D.a2 TO m).2.1 rfl, fun m => (D.a2 i1 m).2.2 rfl⟩
  have st : ∀ {b : Addr} {h h' : Heap} {f : List Addr}, Heap.SameBut b h h' → b ∉ f → ∀ c ∈ f, ∀ o, h.get? c = some o → h'.get? c = some o := fun sb hb c hc o e => sb.extBut _ _ (fun q => hb (q ▸ hc)) e
  show wpAny _ _ (field (.ref z) 2 >>= _) _ _ _
  refine wpAny_bind (wpAny_field hz rfl (x := .bool false) rfl ?_)
  show wpAny _ _ (field (.ref z) 3 >>= _) _ _ _
  refine wpAny_bind (wpAny_field hz rfl (x := .ref TI) rfl (wpAny_bind (wpAny_seqItems hTI rfl ?_)))
  show wpAny _ _ (Builtin.SmallTypes.ownedTupleIsFree (.ref z) >>= _) _ _ _
  refine wpAny_bind ?_
  unfold Builtin.SmallTypes.ownedTupleIsFree
  refine wpAny_bind (wpAny_field hz rfl (x := .none) rfl (wpAny_pure ?_))
  simp only [if_true]
  refine wpAny_bind (wpAny_rule (wpAny_bind (wpAny_field hz rfl (x := .ref TO) rfl (wpAny_bind (wpAny_setField_rec hz (by simp) fun h3 z3 b3 => ?_)))))
  replace z3 : IsZip h3 z TI TO .ellipsis := z3
  refine wpAny_bind ?_
  simp only [List.zipIdx_cons, List.zipIdx_nil, List.forIn_cons, List.forIn_nil]
  refine wpAny_bind (wpAny_bind (wpAny_onRaise ?_))
  show wpAny _ _ (Builtin.SmallTypes.nextOf (.ref i1) >>= _) _ _ _
  refine wpAny_bind (G1.run (s := { s with heap := h3 }) (G1.keep _ _ (st b3 r1.1) h1) fun h4 k4 b4 => wpAny_pure ?_)
  have o4 : IsPair h4 TO a b := b4.extBut _ _ i1O.symm (b3.extBut _ _ D.TOz hTO)
  refine wpAny_bind (wpAny_seqItems o4 rfl (wpAny_bind (Zi7 (s := { s with heap := h4 }) o4 fun h5 o5 b5 => wpAny_bind (wpAny_letGo (wpAny_pure ?_)))))
  replace o5 : IsPair h5 TO x b := o5
  refine wpAny_bind (wpAny_bind (wpAny_onRaise ?_))
  show wpAny _ _ (Builtin.SmallTypes.nextOf (.ref i2) >>= _) _ _ _
  refine wpAny_bind (G2.run (s := { s with heap := h5 }) (G2.keep _ _ (st b5 r2.2.1) (G2.keep _ _ (st b4 r2.2.2) (G2.keep _ _ (st b3 r2.1) h2))) fun h6 k6 b6 => wpAny_pure ?_)
  have o6 : IsPair h6 TO x b := b6.extBut _ _ i2O.symm o5
  refine wpAny_bind (wpAny_seqItems o6 rfl (wpAny_bind (Zi7 (s := { s with heap := h6 }) o6 fun h7 o7 b7 => wpAny_bind (wpAny_letGo (wpAny_pure (wpAny_pure ?_))))))
  replace o7 : IsPair h7 TO x y := o7
  refine wpAny_bind (wpAny_seqItems o7 rfl (wpAny_bind (wpAny_newTuple ?_)))
  have sz : h7.objs.size = s.heap.objs.size := by rw [b7.1, b6.1, b5.1, b4.1, b3.1]
  have z7 : IsZip h7 z TI TO .ellipsis := b7.extBut _ _ D.TOz.symm (b6.extBut _ _ i2z.symm (b5.extBut _ _ D.TOz.symm (b4.extBut _ _ i1z.symm z3)))
  have t1 : T1 h7 := G1.keep' _ _ (st b7 r1.2.1) (G1.keep' _ _ (st b6 r1.2.2) (G1.keep' _ _ (st b5 r1.2.1) k4))
  have t2 : T2 h7 := G2.keep' _ _ (st b7 r2.2.1) k6
  have old : ∀ c o, c ∉ [z, TO, i1, i2] → s.heap.get? c = some o → h7.get? c = some o := fun c o n e => by
    simp only [List.mem_cons, List.not_mem_nil, or_false, not_or] at n
    exact b7.extBut _ _ n.2.1 (b6.extBut _ _ n.2.2.2 (b5.extBut _ _ n.2.1 (b4.extBut _ _ n.2.2.1 (b3.extBut _ _ n.1 e))))
  show wpAny _ _ (Builtin.SmallTypes.ownedTupleHandOut (.ref z) (.ref h7.objs.size) >>= _) _ _ _
  refine wpAny_bind ?_
  unfold Builtin.SmallTypes.ownedTupleHandOut
  have zp : IsZip (h7.push { cls := .type "tuple", data := .seq #[x, y] }) z TI TO .ellipsis := Heap.get?_push_of_some _ z7
  refine wpAny_bind (wpAny_setField_rec zp (by simp) fun h8 z8 b8 => ?_)
  replace z8 : IsZip h8 z TI TO (rawInt h7.objs.size) := z8
  refine wpAny_setField_rec z8 (by simp) fun h9 z9 b9 => ?_
  replace z9 : IsZip h9 z TI TO (rawInt h7.objs.size) := z9
  have up : ∀ c o, c ≠ z → h7.get? c = some o → h9.get? c = some o := fun c o n e => b9.extBut _ _ n (b8.extBut _ _ n (Heap.get?_push_of_some _ e))
  have nz : h7.objs.size ≠ z := Nat.ne_of_gt (Heap.lt_size z7)
  have p9 : IsPair h9 h7.objs.size x y := b9.extBut _ _ nz (b8.extBut _ _ nz (Heap.get?_push_size _ rfl))
  refine wpAny_pure ⟨_, rfl, ?_⟩
  show Q (.ref h7.objs.size) _
  rw [sz] at z9 p9 ⊢
  exact hQ h9 z9 (up _ _ D.TOz o7) (G1.keep' _ _ (fun c hc o e => up c o (fun q => r1.1 (q ▸ hc)) e) t1) (G2.keep' _ _ (fun c hc o e => up c o (fun q => r2.1 (q ▸ hc)) e) t2) p9 fun c o n e => up c o (fun q => n (by simp [q])) (old c o n e)
theorem Zs4 {z TI TO i1 i2 : Addr} {f1 f2 : List Addr} {S1 T1 S2 : Heap → Prop} {a b : Value} {Q : Fin → Shared → Prop} (hh : A.handled = none) (D : ZA z TI TO i1 i2 f1 f2) (g1 : Zg8 P w i1 f1 S1 ∨ (∃ x, Gives P w i1 f1 S1 x T1) ∧ Zg8 P w i2 f2 S2)
    (hz : IsZip s.heap z TI TO .none) (hTI : IsPair s.heap TI (.ref i1) (.ref i2)) (hTO : IsPair s.heap TO a b) (h1 : S1 s.heap) (h2 : S2 s.heap)
    (hE : ∀ h' e, (∀ c o, c ∉ [z, TO, i1, i2] → s.heap.get? c = some o → h'.get? c = some o) → (∃ o, h'.get? e = some o ∧ o.cls = .type "StopIteration") → E (.ref e) { s with heap := h' }) :
    wpAny (model P w) A (Builtin.«zip.__next__» ⟨[.ref z], []⟩) Q E s := by
  have r1 : z ∉ f1 ∧ TO ∉ f1 ∧ i2 ∉ f1 := ⟨fun m => (D.a1 z m).1 rfl, fun m => (D.a1 TO m).2.1 rfl, fun m => (D.a1 i2 m).2.2 rfl⟩
  have r2 : z ∉ f2 ∧ TO ∉ f2 ∧ i1 ∉ f2 := ⟨fun m => (D.a2 z m).1 rfl, fun m => (D.a2 TO m).2.1 rfl, fun m => (D.a2 i1 m).2.2 rfl⟩
  have st : ∀ {b : Addr} {h h' : Heap} {f : List Addr}, Heap.SameBut b h h' → b ∉ f → ∀ c ∈ f, ∀ o, h.get? c = some o → h'.get? c = some o := fun sb hb c hc o e => sb.extBut _ _ (fun q => hb (q ▸ hc)) e
  show wpAny _ _ (field (.ref z) 2 >>= _) _ _ _
  refine wpAny_bind (wpAny_field hz rfl (x := .bool false) rfl ?_)
  show wpAny _ _ (field (.ref z) 3 >>= _) _ _ _
  refine wpAny_bind (wpAny_field hz rfl (x := .ref TI) rfl (wpAny_bind (wpAny_seqItems hTI rfl ?_)))
  show wpAny _ _ (Builtin.SmallTypes.ownedTupleIsFree (.ref z) >>= _) _ _ _
  refine wpAny_bind ?_
  unfold Builtin.SmallTypes.ownedTupleIsFree
  refine wpAny_bind (wpAny_field hz rfl (x := .none) rfl (wpAny_pure ?_))
  simp only [if_true]
  refine wpAny_bind (wpAny_rule (wpAny_bind (wpAny_field hz rfl (x := .ref TO) rfl (wpAny_bind (wpAny_setField_rec hz (by simp) fun h3 z3 b3 => ?_)))))
  replace z3 : IsZip h3 z TI TO .ellipsis := z3
  refine wpAny_bind ?_
  simp only [List.zipIdx_cons, List.zipIdx_nil, List.forIn_cons, List.forIn_nil]
  refine wpAny_bind (wpAny_bind (wpAny_onRaise ?_))
  show wpAny _ _ (Builtin.SmallTypes.nextOf (.ref i1) >>= _) _ _ _
  rcases g1 with G1 | ⟨⟨x, G1⟩, G2⟩
  · obtain ⟨i1z, i1O, i12⟩ := D.a1 i1 G1.mem
    refine wpAny_bind (G1.run (s := { s with heap := h3 }) hh (G1.keep _ _ (st b3 r1.1) h1) fun h4 e b4 he => ?_)
    obtain ⟨oe, hoe, hce⟩ := he
    have z4 : IsZip h4 z TI TO .ellipsis := b4 _ _ i1z.symm z3
    have ez : e ≠ z := fun q => by subst q; rw [z4] at hoe; cases hoe; simp at hce
    refine wpAny_setField_rec z4 (by simp) fun h5 _ b5 => hE h5 e (fun c o n q => ?_) ⟨oe, b5.extBut _ _ ez hoe, hce⟩
    simp only [List.mem_cons, List.not_mem_nil, or_false, not_or] at n
    exact b5.extBut _ _ n.1 (b4 _ _ n.2.2.1 (b3.extBut _ _ n.1 q))
  · obtain ⟨i1z, i1O, i12⟩ := D.a1 i1 G1.mem
    obtain ⟨i2z, i2O, i21⟩ := D.a2 i2 G2.mem
    refine wpAny_bind (G1.run (s := { s with heap := h3 }) (G1.keep _ _ (st b3 r1.1) h1) fun h4 k4 b4 => wpAny_pure ?_)
    have o4 : IsPair h4 TO a b := b4.extBut _ _ i1O.symm (b3.extBut _ _ D.TOz hTO)
    refine wpAny_bind (wpAny_seqItems o4 rfl (wpAny_bind (Zi7 (s := { s with heap := h4 }) o4 fun h5 o5 b5 => wpAny_bind (wpAny_letGo (wpAny_pure ?_)))))
    refine wpAny_bind (wpAny_bind (wpAny_onRaise ?_))
    show wpAny _ _ (Builtin.SmallTypes.nextOf (.ref i2) >>= _) _ _ _
    refine wpAny_bind (G2.run (s := { s with heap := h5 }) hh (G2.keep _ _ (st b5 r2.2.1) (G2.keep _ _ (st b4 r2.2.2) (G2.keep _ _ (st b3 r2.1) h2))) fun h6 e b6 he => ?_)
    obtain ⟨oe, hoe, hce⟩ := he
    have z6 : IsZip h6 z TI TO .ellipsis := b6 _ _ i2z.symm (b5.extBut _ _ D.TOz.symm (b4.extBut _ _ i1z.symm z3))
    have ez : e ≠ z := fun q => by subst q; rw [z6] at hoe; cases hoe; simp at hce
    refine wpAny_setField_rec z6 (by simp) fun h7 _ b7 => hE h7 e (fun c o n q => ?_) ⟨oe, b7.extBut _ _ ez hoe, hce⟩
    simp only [List.mem_cons, List.not_mem_nil, or_false, not_or] at n
    exact b7.extBut _ _ n.1 (b6 _ _ n.2.2.2 (b5.extBut _ _ n.2.1 (b4.extBut _ _ n.2.2.1 (b3.extBut _ _ n.1 q))))
theorem Znl {z TI TO i1 i2 : Addr} {f1 f2 : List Addr} {S1 T1 S2 T2 : Heap → Prop} {x y a b : Value} {Q : Option Value → Shared → Prop} (D : ZA z TI TO i1 i2 f1 f2) (G1 : Gives P w i1 f1 S1 x T1) (G2 : Gives P w i2 f2 S2 y T2)
    (hz : IsZip s.heap z TI TO .none) (hTI : IsPair s.heap TI (.ref i1) (.ref i2)) (hTO : IsPair s.heap TO a b) (h1 : S1 s.heap) (h2 : S2 s.heap)
    (hQ : ∀ h', IsZip h' z TI TO (rawInt s.heap.objs.size) → IsPair h' TO x y → T1 h' → T2 h' → IsPair h' s.heap.objs.size x y →
      (∀ c o, c ∉ [z, TO, i1, i2] → s.heap.get? c = some o → h'.get? c = some o) → Q (some (.ref s.heap.objs.size)) { s with heap := h' }) : wpAny (model P w) A (pyNext (.ref z)) Q E s := by
  have hT : s.TypeIs (.ref z) "zip" := ⟨_, hz, rfl⟩
  unfold pyNext
  exact wpAny_bind (wpAny_attempt (wpAny_callSpecial?_slot (name := Str.ofString "__next__") hT F.slot_zip_next (wpAny_call_entry F.slot_zip_next hT F.entry_zip_next (Zqb D G1 G2 hz hTI hTO h1 h2 fun h' a1 a2 a3 a4 a5 a6 => wpAny_pure (hQ h' a1 a2 a3 a4 a5 a6)) (F.args_zip_next_1 _))))
theorem Zom {z TI TO i1 i2 : Addr} {f1 f2 : List Addr} {S1 T1 S2 : Heap → Prop} {a b : Value} {Q : Option Value → Shared → Prop} (hh : A.handled = none) (D : ZA z TI TO i1 i2 f1 f2) (g1 : Zg8 P w i1 f1 S1 ∨ (∃ x, Gives P w i1 f1 S1 x T1) ∧ Zg8 P w i2 f2 S2)
    (hz : IsZip s.heap z TI TO .none) (hTI : IsPair s.heap TI (.ref i1) (.ref i2)) (hTO : IsPair s.heap TO a b) (h1 : S1 s.heap) (h2 : S2 s.heap)
    (hQ : ∀ h', (∀ c o, c ∉ [z, TO, i1, i2] → s.heap.get? c = some o → h'.get? c = some o) → Q none { s with heap := h' }) : wpAny (model P w) A (pyNext (.ref z)) Q E s := by
  have hT : s.TypeIs (.ref z) "zip" := ⟨_, hz, rfl⟩
  unfold pyNext
  refine wpAny_bind (wpAny_attempt (wpAny_callSpecial?_slot (name := Str.ofString "__next__") hT F.slot_zip_next (wpAny_call_entry F.slot_zip_next hT F.entry_zip_next (Zs4 hh D g1 hz hTI hTO h1 h2 fun h' e hk he => ?_) (F.args_zip_next_1 _))))
  obtain ⟨o, ho, hc⟩ := he
  exact wpAny_bind (wpAny_isInstance (T := "StopIteration") (b := true) ⟨o, ho, hc⟩ isSubtype_stop (wpAny_pure (hQ _ hk)))
theorem Zp7 {it t : Addr} {i : Nat} {items : Array Value} {x : Value} (hx : items[i]? = some x) : Gives P w it [it, t] (fun h => IsTupIter h it t i ∧ IsTup h t items) x (fun h => IsTupIter h it t (i + 1)) where
  mem := by simp
  run := fun {A E s Q} ⟨hit, ht⟩ hQ => by
    obtain ⟨o, ho, hc, hd⟩ := id hit
    obtain ⟨ol, hol, _, nl, hdl⟩ := ht
    unfold Builtin.SmallTypes.nextOf
    refine wpAny_bind (wpAny_callSpecial?_slot (name := Str.ofString "__next__") hit.typeIs slot_tupleiter_next (wpAny_call_entry slot_tupleiter_next hit.typeIs entry_tupleiter_next ?_ (args_tupleiter_next _)))
    show wpAny _ _ (field (.ref it) 0 >>= _) _ _ s
    refine wpAny_bind (wpAny_field ho hd (x := .ref t) rfl ?_)
    show wpAny _ _ (if (Value.ref t == Value.none) = true then _ else _) _ _ s
    rw [if_neg (show ¬ ((Value.ref t == Value.none) = true) from Bool.false_ne_true)]
    show wpAny _ _ (field (.ref it) 1 >>= _) _ _ s
    refine wpAny_bind (wpAny_field ho hd (x := .int i 0) rfl ?_)
    show wpAny _ _ (seqItems? (.ref t) >>= _) _ _ s
    refine wpAny_bind (wpAny_seqItems hol hdl ?_)
    simp only [Int.toNat_natCast, hx]
    refine wpAny_bind (wpAny_setField ho hd (by simp) (wpAny_pure ⟨x, rfl, wpAny_pure (hQ _ ?_ (Heap.SameBut.update ..))⟩))
    exact ⟨_, Heap.get?_update_self _ ho (Obj.isFreed_of_fields (Obj.data_mapFields hd _)), (Obj.cls_mapFields ..).trans hc, by rw [Obj.data_mapFields hd]; simp [rawInt]⟩
  keep := fun h h' k ⟨⟨o, a1, a2⟩, ⟨o', b1, b2⟩⟩ => ⟨⟨o, k it (by simp) o a1, a2⟩, ⟨o', k t (by simp) o' b1, b2⟩⟩
  keep' := fun h h' k ⟨o, a1, a2⟩ => ⟨o, k it (by simp) o a1, a2⟩
theorem Zr2 {it t : Addr} {i : Nat} {items : Array Value} (hx : items[i]? = none) : Zg8 P w it [it, t] (fun h => IsTupIter h it t i ∧ IsTup h t items) where
  mem := by simp
  run := fun {A E s Q} hh ⟨hit, ht⟩ hE => by
    obtain ⟨o, ho, hc, hd⟩ := id hit
    obtain ⟨ol, hol, _, nl, hdl⟩ := ht
    unfold Builtin.SmallTypes.nextOf
    refine wpAny_bind (wpAny_callSpecial?_slot (name := Str.ofString "__next__") hit.typeIs slot_tupleiter_next (wpAny_call_entry slot_tupleiter_next hit.typeIs entry_tupleiter_next ?_ (args_tupleiter_next _)))
    show wpAny _ _ (field (.ref it) 0 >>= _) _ _ s
    refine wpAny_bind (wpAny_field ho hd (x := .ref t) rfl ?_)
    show wpAny _ _ (if (Value.ref t == Value.none) = true then _ else _) _ _ s
    rw [if_neg (show ¬ ((Value.ref t == Value.none) = true) from Bool.false_ne_true)]
    show wpAny _ _ (field (.ref it) 1 >>= _) _ _ s
    refine wpAny_bind (wpAny_field ho hd (x := .int i 0) rfl ?_)
    show wpAny _ _ (seqItems? (.ref t) >>= _) _ _ s
    refine wpAny_bind (wpAny_seqItems hol hdl ?_)
    simp only [Int.toNat_natCast, hx]
    refine wpAny_bind (wpAny_rule (wpAny_bind (wpAny_setField ho hd (by simp) ?_)))
    show wpAny _ _ (newExc (.type "StopIteration") [] >>= _) _ _ _
    refine wpAny_bind ?_
    simp only [newExc, newTuple]
    refine wpAny_bind (wpAny_newObj_type ?_ (by size_fits))
    refine wpAny_bind (m := firstArgMember _ _) (wpAny_of_eq (a := Value.none) (by first | rfl | (simp only [firstArgMember]; rfl)) ?_)
    refine wpAny_newObj_type ?_ (by size_fits)
    simp only [raiseNew]
    refine wpAny_bind (wpAny_handled ?_)
    first | rw [show A.in1.handled = none from hh] | rw [hh]
    exact wpAny_bind (wpAny_pure (wpAny_throw (hE _ _ (((Heap.SameBut.update ..).extBut.push _).push _) ⟨_, Heap.get?_push_size _ rfl, rfl⟩)))
  keep := fun h h' k ⟨⟨o, a1, a2⟩, ⟨o', b1, b2⟩⟩ => ⟨⟨o, k it (by simp) o a1, a2⟩, ⟨o', k t (by simp) o' b1, b2⟩⟩
end
noncomputable abbrev zT1 (h : Heap) (a : Addr) : Heap := h.push { cls := .type "tuple_iterator", data := .fields #[.ref a, .int 0 0] }
noncomputable abbrev zT2 (h : Heap) (a b : Addr) : Heap := (zT1 h a).push { cls := .type "tuple_iterator", data := .fields #[.ref b, .int 0 0] }
noncomputable abbrev zT3 (h : Heap) (a b : Addr) : Heap := (zT2 h a b).push { cls := .type "tuple", data := .seq #[.ref h.objs.size, .ref (zT1 h a).objs.size] }
noncomputable abbrev zT4 (h : Heap) (a b : Addr) : Heap := (zT3 h a b).push { cls := .type "tuple", data := .seq #[.none, .none] }
noncomputable abbrev zT5 (h : Heap) (a b : Addr) : Heap := (zT4 h a b).push { cls := .type "zip", data := .fields #[.none, .bool false, .bool false, .ref (zT2 h a b).objs.size, .ref (zT3 h a b).objs.size] }
theorem Ztu (a b : Addr) (xs ys : Array Value) :
    Meets (Builtin.«zip.__new__» ⟨[.type "zip", .ref a, .ref b], []⟩) (fun _ R s => IsTup s.heap a xs ∧ IsTup s.heap b ys ∧ R (.ok (.ret (.ref (zT4 s.heap a b).objs.size))) { s with heap := zT5 s.heap a b }) :=
  .of_wp fun prog w A R s h => by
    obtain ⟨hp, g, d, tk, os⟩ := s
    obtain ⟨h1, h2, h⟩ := h
    have hsub := sub_zip
    have hL1 : IsTup (Shared.heap ⟨hp, g, d, tk, os⟩) a xs := h1
    have hL2 : IsTup (Shared.heap ⟨hp.push { cls := .type "tuple_iterator", data := .fields #[.ref a, .int 0 0] }, g, d, tk, os⟩) b ys := h2.push _
    wp_walk using iter_tuple hL1, iter_tuple hL2
    exact ⟨_, rfl, h⟩
section
variable {P : Program} {w : World} {A : Around} {E : Value → Shared → Prop} {s : Shared}
theorem Zpu {a b : Addr} {xs ys : Array Value} {Q : Value → Shared → Prop} (h1 : IsTup s.heap a xs) (h2 : IsTup s.heap b ys)
    (h : ∀ h' n, n = s.heap.objs.size → IsZip h' (n + 4) (n + 2) (n + 3) .none → IsPair h' (n + 2) (.ref n) (.ref (n + 1)) → IsPair h' (n + 3) .none .none → IsTupIter h' n a 0 → IsTupIter h' (n + 1) b 0 →
      (∀ c o, s.heap.get? c = some o → h'.get? c = some o) → Q (.ref (n + 4)) { s with heap := h' }) : wpAny (model P w) A (call (.type "zip") [.ref a, .ref b]) Q E s := by
  refine callType_new F.called_zip (by decide) (F.typeCall_zip_2 _ _) (F.newCall_zip_2 _ _) (fun obj => F.args_object_init_3 obj _ _) F.entry_zip_new (Ztu a b xs ys) ⟨h1, h2, ?_⟩
  have e1 : (zT1 s.heap a).objs.size = s.heap.objs.size + 1 := Heap.size_push ..
  have e2 : (zT2 s.heap a b).objs.size = s.heap.objs.size + 2 := by rw [Heap.size_push, e1]
  have e3 : (zT3 s.heap a b).objs.size = s.heap.objs.size + 3 := by rw [Heap.size_push, e2]
  have e4 : (zT4 s.heap a b).objs.size = s.heap.objs.size + 4 := by rw [Heap.size_push, e3]
  have up : ∀ {c o}, (zT1 s.heap a).get? c = some o → (zT5 s.heap a b).get? c = some o := fun x => Heap.get?_push_of_some _ (Heap.get?_push_of_some _ (Heap.get?_push_of_some _ (Heap.get?_push_of_some _ x)))
  have p5 : (zT5 s.heap a b).get? (zT4 s.heap a b).objs.size = some _ := Heap.get?_push_size _ rfl
  have p4 : (zT5 s.heap a b).get? (zT3 s.heap a b).objs.size = some _ := Heap.get?_push_of_some _ (Heap.get?_push_size _ rfl)
  have p3 : (zT5 s.heap a b).get? (zT2 s.heap a b).objs.size = some _ := Heap.get?_push_of_some _ (Heap.get?_push_of_some _ (Heap.get?_push_size _ rfl))
  have p2 : (zT5 s.heap a b).get? (zT1 s.heap a).objs.size = some _ := Heap.get?_push_of_some _ (Heap.get?_push_of_some _ (Heap.get?_push_of_some _ (Heap.get?_push_size _ rfl)))
  have p1 : (zT5 s.heap a b).get? s.heap.objs.size = some _ := up (Heap.get?_push_size _ rfl)
  show _ ∧ _
  rw [e2, e3, e4] at p5
  rw [e1, e2] at p3
  rw [e3] at p4
  rw [e1] at p2
  rw [e4]
  exact ⟨⟨_, p5, rfl⟩, h _ _ rfl p5 p3 p4 ⟨_, p1, rfl, rfl⟩ ⟨_, p2, rfl, rfl⟩ fun c o x => up (Heap.get?_push_of_some _ x)⟩
end
theorem nn {n a b : Nat} (h : a ≠ b) : n + a ≠ n + b := fun e => h (Nat.add_left_cancel e)
theorem n0 {n b : Nat} (h : 0 ≠ b) : n ≠ n + b := fun e => h (Nat.add_left_cancel (n := n) e)
theorem nlt {n a c : Nat} (h : a < n) : a ≠ n + c := Nat.ne_of_lt (Nat.lt_of_lt_of_le h (Nat.le_add_right ..))
theorem ZA.new {n a b : Nat} (h1 : a < n) (h2 : b < n) : ZA (n + 4) (n + 2) (n + 3) n (n + 1) [n, a] [n + 1, b] where
  TIz := (by first | exact nn (by decide) | exact n0 (by decide) | exact (n0 (by decide)).symm | exact nlt h1 | exact nlt h2 | exact (nlt h1).symm | exact (nlt h2).symm | exact Nat.ne_of_lt h1 | exact Nat.ne_of_lt h2 | exact Nat.ne_of_gt h1 | exact Nat.ne_of_gt h2 | omega)
  TOz := (by first | exact nn (by decide) | exact n0 (by decide) | exact (n0 (by decide)).symm | exact nlt h1 | exact nlt h2 | exact (nlt h1).symm | exact (nlt h2).symm | exact Nat.ne_of_lt h1 | exact Nat.ne_of_lt h2 | exact Nat.ne_of_gt h1 | exact Nat.ne_of_gt h2 | omega)
  a1 := fun c hc => by
    simp only [List.mem_cons, List.not_mem_nil, or_false] at hc
    rcases hc with rfl | rfl
    · exact ⟨(by first | exact nn (by decide) | exact n0 (by decide) | exact (n0 (by decide)).symm | exact nlt h1 | exact nlt h2 | exact (nlt h1).symm | exact (nlt h2).symm | exact Nat.ne_of_lt h1 | exact Nat.ne_of_lt h2 | exact Nat.ne_of_gt h1 | exact Nat.ne_of_gt h2 | omega), (by first | exact nn (by decide) | exact n0 (by decide) | exact (n0 (by decide)).symm | exact nlt h1 | exact nlt h2 | exact (nlt h1).symm | exact (nlt h2).symm | exact Nat.ne_of_lt h1 | exact Nat.ne_of_lt h2 | exact Nat.ne_of_gt h1 | exact Nat.ne_of_gt h2 | omega), (by first | exact nn (by decide) | exact n0 (by decide) | exact (n0 (by decide)).symm | exact nlt h1 | exact nlt h2 | exact (nlt h1).symm | exact (nlt h2).symm | exact Nat.ne_of_lt h1 | exact Nat.ne_of_lt h2 | exact Nat.ne_of_gt h1 | exact Nat.ne_of_gt h2 | omega)⟩
    · exact ⟨(by first | exact nn (by decide) | exact n0 (by decide) | exact (n0 (by decide)).symm | exact nlt h1 | exact nlt h2 | exact (nlt h1).symm | exact (nlt h2).symm | exact Nat.ne_of_lt h1 | exact Nat.ne_of_lt h2 | exact Nat.ne_of_gt h1 | exact Nat.ne_of_gt h2 | omega), (by first | exact nn (by decide) | exact n0 (by decide) | exact (n0 (by decide)).symm | exact nlt h1 | exact nlt h2 | exact (nlt h1).symm | exact (nlt h2).symm | exact Nat.ne_of_lt h1 | exact Nat.ne_of_lt h2 | exact Nat.ne_of_gt h1 | exact Nat.ne_of_gt h2 | omega), (by first | exact nn (by decide) | exact n0 (by decide) | exact (n0 (by decide)).symm | exact nlt h1 | exact nlt h2 | exact (nlt h1).symm | exact (nlt h2).symm | exact Nat.ne_of_lt h1 | exact Nat.ne_of_lt h2 | exact Nat.ne_of_gt h1 | exact Nat.ne_of_gt h2 | omega)⟩
  a2 := fun c hc => by
    simp only [List.mem_cons, List.not_mem_nil, or_false] at hc
    rcases hc with rfl | rfl
    · exact ⟨(by first | exact nn (by decide) | exact n0 (by decide) | exact (n0 (by decide)).symm | exact nlt h1 | exact nlt h2 | exact (nlt h1).symm | exact (nlt h2).symm | exact Nat.ne_of_lt h1 | exact Nat.ne_of_lt h2 | exact Nat.ne_of_gt h1 | exact Nat.ne_of_gt h2 | omega), (by first | exact nn (by decide) | exact n0 (by decide) | exact (n0 (by decide)).symm | exact nlt h1 | exact nlt h2 | exact (nlt h1).symm | exact (nlt h2).symm | exact Nat.ne_of_lt h1 | exact Nat.ne_of_lt h2 | exact Nat.ne_of_gt h1 | exact Nat.ne_of_gt h2 | omega), (by first | exact nn (by decide) | exact n0 (by decide) | exact (n0 (by decide)).symm | exact nlt h1 | exact nlt h2 | exact (nlt h1).symm | exact (nlt h2).symm | exact Nat.ne_of_lt h1 | exact Nat.ne_of_lt h2 | exact Nat.ne_of_gt h1 | exact Nat.ne_of_gt h2 | omega)⟩
    · exact ⟨(by first | exact nn (by decide) | exact n0 (by decide) | exact (n0 (by decide)).symm | exact nlt h1 | exact nlt h2 | exact (nlt h1).symm | exact (nlt h2).symm | exact Nat.ne_of_lt h1 | exact Nat.ne_of_lt h2 | exact Nat.ne_of_gt h1 | exact Nat.ne_of_gt h2 | omega), (by first | exact nn (by decide) | exact n0 (by decide) | exact (n0 (by decide)).symm | exact nlt h1 | exact nlt h2 | exact (nlt h1).symm | exact (nlt h2).symm | exact Nat.ne_of_lt h1 | exact Nat.ne_of_lt h2 | exact Nat.ne_of_gt h1 | exact Nat.ne_of_gt h2 | omega), (by first | exact nn (by decide) | exact n0 (by decide) | exact (n0 (by decide)).symm | exact nlt h1 | exact nlt h2 | exact (nlt h1).symm | exact (nlt h2).symm | exact Nat.ne_of_lt h1 | exact Nat.ne_of_lt h2 | exact Nat.ne_of_gt h1 | exact Nat.ne_of_gt h2 | omega)⟩
theorem ZA.new2 (n : Nat) : (n + 2 : Nat) ≠ n + 3 ∧ (n + 2 : Nat) ≠ n ∧ (n + 2 : Nat) ≠ n + 1 := ⟨nn (by decide), (n0 (by decide)).symm, nn (by decide)⟩
section
variable {X : Cx} {io : List Nat} {p c : Bool} {a b : Expr} {mr : MAt}
noncomputable def Zyc (ds : List PyData) : Option (List PyData) := match ds with | [.list as, .list bs] => some (Zin as bs) | [.tuple as, .tuple bs] => some (Zin as bs) | _ => none
noncomputable def Zeg (a : FA) : FI := fun δ => (a δ).bind fun p => (Zyc (OT.datas p.1)).bind fun ds => some (ds, p.2)
end
end L2
namespace L2
open PySem PySem.Spec PyProof.Rows
noncomputable def Zen {α : Type} (xs : List α) (lo hi st : Option Int) : List α :=
  (sliceRange (sliceBounds lo hi st xs.length).1 (sliceBounds lo hi st xs.length).2.1 (sliceBounds lo hi st xs.length).2.2).filterMap (xs[·]?)
theorem Vals.places : ∀ {xs : List V} {its : List Value}, Vals xs its → ∀ js : List Nat, Vals (js.filterMap (xs[·]?)) (js.filterMap (its[·]?))
  | _, _, _, [] => .nil
  | xs, its, h, j :: js => by
    have ih := Vals.places h js
    cases hn : xs[j]? with
    | some x =>
      obtain ⟨u, hu, ru⟩ := h.get hn
      simp only [List.filterMap_cons, hn, hu]
      exact .cons ru ih
    | none =>
      have hv : its[j]? = none := by
        rw [List.getElem?_eq_none_iff] at hn ⊢
        rw [← h.length]; exact hn
      simp only [List.filterMap_cons, hn, hv]
      exact ih
theorem Das.places {G : PySem.W.Frag} {H : Hp} {L : Addr → Prop} {xs : List V} {ds : List PyData} (h : Das G H L xs ds) : ∀ js : List Nat, Das G H L (js.filterMap (xs[·]?)) (js.filterMap (ds[·]?))
  | [] => .nil
  | j :: js => by
    have ih := Das.places h js
    cases hn : ds[j]? with
    | some x =>
      obtain ⟨u, hu, ru⟩ := h.get hn
      simp only [List.filterMap_cons, hn, hu]
      exact .cons ru ih
    | none =>
      have hv : xs[j]? = none := by
        rw [List.getElem?_eq_none_iff] at hn ⊢
        rw [h.length]; exact hn
      simp only [List.filterMap_cons, hn, hv]
      exact ih
theorem Das.pick {G : PySem.W.Frag} {H : Hp} {L : Addr → Prop} {xs : List V} {ds : List PyData} (h : Das G H L xs ds) (lo hi st : Option Int) : Das G H L (Zen xs lo hi st) (Zen ds lo hi st) := by
  unfold Zen
  rw [h.length]
  exact h.places _
theorem Vals.pick {xs : List V} {its : List Value} (h : Vals xs its) (lo hi st : Option Int) : Vals (Zen xs lo hi st) (slicePick its.toArray lo hi st).toList := by
  have e : (slicePick its.toArray lo hi st).toList = (sliceRange (sliceBounds lo hi st xs.length).1 (sliceBounds lo hi st xs.length).2.1 (sliceBounds lo hi st xs.length).2.2).filterMap (its[·]?) := by
    simp [slicePick, h.length]
  rw [e]
  exact h.places _
theorem Zfz {xs : List V} {its : List Value} (h : Vals xs its) (lo hi st : Option Int) : (Zen xs lo hi st).length ≤ xs.length := by
  have e := (h.pick lo hi st).length
  have s := slicePick_size_le its.toArray lo hi st
  have l := h.length
  simp only [Array.length_toList, List.size_toArray] at e s
  omega
section
variable {X : Cx} {e : Expr} {te : TE} {lo hi : Option Expr} {se : Expr} {tl th ts : TO} {pos p2 : Pos}
noncomputable def tSt (K : PySem.W.Frag) (te : TE) (tl th ts : TO) : TE := fun σ H Q => te σ H fun x H1 => tl σ H1 fun l H2 => th σ H2 fun u H3 => ts σ H3 fun k H4 => ∃ a xs, x = .ref a ∧ SqL K H4 a xs ∧ k ≠ some 0 ∧ ∀ p, H4 p = none → Q (.ref p) (upd H4 p (.lst (Zen xs l u k)))
theorem Zwz (he : PE X e te) (hl : PO X lo tl) (hu : PO X hi th) (hst : PO X (some se) ts) : PE X (.Subscript e (.Slice lo hi (some se) p2) pos) (tSt X.K te tl th ts) := by
  intro pins s σ H Q I h
  refine Subscript_ (thn (he pins s σ H _ I h) fun v s1 qz9 => ?_)
  obtain ⟨x, H1, I1, r1, q1⟩ := qz9
  refine wpAny_Slice (thn (hl pins s1 σ H1 _ I1 q1) fun vl s2 qz9 => ?_)
  obtain ⟨l, H2, I2, pl, q2⟩ := qz9
  refine thn (hu pins s2 σ H2 _ I2 q2) fun vu s3 qz9 => ?_
  obtain ⟨u, H3, I3, pu, q3⟩ := qz9
  refine thn (hst pins s3 σ H3 _ I3 q3) fun vs s4 qz9 => ?_
  obtain ⟨k, H4, I4, ps, q4⟩ := qz9
  obtain ⟨a, xs, rfl, hx, hk, q⟩ := q4
  cases r1
  have I5 : Inv X pins σ H4 { s4 with heap := s4.heap.push { cls := .type "slice", data := .fields #[vl, vu, vs] } } := I4.kept (t' := s4.toks) fun b ob q => Heap.get?_push_of_some _ q
  obtain ⟨its, r, ht, hz⟩ := I5.list hx
  have hlen := r.length
  show wpAny (model X.prog X.w) X.A (subscriptTail e (.Slice lo hi (some se) p2) (.ref a) (.ref s4.heap.objs.size)) (EP X pins σ Q) X.xe { s4 with heap := s4.heap.push { cls := .type "slice", data := .fields #[vl, vu, vs] } }
  refine tail_any (ops := [.ref a, .ref s4.heap.objs.size]) ht.isList.typeIs slot_list_getitem.lookup ?_ (by with_unfolding_all rfl)
  refine wpAny_getItem_list_slice ht.isList (Heap.IsSliceOf.new ..) pl pu ps hk ?_ (by rw [List.size_toArray] <;> omega)
  refine ⟨.ref _, _, I5.laid (t' := s4.toks) (o := .lst (Zen xs l u k)) (fun b ob q => Heap.get?_push_of_some _ q) (Nat.le_refl _) ?_, rfl, q _ (I5.hok.fresh (Nat.le_refl _))⟩
  exact ⟨Nat.le_trans (Zfz r l u k) hz, _, 0, r.pick l u k, Heap.get?_push_size _ rfl⟩
end
section
variable {X : Cx} {io : List Nat} {p c : Bool} {a e : Expr} {ma : MEt} {lo hi : Option Expr} {se : Expr} {ml mh ms : MOt} {pos p2 : Pos} {fa : FE}
noncomputable def Z0v (m : MEt) (ml mh ms : MOt) : MEt := fun δ K => m δ fun r δ1 => ml δ1 fun lo δ2 => mh δ2 fun hi δ3 => ms δ3 fun st δ4 => st ≠ some 0 ∧ asL r.data fun ds => K (.nd ((Zen ds lo hi st).map OT.fz)) δ4
theorem Zza (ha : ME X io true c a ma) (hl : MO X io true lo ml) (hh : MO X io true hi mh) (hs : MO X io true (some se) ms) : ME X io true c (.Subscript a (.Slice lo hi (some se) p2) pos) (Z0v ma ml mh ms) := by
  obtain ⟨_, A, s⟩ := ha
  obtain ⟨_, B, sl⟩ := hl
  obtain ⟨_, D, sh⟩ := hh
  obtain ⟨_, F, ss⟩ := hs
  refine ⟨_, Zwz A B D F, ?_⟩
  intro C H σ δ fp ex K' Q R h k
  refine s C H σ δ fp ex _ _ R h fun H1 v r δ1 fp1 new r1 h1 => ?_
  refine sl C H1 σ δ1 fp1 ex _ _ r1.base h1 fun H2 l δ2 fp2 R2 S2 h2 => ?_
  refine sh C H2 σ δ2 fp2 ex _ _ R2 h2 fun H3 u δ3 fp3 R3 S3 h3 => ?_
  refine ss C H3 σ δ3 fp3 ex _ _ R3 h3 fun H4 w δ4 fp4 R4 S4 h4 => ?_
  obtain ⟨hw, h4⟩ := h4
  have s2 : Same H1 H2 := fun b o e => S2.keep b o e (.inl rfl)
  have s3 : Same H2 H3 := fun b o e => S3.keep b o e (.inl rfl)
  have s4 : Same H3 H4 := fun b o e => S4.keep b o e (.inl rfl)
  obtain ⟨e3, e4⟩ := S2.env rfl
  obtain ⟨e5, e6⟩ := S3.env rfl
  obtain ⟨e7, e8⟩ := S4.env rfl
  have q := (((r1.da R).same s2).same s3).same s4
  obtain ⟨a', xs, ds, rfl, e, qs, h4⟩ := q.lstInv h4
  refine ⟨a', xs, rfl, e, hw, fun p hp => ?_⟩
  have S := ((r1.stp.trans S2).trans S3).trans S4
  refine k _ _ _ δ4 fp4 [p] (RE.tree R R4 S (Z7 hp _) (Zbk hp) (Zdw p) (Own.list hp ((qs.pick l u w).wide fun a l _ => ?_))) h4
  rw [e8, e6, e4]
  exact l
noncomputable def stepOf (d : PyData) (lo hi st : Option Int) : Option OT := match d with | .list ds => if st = some 0 then none else some (.nd ((Zen ds lo hi st).map OT.fz)) | _ => none
noncomputable def Ztj (e : FE) (lo hi st : FO) : FE := fun δ => (e δ).bind fun p => (lo p.2).bind fun q => (hi q.2).bind fun r => (st r.2).bind fun t => (stepOf p.1.data q.1 r.1 t.1).bind fun o => some (o, t.2)
theorem Zv0 {lo hi st : FO} (h : ME X io p c e (Z0v (o2 fa) (o2 lo) (o2 hi) (o2 st))) : ME X io p c e (o2 (Ztj fa lo hi st)) := h.weak fun δ K h => by
  obtain ⟨r, δ', h, k⟩ := h
  obtain ⟨⟨x, δ1⟩, h1, h⟩ := bs h
  obtain ⟨⟨y, δ2⟩, h2, h⟩ := bs h
  obtain ⟨⟨z, δ3⟩, h3, h⟩ := bs h
  obtain ⟨⟨t, δ4⟩, h4, h⟩ := bs h
  obtain ⟨o, h5, h⟩ := bs h
  cases h
  refine ⟨x, δ1, h1, y, δ2, h2, z, δ3, h3, t, δ4, h4, ?_⟩
  unfold stepOf at h5
  dsimp only at h5 ⊢
  split at h5
  · rename_i q
    split at h5
    · cases h5
    · rename_i n
      cases h5
      refine ⟨n, ?_⟩
      rw [show x.data = _ from q]
      exact k
  · cases h5
end
theorem Zhv {α β : Type} {f g : α → Option β} : ∀ {l : List α}, (∀ k ∈ l, f k = g k) → l.filterMap f = l.filterMap g
  | [], _ => rfl
  | a :: l, h => by
    rw [List.filterMap_cons, List.filterMap_cons, h a (by simp), Zhv fun k hk => h k (by simp [hk])]
theorem Zqm {α : Type} (xs : List α) : Zen xs none none (some (-1)) = xs.reverse := by
  unfold Zen sliceRange sliceBounds
  simp only [Option.getD_some]
  have d0 : ¬ ((-1 : Int) > 0) := by decide
  simp only [if_neg d0]
  have hc : (if (xs.length : Int) - 1 > -1 then ((xs.length : Int) - 1 - -1 - -1 - 1) / (- -1) else 0) = (xs.length : Int) := by
    split
    · simp
    · omega
  rw [hc, List.filterMap_map, Int.toNat_natCast]
  apply List.ext_getElem?
  intro i
  have hf : List.filterMap ((fun x => xs[x]?) ∘ fun k : Nat => ((xs.length : Int) - 1 + -1 * (k : Int)).toNat) (List.range xs.length) = xs.reverse := by
    have : ∀ k ∈ List.range xs.length, ((fun x => xs[x]?) ∘ fun k : Nat => ((xs.length : Int) - 1 + -1 * (k : Int)).toNat) k = xs.reverse[k]? := fun k hk => by
      have hk := List.mem_range.mp hk
      show xs[((xs.length : Int) - 1 + -1 * (k : Int)).toNat]? = _
      rw [List.getElem?_reverse hk]
      congr 1
      omega
    rw [Zhv this]
    have gen : ∀ (ys : List α) (m : Nat), m = ys.length → List.filterMap (fun k => ys[k]?) (List.range m) = ys := by
      intro ys
      induction ys with
      | nil => intro m hm; subst hm; rfl
      | cons y ys ih =>
        intro m hm
        subst hm
        rw [List.length_cons, List.range_succ_eq_map, List.filterMap_cons]
        simp only [List.getElem?_cons_zero, List.filterMap_map]
        exact congrArg _ (ih _ rfl)
    exact gen _ _ (by simp)
  rw [hf]
theorem Znq {α : Type} (xs : List α) : Zen xs none (some 0) (some (-1)) = (xs.drop 1).reverse := by
  cases xs with
  | nil => rfl
  | cons y ys =>
    rw [List.drop_succ_cons, List.drop_zero, ← Zqm ys]
    unfold Zen sliceRange sliceBounds
    simp only [Option.getD_some, List.length_cons]
    have d0 : ¬ ((-1 : Int) > 0) := by decide
    have d1 : ¬ ((0 : Int) < 0) := by decide
    simp only [if_neg d0, if_neg d1]
    have e0 : max (-1 : Int) (min 0 (((ys.length + 1 : Nat) : Int) - 1)) = 0 := by omega
    rw [e0]
    have c1 : (if ((ys.length + 1 : Nat) : Int) - 1 > 0 then (((ys.length + 1 : Nat) : Int) - 1 - 0 - -1 - 1) / (- -1) else 0) = (ys.length : Int) := by
      split
      · simp
      · omega
    have c2 : (if (ys.length : Int) - 1 > -1 then ((ys.length : Int) - 1 - -1 - -1 - 1) / (- -1) else 0) = (ys.length : Int) := by
      split
      · simp
      · omega
    rw [c1, c2, List.filterMap_map, List.filterMap_map]
    refine Zhv fun k hk => ?_
    have hk : k < ys.length := by simpa using hk
    show (y :: ys)[(((ys.length + 1 : Nat) : Int) - 1 + -1 * (k : Int)).toNat]? = ys[((ys.length : Int) - 1 + -1 * (k : Int)).toNat]?
    rw [show (((ys.length + 1 : Nat) : Int) - 1 + -1 * (k : Int)).toNat = ((ys.length : Int) - 1 + -1 * (k : Int)).toNat + 1 by omega, List.getElem?_cons_succ]
theorem Zls (ds : List PyData) : stepOf (.list ds) none (some 0) (some (-1)) = some (.nd (((ds.drop 1).reverse).map OT.fz)) := by
  show (if some (-1 : Int) = some 0 then none else _) = _
  rw [Znq]; exact if_neg (by decide)
end L2
namespace L2
open PySem PySem.Spec PyProof.Rows
section
variable {X : Cx} {io : List Nat} {c1 c2 c3 c4 p : Bool} {a b e d : Expr} {ma mb mc md : MEt} {pos : Pos} {f g h : Int → Int → Bool} {ta tb tc td : TE} {fa fb fc fd : FE} {G : PySem.W.Frag}
end
end L2
namespace L2
open PySem PySem.Spec PyProof.Rows
variable {G : PySem.W.Frag}
section
variable {X : Cx} {io : List Nat} {p c : Bool} {a b e : Expr} {mr : MAt} {ra : FA} {i : Nat}
noncomputable def isFn (y : Str) (d : PyData) : Bool := match d with | .dict [(.str x, .bool true)] => decide (x = y) | _ => false
end
section
variable {X : Cx} {io : List Nat} {p c : Bool} {a : Expr} {mr : MAt} {ra : FA}
end
end L2
namespace L2
open PySem PySem.Spec PyProof.Rows
variable {G : PySem.W.Frag}
theorem Z05 {α : Type} {p : α → Prop} {a b c d : α} (h1 : p a) (h2 : p b) (h3 : p c) (h4 : p d) : ∀ x ∈ [a, b, c, d], p x := by
  intro x hx
  rcases List.mem_cons.mp hx with rfl | hx
  · exact h1
  rcases List.mem_cons.mp hx with rfl | hx
  · exact h2
  rcases List.mem_cons.mp hx with rfl | hx
  · exact h3
  rcases List.mem_singleton.mp hx with rfl
  exact h4
theorem Z4h {α : Type} {p : α → Prop} {a b c d e : α} (h1 : p a) (h2 : p b) (h3 : p c) (h4 : p d) (h5 : p e) : ∀ x ∈ [a, b, c, d, e], p x := fun x hx => (List.mem_cons.mp hx).elim (fun q => q ▸ h1) (Z05 h2 h3 h4 h5 x)
theorem no4 {α : Type} {a b c d x : α} (h1 : x ≠ a) (h2 : x ≠ b) (h3 : x ≠ c) (h4 : x ≠ d) : x ∉ [a, b, c, d] := fun hx => Z05 (p := fun y => x ≠ y) h1 h2 h3 h4 x hx rfl
noncomputable def SqB (K : PySem.W.Frag) (t : Bool) (H : Hp) (a : Addr) (xs : List V) : Prop := match t with | true => H a = some (.tup xs) | false => SqL K H a xs
noncomputable def IsB (t : Bool) (h : Heap) (a : Addr) (its : Array Value) : Prop := match t with | true => IsTup h a its | false => h.IsList a its
noncomputable def ItB (t : Bool) (h : Heap) (it a : Addr) (i : Nat) : Prop := match t with | true => IsTupIter h it a i | false => h.IsListIter it a i
theorem ItB.at {t : Bool} {h h' : Heap} {it a : Addr} {i : Nat} (x : ItB t h it a i) (k : ∀ o, h.get? it = some o → h'.get? it = some o) : ItB t h' it a i := by
  cases t with
  | false => exact Heap.IsListIter.at x k
  | true =>
    obtain ⟨o, ho, r⟩ := x
    exact ⟨o, k o ho, r⟩
theorem ItB.obj {t : Bool} {h : Heap} {it a : Addr} {i : Nat} (x : ItB t h it a i) : ∃ o, h.get? it = some o ∧ ∀ v, o.data ≠ .cell v := by
  cases t with
  | false =>
    obtain ⟨o, ho, _, d⟩ := x
    exact ⟨o, ho, fun v q => by rw [d] at q; cases q⟩
  | true =>
    obtain ⟨o, ho, _, d⟩ := x
    exact ⟨o, ho, fun v q => by rw [d] at q; cases q⟩
theorem IsB.lt {t : Bool} {h : Heap} {a : Addr} {its : Array Value} (x : IsB t h a its) : a < h.objs.size := by
  cases t with
  | false =>
    obtain ⟨o, ho, _⟩ := x
    exact Heap.lt_size ho
  | true =>
    obtain ⟨o, ho, _⟩ := x
    exact Heap.lt_size ho
theorem SqB.its {X : Cx} {pins : List (Addr × Obj)} {σ : St} {H : Hp} {s : Shared} {t : Bool} {a : Addr} {xs : List V} (I : Inv X pins σ H s) (h : SqB X.K t H a xs) : ∃ its : List Value, Vals xs its ∧ IsB t s.heap a its.toArray := by
  cases t with
  | false =>
    obtain ⟨its, r, p, _⟩ := I.list h
    exact ⟨its, r, p.isList⟩
  | true =>
    obtain ⟨_, its, r, p⟩ := (show ObjOk X.prog X.w H s.heap a (.tup xs) from I.hok a _ h)
    exact ⟨its, r, p⟩
theorem SqB.inj {X : Cx} {pins : List (Addr × Obj)} {σ : St} {H : Hp} {s : Shared} {t : Bool} {a : Addr} {xs ys : List V} (I : Inv X pins σ H s) (h : SqB X.K t H a xs) (k : SqB X.K t H a ys) : xs = ys := by
  cases t with
  | false => exact I.list_inj h k
  | true =>
    have := (show H a = some (.tup xs) from h).symm.trans k
    cases this
    rfl
section
variable {P : Program} {w : World}
theorem Zot {t : Bool} {it a : Addr} {i : Nat} {items : Array Value} {x : Value} (hx : items[i]? = some x) : Gives P w it [it, a] (fun h => ItB t h it a i ∧ IsB t h a items) x (fun h => ItB t h it a (i + 1)) := by
  cases t with
  | true => exact Zp7 hx
  | false =>
    exact ⟨.head _, fun st hQ => wpAny_nextOf_list_item st.1 st.2 hx hQ, fun h h' k st => ⟨Heap.IsListIter.at st.1 fun o e => k it (.head _) o e, by
      obtain ⟨o, ho, r⟩ := st.2
      exact ⟨o, k a (.tail _ (.head _)) o ho, r⟩⟩, fun h h' k st => Heap.IsListIter.at st fun o e => k it (.head _) o e⟩
theorem Zyx {t : Bool} {it a : Addr} {i : Nat} {items : Array Value} (hx : items[i]? = none) : Zg8 P w it [it, a] (fun h => ItB t h it a i ∧ IsB t h a items) := by
  cases t with
  | true => exact Zr2 hx
  | false =>
    exact ⟨.head _, fun hh st hE => wpAny_nextOf_list_end hh st.1 st.2 hx hE, fun h h' k st => ⟨Heap.IsListIter.at st.1 fun o e => k it (.head _) o e, by
      obtain ⟨o, ho, r⟩ := st.2
      exact ⟨o, k a (.tail _ (.head _)) o ho, r⟩⟩⟩
end
noncomputable def Z6h (K : PySem.W.Frag) (t : Bool) (a b : Addr) : It :=
  ⟨fun i H => ∃ xs ys x y, SqB K t H a xs ∧ SqB K t H b ys ∧ xs[i]? = some x ∧ ys[i]? = some y,
   fun i H v H' => ∃ p x y, H p = none ∧ v = .ref p ∧ H' = upd H p (.tup [x, y]) ∧ (∀ xs, SqB K t H a xs → xs[i]? = some x) ∧ ∀ ys, SqB K t H b ys → ys[i]? = some y,
   fun i H => ∃ xs ys, SqB K t H a xs ∧ SqB K t H b ys ∧ (xs.length ≤ i ∨ ys.length ≤ i)⟩
noncomputable def Z6d (t : Bool) (z TI TO i1 i2 a b : Addr) (i : Nat) (h : Heap) : Prop := IsZip h z TI TO .none ∧ IsPair h TI (.ref i1) (.ref i2) ∧ (∃ x y, IsPair h TO x y) ∧ ItB t h i1 a i ∧ ItB t h i2 b i
theorem Zpq {P : Program} {w : World} {K : PySem.W.Frag} {es : List Expr} {kk : Nat} {pos : Pos} {t : Bool} {z TI TO i1 i2 a b : Addr} (D : ZA z TI TO i1 i2 [i1, a] [i2, b]) (D2 : TI ≠ TO ∧ TI ≠ i1 ∧ TI ≠ i2) : Turn P w K (.Tuple es kk pos) (Z6h K t a b) [z, TI, TO, i1, i2] z (Z6d t z TI TO i1 i2 a b) where
  mem := .head _
  obj := fun i h st => by
    obtain ⟨s1, s2, ⟨x, y, s3⟩, s4, s5⟩ := st
    exact Z4h ⟨_, s1, fun v q => by cases q⟩ ⟨_, s2, fun v q => by cases q⟩ ⟨_, s3, fun v q => by cases q⟩ s4.obj s5.obj
  keep := fun i h h' st k => by
    obtain ⟨s1, s2, ⟨x, y, s3⟩, s4, s5⟩ := st
    have m2 : TI ∈ [z, TI, TO, i1, i2] := .tail _ (.head _)
    have m3 : TO ∈ [z, TI, TO, i1, i2] := .tail _ (.tail _ (.head _))
    have m4 : i1 ∈ [z, TI, TO, i1, i2] := .tail _ (.tail _ (.tail _ (.head _)))
    have m5 : i2 ∈ [z, TI, TO, i1, i2] := .tail _ (.tail _ (.tail _ (.tail _ (.head _))))
    exact ⟨k z (.head _) _ s1, k TI m2 _ s2, ⟨x, y, k TO m3 _ s3⟩, s4.at (k i1 m4), s5.at (k i2 m5)⟩
  item := by
    intro X hP hw hK hc i pins s σ H E I hf st hg
    subst hP hw hK
    obtain ⟨s1, s2, ⟨x0, y0, s3⟩, s4, s5⟩ := st
    obtain ⟨xs, ys, x, y, hx, hy, ex, ey⟩ := hg
    obtain ⟨its, rx, px⟩ := hx.its I
    obtain ⟨its', ry, py⟩ := hy.its I
    obtain ⟨u, hu, ru⟩ := rx.get ex
    obtain ⟨u', hu', ru'⟩ := ry.get ey
    rw [← List.getElem?_toArray] at hu hu'
    refine Znl D (Zot hu) (Zot hu') s1 s2 s3 ⟨s4, px⟩ ⟨s5, py⟩ fun h' g1 g2 g3 g4 g5 g6 => ?_
    refine ⟨_, rfl, wpAny_letOwnedTupleGo_zip (s := { s with heap := h' }) g1 fun h2 z2 sb => ?_⟩
    have up : ∀ c o, c ≠ z → h'.get? c = some o → h2.get? c = some o := fun c o n e => (sb.2 c n).trans e
    have kp : ∀ c o, c ∉ [z, TO, i1, i2] → s.heap.get? c = some o → h2.get? c = some o := fun c o n e => up c o (fun q => n (q ▸ .head _)) (g6 c o n e)
    have t5 : IsPair h2 s.heap.objs.size u u' := up _ _ (Nat.ne_of_gt (Heap.lt_size s1)) g5
    have i1z := (D.a1 i1 (.head _)).1
    have i2z := (D.a2 i2 (.head _)).1
    have n3 := g3.at (up i1 · i1z)
    have n4 := g4.at (up i2 · i2z)
    obtain ⟨f1, f2, f3, f4, f5⟩ : (Zio X pins H z ∧ Zio X pins H TI ∧ Zio X pins H TO ∧ Zio X pins H i1 ∧ Zio X pins H i2) := ⟨hf _ (.head _), hf _ (.tail _ (.head _)), hf _ (.tail _ (.tail _ (.head _))), hf _ (.tail _ (.tail _ (.tail _ (.head _)))), hf _ (.tail _ (.tail _ (.tail _ (.tail _ (.head _)))))⟩
    have I2 : Inv X pins σ (upd H s.heap.objs.size (.tup [x, y])) { s with heap := h2 } :=
      I.turnTup (ch := [z, TO, i1, i2]) (its := [u, u']) (Z05 f1 f3 f4 f5) kp (Z05 ⟨_, z2⟩ ⟨_, up _ _ D.TOz g2⟩ (n3.obj.imp fun _ q => q.1) (n4.obj.imp fun _ q => q.1)) (Nat.le_refl _) Zzd (.cons ru (.cons ru' .nil)) ⟨_, t5, rfl, 0, rfl⟩
    have lt : ∀ {c : Addr} {o : Obj}, s.heap.get? c = some o → Zio X pins H c → upd H s.heap.objs.size (.tup [x, y]) c = none := fun e f => by rw [Zz (Nat.ne_of_lt (Heap.lt_size e))]; exact f.1
    refine ⟨.ref s.heap.objs.size, _, I2, rfl, ⟨_, x, y, I.fresh, rfl, rfl, fun zs hz => by rw [hz.inj I hx]; exact ex, fun zs hz => by rw [hz.inj I hy]; exact ey⟩, ⟨z2, kp TI _ (no4 D.TIz D2.1 D2.2.1 D2.2.2) s2, ⟨_, _, up _ _ D.TOz g2⟩, n3, n4⟩, ?_⟩
    obtain ⟨o4, e4, _⟩ := s4.obj
    obtain ⟨o5, e5, _⟩ := s5.obj
    exact Z4h (lt s1 f1) (lt s2 f2) (lt s3 f3) (lt e4 f4) (lt e5 f5)
  done := by
    intro X hP hw hK hc i pins s σ H E I hf st hg
    subst hP hw hK
    obtain ⟨s1, s2, ⟨x0, y0, s3⟩, s4, s5⟩ := st
    obtain ⟨xs, ys, hx, hy, he⟩ := hg
    obtain ⟨its, rx, px⟩ := hx.its I
    obtain ⟨its', ry, py⟩ := hy.its I
    have l1 := rx.length
    have l2 := ry.length
    refine Zom (I.ok.hd hc) D (S1 := fun h => ItB t h i1 a i ∧ IsB t h a its.toArray) (T1 := fun h => ItB t h i1 a (i + 1)) (S2 := fun h => ItB t h i2 b i ∧ IsB t h b its'.toArray) ?_ s1 s2 s3 ⟨s4, px⟩ ⟨s5, py⟩ fun h' k => ⟨rfl, I.turnAll (ch := [z, TO, i1, i2]) (Z05 (hf _ (.head _)) (hf _ (.tail _ (.tail _ (.head _)))) (hf _ (.tail _ (.tail _ (.tail _ (.head _))))) (hf _ (.tail _ (.tail _ (.tail _ (.tail _ (.head _))))))) k⟩
    cases q : its.toArray[i]? with
    | none => exact .inl (Zyx q)
    | some v =>
      refine .inr ⟨⟨v, Zot q⟩, Zyx ?_⟩
      have := (Array.getElem?_eq_some_iff.mp q).1
      rw [List.size_toArray] at this
      rw [Array.getElem?_eq_none_iff, List.size_toArray]
      omega
  self := fun _ _ _ _ _ st h => wpAny_pyIter_zip st.1 h
theorem Zqt {P : Program} {w : World} {A : Around} {E : Value → Shared → Prop} {s : Shared} {t : Bool} {a b : Addr} {xs ys : Array Value} {Q : Value → Shared → Prop} (h1 : IsB t s.heap a xs) (h2 : IsB t s.heap b ys)
    (h : ∀ h' n, n = s.heap.objs.size → IsZip h' (n + 4) (n + 2) (n + 3) .none → IsPair h' (n + 2) (.ref n) (.ref (n + 1)) → IsPair h' (n + 3) .none .none → ItB t h' n a 0 → ItB t h' (n + 1) b 0 →
      (∀ c o, s.heap.get? c = some o → h'.get? c = some o) → Q (.ref (n + 4)) { s with heap := h' }) : wpAny (model P w) A (call (.type "zip") [.ref a, .ref b]) Q E s := by
  cases t with
  | true => exact Zpu h1 h2 h
  | false => exact call_zip_2 h1 h2 fun h' g1 g2 g3 g4 g5 _ g7 => h h' _ rfl g1 g2 g3 g4 g5 g7
noncomputable def Z3j (K : PySem.W.Frag) (ta : TA) : TI := fun σ H R => ta σ H fun vs H1 => ∃ t a b, vs = [.ref a, .ref b] ∧ (∃ xs, SqB K t H1 a xs) ∧ (∃ ys, SqB K t H1 b ys) ∧ R (Z6h K t a b) H1
theorem Zxc {X : Cx} {K : PySem.W.Frag} {a b : Expr} {ta : TA} {p pos pt : Pos} {es : List Expr} {kk : Nat} (hK : X.K = K) (hg : Gl X "zip") (hm : X.mg "zip" = none) (hv : bootBuiltins "zip" = some (.type "zip")) (ha : PA X [a, b] ta)
    (he : starEach [a, b] X.env = (false, eval a X.env) :: starEach [b] X.env := by rfl) (hpl : (backTo pos (starEach [b] X.env)).any (·.1) = false := by rfl) :
    PI X (.Tuple es kk pt) (.Call (.Name "zip" p) [a, b] [] pos) (Z3j K ta) := by
  subst hK
  intro pins s σ H R I h
  refine wpAny_Call_Name_kw (Zhd I hg hm hv ?_ (by decide) (by decide))
  refine PyProof.Rows.callWith_type1 (thn (ha pos pins s σ H _ I h) fun us s1 q => ?_) he hpl
  obtain ⟨vs, H1, I1, r1, t, l1, l2, e1, ⟨xs, hx⟩, ⟨ys, hy⟩, q⟩ := q
  subst e1
  obtain ⟨u, u', rfl, ru, ru'⟩ := vals2 r1
  cases (show u = Value.ref l1 from ru)
  cases (show u' = Value.ref l2 from ru')
  obtain ⟨its, rx, px⟩ := hx.its I1
  obtain ⟨its', ry, py⟩ := hy.its I1
  refine Zqt px py fun h' n en g1 g2 g3 g4 g5 g7 => ?_
  have I2 : Inv X pins σ H1 { s1 with heap := h' } := I1.kept (t' := s1.toks) g7
  refine wpAny_pyIter_zip (s := { s1 with heap := h' }) g1 ?_
  refine ⟨_, [_, _, _, _, _], Z6d _ _ _ _ _ _ _ _, _, H1, rfl, I2, Zpq (ZA.new (en ▸ px.lt) (en ▸ py.lt)) (ZA.new2 n), ⟨g1, g2, ⟨_, _, g3⟩, g4, g5⟩, ?_, q⟩
  subst en
  have ok : ∀ k : Nat, Zio X pins H1 (s1.heap.objs.size + k) := fun k => I1.fpOk (Nat.le_add_right _ _) (I1.hok.fresh (Nat.le_add_right _ _))
  exact Z4h (ok 4) (ok 2) (ok 3) (ok 0) (ok 1)
section
variable {X : Cx} {io : List Nat} {p c : Bool} {a b : Expr} {mr : MAt} {ra : FA}
noncomputable def Z2k (t : Bool) (as : List PyData) : PyData := match t with | true => .tuple as | false => .list as
theorem Rel.keptSq {C : MC G} {H : Hp} {σ : St} {δ : Zh} {fp : Fp} {ex : Addr → Prop} {v : V} {t : Bool} {ds : List PyData} (R : Rel C io H σ δ fp ex) (q : Da G H (fun a => c = true → Lf C fp ex a) v (Z2k t ds)) :
    ∃ a xs, v = .ref a ∧ ∀ H' : Hp, (∀ b o, H b = some o → (c = false ∨ ¬ Foot fp b) → H' b = some o) → SqB G t H' a xs ∧ Das G H' (fun a => c = true → (Lf C fp ex a ∧ H a ≠ none)) xs ds := by
  cases t with
  | false => exact R.keptList q
  | true =>
    generalize hd : Z2k true ds = d at q
    cases q with
    | tup e r =>
      cases hd
      rename_i a0 xs0
      refine ⟨a0, xs0, rfl, fun H' kp => ?_⟩
      obtain ⟨f1, f2⟩ := R.kept kp
      exact ⟨f2 _ (.tup _) e, r.frame f1 f2⟩
    | _ => cases hd
theorem Zrm {ds es : List PyData} (h : Zyc ds = some es) : ∃ t as bs, ds = [Z2k t as, Z2k t bs] ∧ es = Zin as bs := by
  unfold Zyc at h
  split at h
  · cases h; exact ⟨false, _, _, rfl, rfl⟩
  · cases h; exact ⟨true, _, _, rfl, rfl⟩
  · cases h
noncomputable def iZB (mr : MAt) : MIt := fun δ K => mr δ fun rs δ' => ∃ es, Zyc (OT.datas rs) = some es ∧ K es δ'
theorem Zhu {p' pos pt : Pos} {es : List Expr} {kk : Nat} (hg : Gl X "zip") (hm : X.mg "zip" = none) (hv : bootBuiltins "zip" = some (.type "zip")) (ha : MA X io p c [a, b] mr)
    (he : starEach [a, b] X.env = (false, eval a X.env) :: starEach [b] X.env := by rfl) (hpl : (backTo pos (starEach [b] X.env)).any (·.1) = false := by rfl) : MI X io p c (.Tuple es kk pt) (.Call (.Name "zip" p') [a, b] [] pos) (iZB mr) := by
  obtain ⟨_, A, s⟩ := ha
  refine ⟨_, Zxc rfl hg hm hv A he hpl, fun C H σ δ fp ex K' Q R h kk => s C H σ δ fp ex _ _ R h fun H1 vs rs δ1 fp1 new r1 h1 => ?_⟩
  have q := r1.das R
  obtain ⟨es, hz, h1⟩ := h1
  obtain ⟨t, as, bs, e, rfl⟩ := Zrm hz
  rw [e] at q
  cases q with
  | cons q1 q2 =>
    cases q2 with
    | cons q2 q3 =>
      cases q3
      have R1 := r1.base
      obtain ⟨l1, xs, rfl, k1⟩ := R1.keptSq q1
      obtain ⟨l2, ys, rfl, k2⟩ := R1.keptSq q2
      refine ⟨t, l1, l2, rfl, ⟨_, (k1 H1 fun _ _ e _ => e).1⟩, ⟨_, (k2 H1 fun _ _ e _ => e).1⟩, kk _ H1 _ δ1 fp1 R1 r1.stp (fun H' kp i => ?_) h1⟩
      obtain ⟨s1, d1⟩ := k1 H' kp
      obtain ⟨s2, d2⟩ := k2 H' kp
      refine ⟨fun d hd => ?_, fun hd => ⟨_, _, s1, s2, by rw [d1.length, d2.length]; exact Zpo hd⟩⟩
      obtain ⟨x, y, hx, hy, rfl⟩ := Zja hd
      obtain ⟨u, hu, qu⟩ := d1.get hx
      obtain ⟨w, hw, qw⟩ := d2.get hy
      refine ⟨⟨_, _, u, w, s1, s2, hu, hw⟩, fun v H'' hyl => ?_⟩
      obtain ⟨t', u', w', ht, rfl, rfl, hu', hw'⟩ := hyl
      cases hu.symm.trans (hu' _ s1)
      cases hw.symm.trans (hw' _ s2)
      exact ⟨Z7 ht _, .tup Z8 (.cons (qu.same (Z7 ht _)) (.cons (qw.same (Z7 ht _)) .nil))⟩
theorem Zit {tg e : Expr} (g : MI X io p c tg e (iZB (o2 ra))) : MI X io p c tg e (o2 (Zeg ra)) := g.weak fun δ K h => by
  obtain ⟨r, δ', h, k⟩ := h
  obtain ⟨⟨x, δ1⟩, h1, h⟩ := bs h
  obtain ⟨ds, h2, h⟩ := bs h
  cases h
  exact ⟨x, _, h1, _, h2, k⟩
end
end L2
namespace L2
open PySem PySem.Spec PyProof.Rows PySem.W
noncomputable def kGood {α : Type} (n : Nat) (P : α → Prop) : KasT α → Prop
  | .ret a => P a
  | .ask i j k => i < n ∧ j < n ∧ ∀ b, kGood n P (k b)
theorem kGood.bind {α β : Type} {n : Nat} {P : α → Prop} {R : β → Prop} {f : α → KasT β} (hf : ∀ a, P a → kGood n R (f a)) {t : KasT α} (h : kGood n P t) : kGood n R (t.bind f) := by
  induction t with
  | ret a => exact hf a h
  | ask i j k ih => exact ⟨h.1, h.2.1, fun b => ih b (h.2.2 b)⟩
noncomputable def kP (n : Nat) (p : Array Nat) : Prop := p.toList.Perm (List.range n)
theorem kP.at {n : Nat} {p : Array Nat} (h : kP n p) (h0 : 0 < n) (i : Nat) : p.getD i 0 < n := by
  by_cases c : i < p.size
  · have e : p.getD i 0 = p[i] := by simp [Array.getD, c]
    rw [e]
    exact List.mem_range.mp (h.mem_iff.mp (Array.getElem_mem_toList c))
  · have e : p.getD i 0 = 0 := by simp [Array.getD, c]
    rw [e]; exact h0
end L2
namespace L2
open PySem PySem.Spec PyProof.Rows PySem.W PySem.SeqAt
open AutoSeq1 (wpAny_loadPart')
open MeetsSeq MeetsSeq2 MeetsSeq3 SeqRoads2
noncomputable def ltI : List Int → List Int → Bool
  | [], [] => false
  | [], _ :: _ => true
  | _ :: _, [] => false
  | x :: xs, y :: ys => if x = y then ltI xs ys else decide (x < y)
section
variable {prog : Program} {w : World} {A : Around} {E : Value → Shared → Prop} {s : Shared}
end
section
variable {prog : Program} {w : World} {A : Around} {E : Value → Shared → Prop} {s : Shared}
end
end L2
namespace L2
open PySem PySem.Spec PyProof.Rows PySem.W
section
variable {prog : Program} {w : World} {A : Around} {E : Value → Shared → Prop} {s : Shared}
end
end L2
namespace L2
open PySem PySem.Spec PyProof.Rows PySem.W
variable {G : PySem.W.Frag}
structure Z9e {α : Type} (kd : PyData → Option α) (lt : α → α → Bool) : Prop where
  lay : ∀ d k, kd d = some k → d.canLay0 = true
  run : ∃ κ : SortKind, (∀ (prog : Program) (w : World) (A : Around) (E : Value → Shared → Prop) (s : Shared) (vs : List Value) (ds : List PyData) (as : List Addr) (Q : SortKind → Shared → Prop), 2 ≤ vs.length → ReadsAll s.heap vs ds as → (∀ d ∈ ds, ∃ k, kd d = some k) → Q κ s → wpAny (model prog w) A (keyKind' vs.toArray) Q E s) ∧
    ∀ (prog : Program) (w : World) (A : Around) (E : Value → Shared → Prop) (s : Shared) (u v : Value) (d e : PyData) (as bs : List Addr) (k m : α) (C : Bool → Shared → Prop), A.units + 32 < cLine → Reads s.heap u d as → Reads s.heap v e bs → kd d = some k → kd e = some m → C (lt k m) s → wpAny (model prog w) A (keyLt' κ u v) C E s
end L2
namespace L2
open PySem PySem.Spec PyProof.Rows PySem.W
variable {G : PySem.W.Frag}
noncomputable def lk {α : Type} (kd : PyData → Option α) (lt : α → α → Bool) (es : List PyData) : Nat → Nat → Bool := fun i j => ((kd (es.getD i .none)).bind fun a => (kd (es.getD j .none)).map fun b => lt a b).getD false
section
variable {X : Cx} {α : Type} {kd : PyData → Option α} {lt : α → α → Bool}
end
end L2
namespace L2
open PySem PySem.Spec PyProof.Rows
variable {G : PySem.W.Frag}
end L2
namespace L2
open PySem PySem.Spec PyProof.Rows
section
variable {X : Cx} {io : List Nat} {p p' c c' q r : Bool} {a b e : Expr} {fa fb : FE} {es : List Expr} {ra : FA} {st : Stmt} {sts ss ss' : List Stmt} {f g : FS} {ta : FT}
theorem xv (i : Nat) {x : Str} {pos : Pos} (hN : X.N[i]? = some x := by rfl) (hv : Vis X.env.scope x := by first | exact Or.inl rfl | exact Or.inr (Or.inl rfl) | exact Or.inr (Or.inr rfl)) (hd : (x == ("__debug__" : Str)) = false := by decide) (he : (x == ("__classdict__" : Str)) = false := by decide) : ME X io true true (.Name x pos) (o2 (Zd i)) := Ys (mv i hN hv hd he)
theorem xo (i : Nat) {x : Str} {pos : Pos} (hN : X.N[i]? = some x := by rfl) (hv : Vis X.env.scope x := by first | exact Or.inl rfl | exact Or.inr (Or.inl rfl) | exact Or.inr (Or.inr rfl)) (hd : (x == ("__debug__" : Str)) = false := by decide) (he : (x == ("__classdict__" : Str)) = false := by decide) : ME X io true false (.Name x pos) (o2 (Jz i)) := Zcx (mo i hN hv hd he)
theorem xci {i : Int} {j : Nat} {pos : Pos} : ME X io true true (.Constant (.int i) j pos) (o2 (fC (.int i))) := Zgh Zhl
theorem xix {pos : Pos} (ha : ME X io p c a (o2 fa)) (hb : ME X io p' c' b (o2 fb)) (hc : p' = true ∨ c = true := by first | exact Or.inl rfl | exact Or.inr rfl) (hs : Zfo b := by exact fun _ _ => rfl) (h2 : (p && p') = q := by rfl) (h3 : (c && c') = r := by rfl) : ME X io q r (.Subscript a b pos) (o2 (Yd gIx fa fb)) := h2 ▸ h3 ▸ Zch Z3g (Z5a (Zi1 rfl) Zv1 ha hb hc (hs := hs))
theorem xa0 : MA X io true true [] (o2 Zm) := Zat Zan
theorem xa1 [NoStar e] (ha : ME X io p c e (o2 fa)) (h2 : (p && true) = q := by rfl) (h3 : (c && true) = r := by rfl) : MA X io q r [e] (o2 (Zb fa Zm)) := Ze ha xa0 (.inl rfl) h2 h3
theorem xsq (h : MS X io st (oS f)) (k : MSs X io sts (oS g)) : MSs X io (st :: sts) (oS (Zu f g)) := Zcw (Jk h k)
theorem xst {pos px : Pos} (i : Nat) {x : Str} (hN : X.N.Nodup) (he : ME X io p true e (o2 fa)) (hi : X.N[i]? = some x := by rfl) (hx : Loc X.env.scope x := by first | exact Or.inl rfl | exact Or.inr rfl) (hio : i ∉ io := by decide) (hs : swapsWith e (some (.Name x px)) pos.line X.env = pure false := by rfl) (hf : X.fn x = true ∨ X.env.scope.names.lookup x = some .local := by first | exact .inl rfl | exact .inr rfl | assumption) : MS X io (.Assign [.Name x px] e pos) (oS (wE fa (Yh i))) := Zps (Zpl hN hi hx he hio hs hf)
theorem xrt {pos : Pos} (h : ME X io p true e (o2 fa)) : MS X io (.Return (some e) pos) (oS (wE fa Jj)) := Ze4 (Ze7 h)
theorem xg {pos : Pos} (i : Nat) {x : Str} (hN : X.N.Nodup) (hi : X.N[i]? = some x := by rfl) (hx : Loc X.env.scope x := by first | exact Or.inl rfl | exact Or.inr rfl) (hio : i ∉ io := by decide) (hf : X.fn x = true ∨ X.env.scope.names.lookup x = some .local := by first | exact .inl rfl | exact .inr rfl | assumption) : MG X io true (.Name x pos) (oG (gNm i)) := Ziv (Zh6 hN hi hx hio hf)
theorem xif {pos : Pos} (h : MT X io p e (o2 ta)) (k : MSs X io ss (oS f)) (l : MSs X io ss' (oS g)) : MS X io (.If e ss ss' pos) (oS (Ww ta f g)) := Zic (Zh4 h k l)
theorem xnl : MSs X io [] (oS fNx) := Zbo Zbr
theorem xtp {pos : Pos} {n : Nat} (h : MA X io p c es (o2 ra)) : ME X io p c (.Tuple es n pos) (o2 (Zn6 ra)) := Zzu (Z4c h)
theorem xls {pos : Pos} (h : MA X io p c es (o2 ra)) : ME X io p c (.List es pos) (o2 (Zbe ra)) := Zqj (Zwk h)
theorem xil {tg : Expr} (h : ME X io p c e (o2 fa)) : MI X io p c tg e (o2 (Zfi fa)) := Zwr (Zxz h)
theorem xno {pos : Pos} (h : MT X io p e (o2 ta)) : MT X io p (.UnaryOp .Not e pos) (o2 (tNo ta)) := Zuz (Zuv h)
theorem Zc2 {pos : Pos} (ha : ME X io p c a (o2 fa)) (hb : ME X io p' c' b (o2 fb)) (hc : p' = true ∨ c = true := by first | exact Or.inl rfl | exact Or.inr rfl) (h2 : (p && p') = q := by rfl) : ME X io q true (.BinOp a .Add b pos) (o2 (Zf Jp fa fb)) := h2 ▸ Ji Z3m (Zk1 Zz2 Zhx ha hb hc)
theorem Zpt {pos : Pos} (ha : ME X io p c a (o2 fa)) (hb : ME X io p' c' b (o2 fb)) (hc : p' = true ∨ c = true := by first | exact Or.inl rfl | exact Or.inr rfl) (h2 : (p && p') = q := by rfl) : ME X io q true (.BinOp a .Sub b pos) (o2 (Zf gSb fa fb)) := h2 ▸ Ji Zx1 (Zk1 Zo2 Zhx ha hb hc)
theorem Zl0 {pos : Pos} (ha : ME X io p c a (o2 fa)) (hb : ME X io p' c' b (o2 fb)) (hc : p' = true ∨ c = true := by first | exact Or.inl rfl | exact Or.inr rfl) (h2 : (p && p') = q := by rfl) : ME X io q true (.BinOp a .Mult b pos) (o2 (Zf Ze2 fa fb)) := h2 ▸ Ji Z5c (Zk1 Zw0 Zzb ha hb hc)
theorem Zek {pos : Pos} (ha : ME X io p c a (o2 fa)) (hb : ME X io p' c' b (o2 fb)) (hc : p' = true ∨ c = true := by first | exact Or.inl rfl | exact Or.inr rfl) (h2 : (p && p') = q := by rfl) : ME X io q true (.BinOp a .Mod b pos) (o2 (Zf Zal fa fb)) := h2 ▸ Ji Z20 (Zk1 Zx6 Z10 ha hb hc)
theorem Zlt {pos : Pos} (ha : ME X io p c a (o2 fa)) (hb : ME X io p' c' b (o2 fb)) (hc : p' = true ∨ c = true := by first | exact Or.inl rfl | exact Or.inr rfl) (h2 : (p && p') = q := by rfl) : ME X io q true (.BinOp a .FloorDiv b pos) (o2 (Zf Jc fa fb)) := h2 ▸ Ji Z0z (Zk1 Zrz Z0p ha hb hc)
theorem Zx9 {pos : Pos} (ha : ME X io p c a (o2 fa)) (hb : ME X io p' c' b (o2 fb)) (hc : p' = true ∨ c = true := by first | exact Or.inl rfl | exact Or.inr rfl) (h2 : (p && p') = q := by rfl) : ME X io q true (.BinOp a .Pow b pos) (o2 (Zf Zmn fa fb)) := h2 ▸ Ji Z3s (Zk1 Zvi Zz5 ha hb hc)
theorem xeq {pos : Pos} (hu : X.A.units + 64 < cLine) (ha : ME X io p c a (o2 fa)) (hb : ME X io p' c' b (o2 fb)) (hc : p' = true ∨ c = true := by first | exact Or.inl rfl | exact Or.inr rfl) (h2 : (p && p') = q := by rfl) : MT X io q (.Compare a [.Eq] [b] pos) (o2 (tV (Zf gEq fa fb))) := h2 ▸ Zao Z18 (Zar (Zmw hu) Zr9 ha hb hc (hm := Zae _))
theorem xne {pos : Pos} (hu : X.A.units + 64 < cLine) (ha : ME X io p c a (o2 fa)) (hb : ME X io p' c' b (o2 fb)) (hc : p' = true ∨ c = true := by first | exact Or.inl rfl | exact Or.inr rfl) (h2 : (p && p') = q := by rfl) : MT X io q (.Compare a [.NotEq] [b] pos) (o2 (tV (Zf gNe fa fb))) := h2 ▸ Zao Z2n (Zar (Zl5 hu) Ztr ha hb hc (hm := Zae _))
theorem xlt {pos : Pos} (ha : ME X io p c a (o2 fa)) (hb : ME X io p' c' b (o2 fb)) (hc : p' = true ∨ c = true := by first | exact Or.inl rfl | exact Or.inr rfl) (h2 : (p && p') = q := by rfl) : MT X io q (.Compare a [.Lt] [b] pos) (o2 (tV (Zf gLt fa fb))) := h2 ▸ Zao Z58 (Zar Z1k Zl2 ha hb hc (hm := Zae _))
theorem xgt {pos : Pos} (ha : ME X io p c a (o2 fa)) (hb : ME X io p' c' b (o2 fb)) (hc : p' = true ∨ c = true := by first | exact Or.inl rfl | exact Or.inr rfl) (h2 : (p && p') = q := by rfl) : MT X io q (.Compare a [.Gt] [b] pos) (o2 (tV (Zf gGt fa fb))) := h2 ▸ Zao Z8g (Zar Z32 Zl2 ha hb hc (hm := Zae _))
theorem xge {pos : Pos} (ha : ME X io p c a (o2 fa)) (hb : ME X io p' c' b (o2 fb)) (hc : p' = true ∨ c = true := by first | exact Or.inl rfl | exact Or.inr rfl) (h2 : (p && p') = q := by rfl) : MT X io q (.Compare a [.GtE] [b] pos) (o2 (tV (Zf gGe fa fb))) := h2 ▸ Zao Z7w (Zar Z4k Zl2 ha hb hc (hm := Zae _))
theorem xfr {pos : Pos} {tg : Expr} {it : FI} {gg : FG} (hp : PassesOwn (model X.prog X.w) X.A X.env X.xe) (hc : X.calm = true) (hi : MI X io p true tg e (o2 it)) (hg : MG X io true tg (oG gg)) (hb : MSs X io ss (oS f)) (hs : ∀ x, foldedSetIterable e X.env x = pure x := by intro _; rfl) : MS X io (.For tg e ss [] pos) (oS (Za2 it gg f)) := Zq2 (Zq9 hp hc hi hg hb hs)
theorem xg2 {pos : Pos} {n : Nat} {g1 g2 : FG} (hc : X.calm = true) (ha : MG X io true a (oG g1)) (hb : MG X io true b (oG g2)) (h1 : List.map (fun x => x.snd) (assignEach [a, b] X.env) = assign a X.env :: List.map (fun x => x.snd) (assignEach [b] X.env) := by rfl) (h2 : List.map (fun x => x.snd) (assignEach [b] X.env) = assign b X.env :: List.map (fun x => x.snd) (assignEach [] X.env) := by rfl) (h3 : (assignEach [a, b] X.env).length = 2 := by rfl) (h4 : List.findIdx? (fun x => x.fst) (assignEach [a, b] X.env) = none := by rfl) : MG X io true (.Tuple [a, b] n pos) (oG (gTp 2 (gCn g1 (gCn g2 gNl)))) := Zup (Zul (n := 2) hc (Zfj (Zfk ha (Zfj (Zfk hb (Zo7 Zn8) h2)) h1)) h3 h4)
theorem xso {pos px : Pos} (i : Nat) {x : Str} (hN : X.N.Nodup) (he : ME X io p true e (o2 fa)) (hi : X.N[i]? = some x := by rfl) (hx : Loc X.env.scope x := by first | exact Or.inl rfl | exact Or.inr rfl) (hio : i ∉ io := by decide) (hs : swapsWith e (some (.Name x px)) pos.line X.env = pure false := by rfl) (hf : X.fn x = true ∨ X.env.scope.names.lookup x = some .local := by first | exact .inl rfl | exact .inr rfl | assumption) : MS X io (.Assign [.Name x px] e pos) (oS (wE fa (Ja i))) := Zpg (Zos hN hi hx he hio hs hf)
theorem xcl {pos pp : Pos} {k : Nat} {f : Addr} {fd : FuncData} {ps : List Str} {x : Str} {F : FD} (G : FnOk X.prog X.w X.K X.mg X.base CX0 k f fd ps (spD X.K (sD F))) (hr : Room k X.A) (hm : X.mg x = some (.ref f)) (hk : PySem.W.keepIn X.K (.ref f) = true) (hb : Binds X.K fd ps []) (ha : MA X io p c (e :: es) (o2 ra)) (hg : Gl X x := by rfl) (h1 : (x == ("__debug__" : Str)) = false := by decide) (h2 : starEach (e :: es) X.env = (false, eval e X.env) :: starEach es X.env := by rfl) (h3 : ((backTo pos (starEach es X.env)).any fun x => x.fst) = false := by rfl) : ME X io p c (.Call (.Name x pp) (e :: es) [] pos) (o2 (Zt F ra)) := Zjb (Zmm G hr hg hm hk hb Zne ha h1 h2 h3)
theorem xln {pos pp : Pos} (hm : X.mg "len" = none) (ha : MA X io p c [e] (o2 ra)) (hg : Gl X "len" := by rfl) (h2 : starEach [e] X.env = (false, eval e X.env) :: starEach [] X.env := by rfl) : ME X io p true (.Call (.Name "len" pp) [e] [] pos) (o2 (Zau Zam ra)) := Zc1 Znz (Zgy Zhi (Zbd rfl) hg hm L2.B.boot_len ha (by decide) (by decide) h2 (by rfl))
end
end L2
namespace L2
open PySem PySem.Spec PyProof.Rows
section
variable {X : Cx} {tg : Expr} {io : List Nat} {p c : Bool} {a b d e : Expr} {mr : MAt} {ra : FA}
end
end L2
namespace L2
open PySem PySem.Spec PyProof.Rows
section
variable {prog : Program} {w : World} {A : Around} {R : Result → Shared → Prop} {I : Addr} {fp wr : List Addr} {n : Nat} {P : Nat → Value → Prop} {St : Nat → Heap → Prop}
end
section
variable {prog : Program} {w : World} {A : Around} {E : Value → Shared → Prop} {s : Shared}
end
section
variable {X : Cx} {p c : Bool} {io : List Nat} {e kw : Expr} {pp pos kp : Pos} {t : TA} {mr : MAt}
end
end L2
namespace L2
open PySem PySem.Spec PyProof.Rows
noncomputable def tbl (P : List Nat) (led : Bool) : SetTable := { mask := 7, place := P.toArray, dummies := #[], finger := 0, led, moves := 0, plain := true }
noncomputable def hT (k : List Int) : Int := reduceHash (Builtin.Tuple.tupleHashOf (k.map hashInt))
noncomputable def hAt (ks : List (List Int)) (i : Nat) : Int := (ks[i]?.map hT).getD 0
noncomputable def Z5d (P : List Nat) (j : Nat) : List Nat := ((tbl P false).put j).1.place.toList
noncomputable def Z6y (P : List Nat) (j : Nat) : Nat := ((tbl P false).put j).2
noncomputable def Z9a (ks : List (List Int)) (p : Nat) (k : List Int) : List (List Int) := ks.take p ++ k :: ks.drop p
noncomputable def Z8j (P : List Nat) (ks : List (List Int)) (k : List Int) : Option (List Nat × List (List Int)) :=
  match (tbl P false).probe (hAt ks) (hT k) ((tbl P false).probeStart (hT k)) with
  | some (.empty j none) => if (tbl (Z5d P j) false).tooFull = false ∧ (Z5d P j).length = ks.length + 1 ∧ ks.length ≤ 6 ∧ Z6y P j ≤ ks.length then some (Z5d P j, Z9a ks (Z6y P j) k) else none
  | some (.candidate _ i _) => if ks[i]? = some k then some (P, ks) else none
  | _ => none
noncomputable def grow (K : List (List Int)) : Nat → List (List Nat × List (List Int)) → List (List Nat × List (List Int))
  | 0, S => S
  | n + 1, S => grow K n (S ++ (S.flatMap fun s => K.filterMap fun k => Z8j s.1 s.2 k).filter fun s => !S.contains s)
noncomputable def K2 : List (List Int) := [[0, 0], [0, 1], [1, 0], [1, 1]]
noncomputable def S2 : List (List Nat × List (List Int)) := (grow K2 4 [([], [])]).eraseDups
section
variable {prog : Program} {w : World} {A : Around} {E : Value → Shared → Prop} {s : Shared}
inductive KeysIn (U : Addr → List Int → Prop) : List (List Int) → List (Int × Value) → Prop
  | nil : KeysIn U [] []
  | cons {k : List Int} {a : Addr} {ks : List (List Int)} {l : List (Int × Value)} (h : U a k) (t : KeysIn U ks l) : KeysIn U (k :: ks) ((hT k, .ref a) :: l)
theorem KeysIn.len {U : Addr → List Int → Prop} {ks : List (List Int)} {l : List (Int × Value)} (h : KeysIn U ks l) : ks.length = l.length := by
  induction h with
  | nil => rfl
  | cons _ _ ih => rw [List.length_cons, List.length_cons, ih]
theorem KeysIn.hash {U : Addr → List Int → Prop} {ks : List (List Int)} {l : List (Int × Value)} (h : KeysIn U ks l) : l.map (·.1) = ks.map hT := by
  induction h with
  | nil => rfl
  | cons _ _ ih => rw [List.map_cons, List.map_cons, ih]
noncomputable def Ts (U : Addr → List Int → Prop) (h : Heap) (S : Addr) (P : List Nat) (ks : List (List Int)) : Prop :=
  ∃ o es ep led, h.get? S = some o ∧ o.ExactSet ∧ o.data = .set es ep (tbl P led) ∧ P.length = es.size ∧ es.size ≤ 7 ∧ KeysIn U ks es.toList
noncomputable abbrev IK (prog : Program) (w : World) (h : Heap) (k : List Int) (a : Addr) : Prop := IsTupleKey (intKind prog w) h k a
theorem items_int {ks : List Int} {vs : List Value} (h : ItemsAre (intKind prog w) ks vs) : ∀ v ∈ vs, ∃ i t, v = .int i t := by
  induction h with
  | nil => exact fun _ m => nomatch m
  | cons h _ ih =>
    intro v hv
    rcases List.mem_cons.mp hv with rfl | hv
    · obtain ⟨t, e⟩ := Value.isInt_shape h
      exact ⟨_, t, e⟩
    · exact ih v hv
theorem KeysIn.at {U : Addr → List Int → Prop} {ks : List (List Int)} {es : Array (Int × Value)} (h : KeysIn U ks es.toList) (i : Nat) : (es[i]?.map (·.1)).getD 0 = hAt ks i := by
  unfold hAt
  rw [← List.getElem?_map, ← h.hash, List.getElem?_map, Array.getElem?_toList]
end
section
variable {prog : Program} {w : World} {A : Around} {R : Result → Shared → Prop} {I : Addr} {fp wr : List Addr} {n : Nat} {Pv : Nat → Value → Prop} {St : Nat → Heap → Prop}
end
end L2
namespace L2
open PySem PySem.Spec PyProof.Rows
section
variable {prog : Program} {w : World} {A : Around} {E : Value → Shared → Prop} {s : Shared}
end
end L2
namespace L2
open PySem PySem.Spec PyProof.Rows
inductive Z29 (H : Hp) : List V → List (List Int) → Prop
  | nil : Z29 H [] []
  | cons {a : Addr} {k : List Int} {xs : List V} {ks : List (List Int)} (h : H a = some (.tup (k.map V.int))) (t : Z29 H xs ks) : Z29 H (.ref a :: xs) (k :: ks)
section
variable {X : Cx} {p c : Bool} {io : List Nat} {a e : Expr} {pos pos' pl pr : Pos} {t : TA} {mr : MAt} {ra : FA}
end
end L2
namespace L2
open PySem PySem.Spec PyProof.Rows
section
variable {G : PySem.W.Frag} {io : List Nat} {p pt pe : Bool} {own : List Str} {caps : List Nat} {g : MGt} {mt : MTt} {me : MEt} {i : Nat}
noncomputable def Zk6 : List OT → Bool
  | [] => true
  | .fz _ :: r => Zk6 r
  | _ :: _ => false
theorem Owns.fz_das {H : Hp} {L : Addr → Prop} : ∀ {ts : List OT} {xs : List V} {bs : List Addr}, Owns G H L xs ts bs → Zk6 ts = true → Das G H L xs (OT.datas ts) := fun {ts} => by
  induction ts with
  | nil =>
    intro xs bs h _
    cases h
    rw [Za8]; exact .nil
  | cons t ts ih =>
    intro xs bs h a
    cases t with
    | fz d =>
      cases h with
      | cons h r =>
        cases h with
        | fz q =>
          rw [J1, OT.data_fz]
          exact .cons q (ih r a)
    | nd _ => cases a
    | tp _ => cases a
    | dc _ _ _ => cases a
end
section
variable {X : Cx} {io : List Nat} {p pt pe : Bool} {own : List Str} {caps : List Nat} {N' : List Str} {sc : Scope} {i : Nat} {x : Str} {px : Pos} {tg elt : Expr} {ifs : List Expr} {g : MGt} {mt : MTt} {me : MEt} {pos : Pos}
noncomputable def Z1c (o : Option (Option OT)) : Option (List OT) := match o with | some (some (.nd ts)) => if Zk6 ts = true then some ts else none | _ => none
theorem Zq8 {o : Option (Option OT)} {ts : List OT} (h : Z1c o = some ts) : o = some (some (.nd ts)) ∧ Zk6 ts = true := by
  unfold Z1c at h
  split at h
  · split at h
    · cases h; exact ⟨rfl, ‹_›⟩
    · cases h
  · cases h
end
end L2
namespace L2
open PySem PySem.Spec PyProof.Rows
section
variable {X : Cx} {G : PySem.W.Frag}
end
end L2
namespace L2
open PySem PySem.Spec PyProof.Rows
noncomputable abbrev Z79 (h : Heap) (T : Addr) (a b c : Value) : Prop := h.get? T = some { cls := .type "tuple", data := .seq #[a, b, c] }
structure Z3A (z TI TO i1 i2 i3 : Addr) (f1 f2 f3 : List Addr) : Prop where
  TIz : TI ≠ z
  TOz : TO ≠ z
  a1 : ∀ c ∈ f1, c ≠ z ∧ c ≠ TO ∧ c ≠ i2 ∧ c ≠ i3
  a2 : ∀ c ∈ f2, c ≠ z ∧ c ≠ TO ∧ c ≠ i1 ∧ c ≠ i3
  a3 : ∀ c ∈ f3, c ≠ z ∧ c ≠ TO ∧ c ≠ i1 ∧ c ≠ i2
section
variable {P : Program} {w : World} {A : Around} {E : Value → Shared → Prop} {s : Shared}
end
noncomputable abbrev z3A (h : Heap) (a : Addr) : Heap := h.push { cls := .type "list_iterator", data := .fields #[.ref a, .int 0 0] }
noncomputable abbrev z3B (h : Heap) (a b : Addr) : Heap := z3A (z3A h a) b
noncomputable abbrev z3C (h : Heap) (a b c : Addr) : Heap := z3A (z3B h a b) c
noncomputable abbrev z3D (h : Heap) (a b c : Addr) : Heap := (z3C h a b c).push { cls := .type "tuple", data := .seq #[.ref h.objs.size, .ref (z3A h a).objs.size, .ref (z3B h a b).objs.size] }
noncomputable abbrev z3E (h : Heap) (a b c : Addr) : Heap := (z3D h a b c).push { cls := .type "tuple", data := .seq #[.none, .none, .none] }
noncomputable abbrev z3F (h : Heap) (a b c : Addr) : Heap := (z3E h a b c).push { cls := .type "zip", data := .fields #[.none, .bool false, .bool false, .ref (z3C h a b c).objs.size, .ref (z3D h a b c).objs.size] }
section
variable {P : Program} {w : World} {A : Around} {E : Value → Shared → Prop} {s : Shared}
end
section
variable {X : Cx} {io : List Nat} {p c : Bool} {a b e : Expr} {mr : MAt} {ra : FA}
end
end L2
namespace L2
open PySem PySem.Spec PyProof.Rows
variable {G : PySem.W.Frag}
end L2
namespace L2
open PySem PySem.Spec PyProof.Rows
variable {G : PySem.W.Frag}
section
variable {X : Cx} {io : List Nat} {p c : Bool} {e : Expr} {m : MEt} {pos apos cpos px : Pos} {i : Nat} {x : Str} {st : Stmt} {fa : FE}
noncomputable def Zh9 (i : Nat) (m : MEt) : MSt := fun D δ => match δ[i]? with
  | some (some (.nd _)) => m δ fun r δ1 => match r, δ1[i]? with
    | .nd rs, some (some (.nd ts)) => ts.length + rs.length ≤ sizeLine ∧ D.nx (δ1.set i (some (.nd (ts ++ (OT.datas rs).map OT.fz))))
    | _, _ => False
  | _ => False
theorem Owns.app {H : Hp} {L : Addr → Prop} {ds : List PyData} : ∀ {zs xs : List V} {ts : List OT} {bs : List Addr}, Owns G H L xs ts bs → Das G H L zs ds → Owns G H L (xs ++ zs) (ts ++ ds.map OT.fz) bs := by
  induction ds with
  | nil =>
    intro zs xs ts bs h g
    cases g
    rw [List.append_nil, List.map_nil, List.append_nil]; exact h
  | cons d ds ih =>
    intro zs xs ts bs h g
    cases g with
    | cons q g =>
      have := ih (h.snoc (.fz q)) g
      rw [List.append_nil, List.append_assoc, List.append_assoc] at this
      exact this
theorem Zk0 (i : Nat) (he : ME X io p true e m) (hN : X.N[i]? = some x := by rfl) (hv : Vis X.env.scope x := by first | exact Or.inl rfl | exact Or.inr (Or.inl rfl) | exact Or.inr (Or.inr rfl)) (hd : (x == ("__debug__" : Str)) = false := by decide)
    (hcd : (x == ("__classdict__" : Str)) = false := by decide)
    (hbase : attributeBase (.Name x px) "extend" X.env (eval (.Name x px) X.env) = eval (.Name x px) X.env := by rfl)
    (hfew : ((backTo cpos (starEach [e] X.env)).all (fun x => !x.1) && (backToKw cpos (keywordEach [] X.env)).all (fun x => x.1.isSome)
      && decide ([e].length + ([] : List Keyword).length + (if ([] : List Keyword).isEmpty then 0 else 1) < 30)) = true := by rfl)
    (hline : (apos.endLine == cpos.line) = true := by rfl) (hs : starEach [e] X.env = (false, eval e X.env) :: starEach [] X.env := by rfl) (hplain : (backTo cpos (starEach [] X.env)).any (·.1) = false := by rfl)
    (hsw : swapsWith (.Call (.Attribute (.Name x px) "extend" apos) [e] [] cpos) none pos.line X.env = pure false := by rfl) :
    MS X io (.Expr (.Call (.Attribute (.Name x px) "extend" apos) [e] [] cpos) pos) (Zh9 i m) := by
  obtain ⟨_, A, s⟩ := he
  refine ⟨_, Zoz (Zto PySem.F.plainAttrs_list PySem.F.slot_list_extend PySem.F.type_list_extend Zp6 (pv i hN hv hd hcd) (Zaw A Zd0 hs) hbase hfew hline hs hplain) hsw, fun C H σ δ fp ex D D' R h E => ?_⟩
  unfold Zh9 at h
  split at h
  case h_2 => exact h.elim
  rename_i ts0 hi0
  obtain ⟨a', xs0, bs0, hv0, hx0, _, _⟩ := R.ownNd hi0
  refine ⟨_, hv0, .inl ⟨rfl, xs0, .inl (.inl hx0)⟩, ?_⟩
  refine s C H σ δ fp ex _ _ R h fun H1 v r δ1 fp1 new r1 h1 => ?_
  split at h1
  case h_2 => exact h1.elim
  rename_i rs ts1 hi1
  have R1 := r1.base
  obtain ⟨a1, xs1, bs1, hv1, hx1, o1, hf1⟩ := R1.ownNd hi1
  rw [hv0] at hv1
  cases hv1
  obtain ⟨b, zs, rfl, hb, lz, qs⟩ : ∃ b zs, v = .ref b ∧ H1 b = some (.lst zs) ∧ zs.length = rs.length ∧ Das X.K H1 (Lf C fp1 ex) zs (OT.datas rs) := by
    have ow := r1.own
    have nw : ∀ a ∈ new, Lf C fp1 ex a := fun a m => by
      refine ⟨fun qz => ?_, (R.newOk (r1.fresh a m)).2.1, .inr (R.newOk (r1.fresh a m)).2.2⟩
      obtain ⟨i, z⟩ := qz
      exact r1.rel.dx i a z (.inr m)
    cases ow with
    | nd hb r => exact ⟨_, _, rfl, hb, r.length, r.das (fun a l _ => ⟨(l rfl).1, fun z => (l rfl).2.1 (.inl z), (l rfl).2.2⟩) fun a m => nw a (.tail _ m)⟩
  refine ⟨a', b, xs1, zs, rfl, rfl, hx1, hb, by rw [o1.length, lz]; exact h1.1, ?_⟩
  obtain ⟨R2, S2⟩ := R1.top hi1 hv0 hf1 hx1 (o1.app qs) (List.Sublist.refl _)
  exact E.nx _ σ _ _ R2 (r1.stp.kp.trans S2.kp) h1.2
noncomputable def Zb9 (i : Nat) (e : FE) : FS := fun δ => match δ[i]? with
  | some (some (.nd _)) => wE e (fun r δ1 => match r, δ1[i]? with
    | .nd rs, some (some (.nd ts)) => if ts.length + rs.length ≤ sizeLine then .nx (δ1.set i (some (.nd (ts ++ (OT.datas rs).map OT.fz)))) else .bad
    | _, _ => .bad) δ
  | _ => .bad
theorem Zkb (h : MS X io st (Zh9 i (o2 fa))) : MS X io st (oS (Zb9 i fa)) := h.weak fun D δ h => by
  unfold oS Zb9 at h; unfold Zh9
  split at h
  case h_2 => exact h.elim
  rename_i q; (try rw [q])
  refine (Zn4 h).imp fun r δ' z => ?_
  split at z
  · rename_i q2; (try rw [q2]); exact Zm0 z
  · exact z.elim
end
end L2
namespace L2
open PySem PySem.Spec PyProof.Rows
noncomputable def Up (xs : List Nat) : Prop := xs.Pairwise (· < ·)
structure Tb (b : Bool) (t : SetTable) : Prop where
  led : t.led = b
  up : t.plain = true → Up t.place.toList
end L2
namespace L2
open PySem PySem.Spec PyProof.Rows
noncomputable def vI : Value → Int
  | .int k _ => k
  | _ => 0
noncomputable def SetI (prog : Program) (w : World) (b : Bool) (h : Heap) (S : Addr) (ks : List Int) : Prop :=
  ∃ o es ep t, h.get? S = some o ∧ o.ExactSet ∧ o.data = .set es ep t ∧ ElemsOf (intKind prog w) es.toList ∧ es.size < scanBound ∧ t.fits es.size = true ∧ Tb b t ∧ es.toList.map (fun e => vI e.2) = ks
section
variable {prog : Program} {w : World} {A : Around} {E : Value → Shared → Prop} {s : Shared} {b : Bool}
theorem SetI.len {h : Heap} {S : Addr} {ks : List Int} (hS : SetI prog w b h S ks) : ks.length < scanBound := by
  obtain ⟨o, es, ep, t, _, _, _, _, l, _, _, rfl⟩ := hS
  rw [List.length_map, Array.length_toList]; exact l
end
end L2
namespace L2
open PySem PySem.Spec PyProof.Rows
noncomputable def OfL {α : Type} (ks ns : List α) : Prop := ks.Nodup ∧ ∀ x, x ∈ ks ↔ x ∈ ns
noncomputable abbrev Of (ks ns : List Int) : Prop := OfL ks ns
structure Z9d {τ : Type} (prog : Program) (w : World) (A : Around) (S : Addr) (T : Heap → List τ → Prop) (h0 : Heap) (n : Nat) (Ok : Value → τ → Prop) : Prop where
  stay : ∀ h h' ks, T h ks → (∀ o, h.get? S = some o → h'.get? S = some o) → T h' ks
  add : ∀ (s : Shared) (E : Value → Shared → Prop) (v : Value) (k : τ) (ks : List τ) (Q : Bool → Shared → Prop), Ok v k → (∀ b o, b < S → h0.get? b = some o → s.heap.get? b = some o) → T s.heap ks → ks.length < n → (∀ c h' tk ks', Heap.SameBut S s.heap h' → T h' ks' → (k ∈ ks → ks' = ks) → (k ∉ ks → ks'.Perm (ks ++ [k])) → Q c { s with heap := h', toks := tk }) → wpAny (model prog w) A (setAdd S v) Q E s
section
variable {prog : Program} {w : World} {A : Around} {R : Result → Shared → Prop} {I S : Addr} {fp wr : List Addr} {n : Nat} {Pv : Nat → Value → Prop} {St : Nat → Heap → Prop} {τ : Type} {T : Heap → List τ → Prop} {h0 : Heap} {Ok : Value → τ → Prop}
end
section
variable {prog : Program} {w : World} {A : Around} {E : Value → Shared → Prop} {s : Shared}
end
end L2
namespace L2
open PySem PySem.Spec PyProof.Rows
section
variable {prog : Program} {w : World} {A : Around} {E : Value → Shared → Prop} {s : Shared}
end
end L2
namespace L2
open PySem PySem.Spec PyProof.Rows
section
variable {prog : Program} {w : World} {A : Around} {E : Value → Shared → Prop} {s : Shared}
end
end L2
namespace L2
open PySem PySem.Spec PyProof.Rows
section
variable {prog : Program} {w : World} {A : Around} {E : Value → Shared → Prop} {s : Shared}
end
end L2
namespace L2
open PySem PySem.Spec PyProof.Rows
section
variable {prog : Program} {w : World} {A : Around} {E : Value → Shared → Prop} {s : Shared}
end
end L2
namespace L2
open PySem PySem.Spec PyProof.Rows
section
variable {prog : Program} {w : World} {A : Around} {E : Value → Shared → Prop} {s : Shared}
end
end L2
namespace L2
open PySem PySem.Spec PyProof.Rows
section
variable {prog : Program} {w : World} {A : Around} {E : Value → Shared → Prop} {s : Shared}
end
end L2
namespace L2
open PySem PySem.Spec PyProof.Rows
section
variable {prog : Program} {w : World} {A : Around} {E : Value → Shared → Prop} {s : Shared}
end
end L2
namespace L2
open PySem PySem.Spec PyProof.Rows
section
variable {X : Cx} {p c : Bool} {io : List Nat} {a e : Expr} {pos pos' pl pr : Pos} {t : TA} {mr : MAt} {ra : FA}
end
end L2
namespace L2
open PySem PySem.Spec PyProof.Rows
section
variable {X : Cx} {io : List Nat} {st : Stmt} {ra : FA}
end
end L2
namespace L2
open PySem PySem.Spec PyProof.Rows
section
variable {κ : Type} [DecidableEq κ]
noncomputable def Zrk (kvs : List (κ × V)) (k : κ) : Option V := (kvs.find? fun kv => decide (kv.1 = k)).map (·.2)
noncomputable def putK (kvs : List (κ × V)) (k : κ) (v : V) : List (κ × V) :=
  if (kvs.any fun kv => decide (kv.1 = k)) = true then kvs.map (fun kv => if kv.1 = k then (kv.1, v) else kv) else kvs ++ [(k, v)]
theorem Ztx {p : κ × V} {r : List (κ × V)} {k : κ} (e : p.1 = k) : Zrk (p :: r) k = some p.2 := by simp [Zrk, List.find?_cons, e]
theorem Zr6 {p : κ × V} {r : List (κ × V)} {k : κ} (e : ¬ p.1 = k) : Zrk (p :: r) k = Zrk r k := by simp [Zrk, List.find?_cons, e]
theorem RelO.getD {o : Option V} {u : Option Value} {d : V} {d' : Value} (r : RelO o u) (rd : RelV d d') : RelV (o.getD d) (u.getD d') := by
  cases o with
  | none => cases u with
    | none => exact rd
    | some _ => exact (show False from r).elim
  | some _ => cases u with
    | none => exact (show False from r).elim
    | some _ => exact r
theorem KV.length {kvs : List (κ × V)} {vs : List (κ × Value)} (r : KV kvs vs) : kvs.length = vs.length := Paired.length r
end
noncomputable abbrev KT (H : Hp) : List (List Key × V) → List (List Key × Addr × Value) → Prop := Paired fun p q => p.1 = q.1 ∧ H q.2.1 = some (.tup (p.1.map kV)) ∧ RelV p.2 q.2.2
section
variable {P : Program} {w : World} {H : Hp} {h : Heap} {a : Addr}
end
noncomputable def DGet (H : Hp) (a : Addr) (y : V) (r : Option V) : Prop :=
  (∃ kvs k, Rd H a (.dK kvs) ∧ y = kV k ∧ r = Zrk kvs k) ∨ ∃ kvs k b, Rd H a (.dT kvs) ∧ y = .ref b ∧ H b = some (.tup (k.map kV)) ∧ r = Zrk kvs k
noncomputable def DPut (H : Hp) (a : Addr) (y v : V) (H' : Hp) : Prop :=
  (∃ kvs k, H a = some (.dK kvs) ∧ y = kV k ∧ kvs.length < sizeLine ∧ H' = upd H a (.dK (putK kvs k v))) ∨
  ∃ kvs k b, H a = some (.dT kvs) ∧ y = .ref b ∧ H b = some (.tup (k.map kV)) ∧ kvs.length < sizeLine ∧ H' = upd H a (.dT (putK kvs k v))
theorem DGet.k {H : Hp} {a : Addr} {kvs : List (Key × V)} {k : Key} (e : H a = some (.dK kvs)) : DGet H a (kV k) (Zrk kvs k) := .inl ⟨kvs, k, .inl e, rfl, rfl⟩
theorem DGet.t {H : Hp} {a b : Addr} {kvs : List (List Key × V)} {k : List Key} (e : H a = some (.dT kvs)) (eb : H b = some (.tup (k.map kV))) : DGet H a (.ref b) (Zrk kvs k) := .inr ⟨kvs, k, b, .inl e, rfl, eb, rfl⟩
theorem DPut.k {H : Hp} {a : Addr} {kvs : List (Key × V)} {k : Key} {v : V} (e : H a = some (.dK kvs)) (hl : kvs.length < sizeLine) : DPut H a (kV k) v (upd H a (.dK (putK kvs k v))) := .inl ⟨kvs, k, e, rfl, hl, rfl⟩
theorem DPut.t {H : Hp} {a b : Addr} {kvs : List (List Key × V)} {k : List Key} {v : V} (e : H a = some (.dT kvs)) (eb : H b = some (.tup (k.map kV))) (hl : kvs.length < sizeLine) :
    DPut H a (.ref b) v (upd H a (.dT (putK kvs k v))) := .inr ⟨kvs, k, b, e, rfl, eb, hl, rfl⟩
section
variable {X : Cx} {pins : List (Addr × Obj)} {σ : St} {H : Hp} {s : Shared} {a : Addr} {y v : V} {u r : Value} {o : Option V} {A : Around} {E : Value → Shared → Prop}
end
section
variable {X : Cx} {pins : List (Addr × Obj)} {σ : St} {H : Hp} {s : Shared} {a : Addr} {kvs : List (Key × V)} {k : Key} {u : Value} {A : Around} {E : Value → Shared → Prop}
end
section
variable {X : Cx} {o i e value : Expr} {pos pos' tpos : Pos} {td ty tv : TE}
end
section
variable {X : Cx} {pos : Pos}
end
noncomputable abbrev VV : List (V × V) → List (Value × Value) → Prop := Paired fun p q => RelV p.1 q.1 ∧ RelV p.2 q.2
structure M1 (X : Cx) (o : Expr) (m : Str) (apos : Pos) (e : Expr) (cpos : Pos) : Prop where
  base : attributeBase o m X.env (eval o X.env) = eval o X.env
  few : ((backTo cpos (starEach [e] X.env)).all (fun x => !x.1) && (backToKw cpos (keywordEach [] X.env)).all (fun x => x.1.isSome)
    && decide (([e] : List Expr).length + ([] : List Keyword).length + (if ([] : List Keyword).isEmpty then 0 else 1) < 30)) = true
  line : (apos.endLine == cpos.line) = true
  trees : backTo cpos (starEach [e] X.env) = [(false, eval e X.env)]
structure M2 (X : Cx) (o : Expr) (m : Str) (apos : Pos) (e f : Expr) (cpos : Pos) : Prop where
  base : attributeBase o m X.env (eval o X.env) = eval o X.env
  few : ((backTo cpos (starEach [e, f] X.env)).all (fun x => !x.1) && (backToKw cpos (keywordEach [] X.env)).all (fun x => x.1.isSome)
    && decide (([e, f] : List Expr).length + ([] : List Keyword).length + (if ([] : List Keyword).isEmpty then 0 else 1) < 30)) = true
  line : (apos.endLine == cpos.line) = true
  trees : backTo cpos (starEach [e, f] X.env) = [(false, eval e X.env), (false, eval f X.env)]
section
variable {X : Cx} {pins : List (Addr × Obj)} {σ : St} {H : Hp} {s : Shared} {a : Addr} {y d : V} {u r : Value} {o : Option V} {A : Around} {E : Value → Shared → Prop}
end
section
variable {X : Cx} {o e f : Expr} {apos cpos : Pos} {td ty tx : TE}
end
end L2
namespace L2
open PySem PySem.Spec PyProof.Rows
variable {G : PySem.W.Frag}
noncomputable def Z4i (k : KY) : List KY → List PyData → Option PyData
  | [], _ => none
  | _ :: _, [] => none
  | j :: ks, d :: ds => if j = k then some d else Z4i k ks ds
section
variable {H : Hp} {L : Addr → Prop} {κ : Type} [DecidableEq κ] {f : κ → KY}
noncomputable def Z63 (G : PySem.W.Frag) (H : Hp) (L : Addr → Prop) (a : Option V) (b : Option PyData) : Prop := (∃ v d, a = some v ∧ b = some d ∧ Da G H L v d) ∨ (a = none ∧ b = none)
theorem look (hf : ∀ a b, f a = f b → a = b) (k : κ) (kvs : List (κ × V)) : ∀ ds, Das G H L (kvs.map (·.2)) ds → Z63 G H L (Zrk kvs k) (Z4i (f k) (kvs.map fun p => f p.1) ds) := by
  induction kvs with
  | nil => exact fun ds _ => .inr ⟨rfl, rfl⟩
  | cons p kvs ih =>
    intro ds h
    cases h with
    | cons h r =>
      rename_i d ds
      show Z63 G H L _ (if f p.1 = f k then some d else Z4i (f k) (kvs.map fun p => f p.1) ds)
      by_cases e : p.1 = k
      · rw [Ztx e, if_pos (congrArg f e)]
        exact .inl ⟨_, _, rfl, rfl, h⟩
      · rw [Zr6 e, if_neg fun z => e (hf _ _ z)]
        exact ih _ r
end
section
variable {H : Hp} {L : Addr → Prop} {y : V} {e : PyData}
end
end L2
namespace L2
open PySem PySem.Spec PyProof.Rows
variable {G : PySem.W.Frag}
section
variable {X : Cx} {io : List Nat} {p c p' c' : Bool} {a b e f o : Expr} {ma mb m mi mo me mf : MEt} {pos pp apos cpos px : Pos} {i : Nat} {x : Str}
end
end L2
namespace L2
open PySem PySem.Spec PyProof.Rows
variable {G : PySem.W.Frag}
end L2
namespace L2
open PySem PySem.Spec PyProof.Rows PySem.W PySem.SeqAt
variable {G : PySem.W.Frag}
section
variable {prog : Program} {w : World} {A : Around} {E : Value → Shared → Prop} {s : Shared}
end
theorem Paired.at {α β : Type} {R : α → β → Prop} {as : List α} {bs : List β} (h : PySem.Paired R as bs) : ∀ {i : Nat} {y : β}, bs[i]? = some y → ∃ x, as[i]? = some x ∧ R x y := by
  induction h with
  | nil => intro i y z; cases z
  | cons h t ih =>
    intro i y z
    cases i with
    | zero => cases z; exact ⟨_, rfl, h⟩
    | succ i => exact ih z
end L2
namespace L2
open PySem PySem.Spec PyProof.Rows
variable {G : PySem.W.Frag}
section
variable {X : Cx} {io : List Nat} {p c : Bool} {e f : Expr} {mr : MAt} {pos apos cpos px : Pos} {x : Str} {st : Stmt} {ra : FA}
end
end L2
namespace L2
open PySem PySem.Spec PyProof.Rows PySem.W PySem.SeqAt
end L2
namespace L2
open PySem PySem.Spec PyProof.Rows
variable {G : PySem.W.Frag}
end L2
namespace L2
open PySem PySem.Spec PyProof.Rows
noncomputable def Z6r (o : Option (Option OT)) (δ : Zh) : Option (OT × Zh) := match o with | some (some (.fz d)) => some (.fz d, δ) | _ => none
theorem Zig (d : PyData) (δ : Zh) : Z6r (some (some (.fz d))) δ = some (.fz d, δ) := rfl
noncomputable def Z00 (o : Option (Option OT)) (δ : Zh) : Option (OT × Zh) := match o with | some (some t) => some (.fz t.data, δ) | _ => none
theorem Zxt (t : OT) (δ : Zh) : Z00 (some (some t)) δ = some (.fz t.data, δ) := rfl
theorem Zhy (i : Nat) (δ : Zh) : Zd i δ = Z6r δ[i]? δ := rfl
theorem Zxy (i : Nat) (δ : Zh) : Jz i δ = Z00 δ[i]? δ := rfl
theorem Z1s (d : PyData) (δ : Zh) : fC d δ = some (.fz d, δ) := rfl
theorem Zrq (g : PyData → PyData → Option PyData) (a b : FE) (δ : Zh) : Zf g a b δ = (a δ).bind fun p => (b p.2).bind fun q => (g p.1.data q.1.data).bind fun d => some (.fz d, q.2) := rfl
theorem Zog (g : PyData → PyData → Option OT) (a b : FE) (δ : Zh) : Yd g a b δ = (a δ).bind fun p => (b p.2).bind fun q => (g p.1.data q.1.data).bind fun d => some (d, q.2) := rfl
theorem Z14 (g : PyData → Option PyData) (a : FE) (δ : Zh) : fUn g a δ = (a δ).bind fun p => (g p.1.data).bind fun d => some (.fz d, p.2) := rfl
noncomputable def onB {α : Type} (d : PyData) (x y : Option α) : Option α := match d with | .bool true => x | .bool false => y | _ => none
theorem Z49 {α : Type} (x y : Option α) : onB (.bool true) x y = x := rfl
theorem Z8t {α : Type} (x y : Option α) : onB (.bool false) x y = y := rfl
theorem Zxr (a b : FE) (δ : Zh) : Zty a b δ = (a δ).bind fun p => onB p.1.data (b p.2) (some (.fz (.bool false), p.2)) := by
  unfold Zty onB
  cases a δ with
  | none => rfl
  | some p => first | rfl | (simp only [Option.bind_some]; done) | (simp only [Option.bind_some]; generalize p.1.data = d; cases d <;> first | rfl | (rename_i b; cases b <;> rfl))
theorem Z67 (a b : FE) (δ : Zh) : fOr a b δ = (a δ).bind fun p => onB p.1.data (some (.fz (.bool true), p.2)) (b p.2) := by
  unfold fOr onB
  cases a δ with
  | none => rfl
  | some p => first | rfl | (simp only [Option.bind_some]; done) | (simp only [Option.bind_some]; generalize p.1.data = d; cases d <;> first | rfl | (rename_i b; cases b <;> rfl))
theorem Z52 (t : FT) (a b : FE) (δ : Zh) : fIf t a b δ = (t δ).bind fun p => if p.1 = true then a p.2 else b p.2 := rfl
noncomputable def Z40 (t : OT) (δ : Zh) : Option (Bool × Zh) := match t with | .fz (.bool b) => some (b, δ) | _ => none
theorem Z0x (b : Bool) (δ : Zh) : Z40 (.fz (.bool b)) δ = some (b, δ) := rfl
theorem Z3r (e : FE) (δ : Zh) : tV e δ = (e δ).bind fun p => Z40 p.1 p.2 := by
  unfold tV Z40
  cases e δ with
  | none => rfl
  | some p => rfl
theorem Zzr (t : FT) (δ : Zh) : tNo t δ = (t δ).bind fun p => some (!p.1, p.2) := rfl
theorem Zuq (t u : FT) (δ : Zh) : tAn t u δ = (t δ).bind fun p => if p.1 = true then u p.2 else some (false, p.2) := rfl
theorem Zy5 (t u : FT) (δ : Zh) : tO t u δ = (t δ).bind fun p => if p.1 = true then some (true, p.2) else u p.2 := rfl
theorem Z4s (e : FE) (δ : Zh) : tD e δ = (e δ).bind fun p => (Zsu p.1.data).bind fun b => some (b, p.2) := rfl
theorem Z4l (δ : Zh) : Zet δ = some (true, δ) := rfl
theorem Zh8 (δ : Zh) : Zm δ = some ([], δ) := rfl
theorem Zct (e : FE) (a : FA) (δ : Zh) : Zb e a δ = (e δ).bind fun p => (a p.2).bind fun q => some (p.1 :: q.1, q.2) := rfl
theorem Zwm (a : FA) (δ : Zh) : Zn6 a δ = (a δ).bind fun p => if p.1.length ≤ sizeLine then some (.fz (.tuple (OT.datas p.1)), p.2) else none := rfl
theorem Zlk (a : FA) (δ : Zh) : Zbe a δ = (a δ).bind fun p => if p.1.length ≤ sizeLine then some (.nd p.1, p.2) else none := rfl
theorem Z19 (a : FA) (δ : Zh) : Z22 a δ = (a δ).bind fun p => if p.1.length ≤ sizeLine then some (.tp p.1, p.2) else none := rfl
theorem Ztw (e : FE) (δ : Zh) : Zpv e δ = (e δ).bind fun p => if Zay p.1.data = true then some (.fz p.1.data, p.2) else none := rfl
theorem Zpz (e : FE) (δ : Zh) : Zhj e δ = (e δ).bind fun p => if Zed p.1 = true then some (p.1, p.2) else none := rfl
noncomputable def okO (x : RF) (δ : Zh) : Option (OT × Zh) := match x with | .ok r => some (r, δ) | _ => none
theorem Zzy (r : OT) (δ : Zh) : okO (.ok r) δ = some (r, δ) := rfl
theorem Zl9 (F : FD) (a : FA) (δ : Zh) : Zt F a δ = (a δ).bind fun p => okO (F (OT.datas p.1)) p.2 := by
  unfold Zt okO
  cases a δ with
  | none => rfl
  | some p => rfl
noncomputable def atO {α : Type} (o : Option (Option OT)) (k : OT → Option α) : Option α := match o with | some (some t) => k t | _ => none
theorem Z86 {α : Type} (t : OT) (k : OT → Option α) : atO (some (some t)) k = k t := rfl
theorem Z1y (i : Nat) (F : FIO) (a : FA) (δ : Zh) : Zu2 i F a δ = atO δ[i]? fun _ => (a δ).bind fun p => atO p.2[i]? fun t => (F t (OT.datas p.1)).bind fun q => some (q.1, p.2.set i (some q.2)) := by
  unfold Zu2
  generalize δ[i]? = o
  rcases o with _ | _ | t
  · rfl
  · rfl
  · show (a δ).bind _ = (a δ).bind _
    cases a δ with
    | none => rfl
    | some p =>
      show (fun o : Option (Option OT) => (match o with | some (some t) => (F t (OT.datas p.1)).bind fun q => some (q.1, p.2.set i (some q.2)) | _ => none)) p.2[i]? = atO p.2[i]? _
      generalize p.2[i]? = o
      rcases o with _ | _ | t <;> rfl
theorem Zwd (g : List PyData → Option PyData) (a : FA) (δ : Zh) : Zau g a δ = (a δ).bind fun p => (g (OT.datas p.1)).bind fun d => some (.fz d, p.2) := rfl
theorem Zt3 (g : List PyData → Option OT) (a : FA) (δ : Zh) : fBl g a δ = (a δ).bind fun p => (g (OT.datas p.1)).bind fun d => some (d, p.2) := rfl
theorem Zvc (T : String) (e : FE) (δ : Zh) : Zli T e δ = (e δ).bind fun p => if Zgi p.1.data = true then none else some (.fz (.bool (Zmq T p.1.data)), p.2) := rfl
theorem Z4o (δ : Zh) : oN δ = some (none, δ) := rfl
noncomputable def asInt {α : Type} (d : PyData) (k : Int → Option α) : Option α := match d with | .int i => k i | _ => none
theorem Zlo {α : Type} (i : Int) (k : Int → Option α) : asInt (.int i) k = k i := rfl
noncomputable def Zo8 {α : Type} (d : PyData) (k : List PyData → Option α) : Option α := match d with | .list i => k i | _ => none
theorem Zqy {α : Type} (i : List PyData) (k : List PyData → Option α) : Zo8 (.list i) k = k i := rfl
noncomputable def Zu9 {α : Type} (d : PyData) (k : List PyData → Option α) : Option α := match d with | .tuple i => k i | _ => none
theorem Z37 {α : Type} (i : List PyData) (k : List PyData → Option α) : Zu9 (.tuple i) k = k i := rfl
theorem Z3v (e : FE) (δ : Zh) : oI e δ = (e δ).bind fun p => asInt p.1.data fun i => some (some i, p.2) := by
  unfold oI asInt
  cases e δ with
  | none => rfl
  | some p => rfl
theorem Zz3 (e : FE) (lo hi : FO) (δ : Zh) : fSl e lo hi δ = (e δ).bind fun p => (lo p.2).bind fun q => (hi q.2).bind fun r => Zo8 p.1.data fun ds => some (.nd ((cutD ds q.1 r.1).map OT.fz), r.2) := by
  unfold fSl Zo8; rfl
theorem Zwe (e : FE) (δ : Zh) : Zfi e δ = (e δ).bind fun p => Zo8 p.1.data fun ds => some (ds, p.2) := by
  unfold Zfi Zo8; rfl
theorem Z59 (e : FE) (δ : Zh) : iTp e δ = (e δ).bind fun p => Zu9 p.1.data fun ds => some (ds, p.2) := by
  unfold iTp Zu9; rfl
noncomputable def as1 {α : Type} (ds : List PyData) (k : Int → Option α) : Option α := match ds with | [.int i] => k i | _ => none
theorem Zvp {α : Type} (i : Int) (k : Int → Option α) : as1 [.int i] k = k i := rfl
noncomputable def as2 {α : Type} (ds : List PyData) (k : Int → Int → Option α) : Option α := match ds with | [.int i, .int j] => k i j | _ => none
theorem Z4g {α : Type} (i j : Int) (k : Int → Int → Option α) : as2 [.int i, .int j] k = k i j := rfl
theorem Z1p (a : FA) (δ : Zh) : iRa a δ = (a δ).bind fun p => as1 (OT.datas p.1) fun j => if rOk j = true then some (Zb3 0 j.toNat, p.2) else none := by
  unfold iRa as1; rfl
theorem Zyn (a : FA) (δ : Zh) : iRb a δ = (a δ).bind fun p => as2 (OT.datas p.1) fun i j => if (rOk i && rOk j) = true then some (Zb3 i (j - i).toNat, p.2) else none := by
  unfold iRb as2; rfl
theorem Zov (a : FA) (δ : Zh) : Zwt a δ = (a δ).bind fun p => as1 (OT.datas p.1) fun j => if rOk j = true ∧ j.toNat ≤ sizeLine then some (.nd ((Zb3 0 j.toNat).map OT.fz), p.2) else none := by
  unfold Zwt as1; rfl
theorem Zqe (a b : FE) (δ : Zh) : Zri a b δ = (a δ).bind fun p => (b p.2).bind fun q => asInt q.1.data fun k => if rOk k = true ∧ k.toNat ≤ sizeLine then some (.nd (List.replicate k.toNat (.fz p.1.data)), p.2) else none := by
  unfold Zri asInt; rfl
noncomputable def Z48 {α : Type} (ds : List PyData) (k : List PyData → List PyData → Option α) : Option α := match ds with | [.list i, .list j] => k i j | _ => none
theorem Z7b {α : Type} (i j : List PyData) (k : List PyData → List PyData → Option α) : Z48 [.list i, .list j] k = k i j := rfl
theorem Z2v (a : FA) (δ : Zh) : Z1v a δ = (a δ).bind fun p => Z48 (OT.datas p.1) fun as bs => some (Zin as bs, p.2) := by
  unfold Z1v Z48; rfl
theorem Z7o (i : Nat) (d : PyData) (δ : Zh) : gNm i d δ = some (δ.set i (some (.fz d))) := rfl
theorem Z4u (i : Nat) (d : PyData) (δ : Zh) : Z8a i d δ = if Zay d = true then some (δ.set i (some (.fz d))) else none := rfl
theorem Z65 (δ : Zh) : gNl [] δ = some δ := rfl
theorem Z6x (g : FG) (gs : FGs) (d : PyData) (r : List PyData) (δ : Zh) : gCn g gs (d :: r) δ = (g d δ).bind (gs r) := rfl
theorem Z7i (n : Nat) (gs : FGs) (ds : List PyData) (δ : Zh) : gTp n gs (.tuple ds) δ = if ds.length = n then gs ds δ else none := rfl
theorem Z64 (n : Nat) (gs : FGs) (ds : List PyData) (δ : Zh) : gLs n gs (.list ds) δ = if ds.length = n then gs ds δ else none := rfl
noncomputable def RS.thn (r : RS) (g : FS) : RS := match r with | .nx δ => g δ | r => r
theorem Zzh (δ : Zh) (g : FS) : (RS.nx δ).thn g = g δ := rfl
theorem Zzn (r : OT) (δ : Zh) (g : FS) : (RS.rt r δ).thn g = .rt r δ := rfl
theorem Z7f (δ : Zh) (g : FS) : (RS.bk δ).thn g = .bk δ := rfl
theorem Z6q (δ : Zh) (g : FS) : (RS.ct δ).thn g = .ct δ := rfl
theorem Z62 (c : Str) (δ : Zh) (g : FS) : (RS.ex c δ).thn g = .ex c δ := rfl
theorem Zow (f g : FS) (δ : Zh) : Zu f g δ = (f δ).thn g := rfl
theorem Z5s (δ : Zh) : fNx δ = .nx δ := rfl
theorem Z3d (δ : Zh) : Z8s δ = .bk δ := rfl
theorem Z3t (δ : Zh) : Z85 δ = .ct δ := rfl
theorem Z0e (c : Str) (δ : Zh) : Zuj c δ = .ex c δ := rfl
theorem Z2x (δ : Zh) : Z3l δ = .rt (.fz .none) δ := rfl
noncomputable def onO {α : Type} (o : Option (α × Zh)) (k : α → Zh → RS) : RS := match o with | some (r, δ') => k r δ' | none => .bad
theorem We {α : Type} (r : α) (δ : Zh) (k : α → Zh → RS) : onO (some (r, δ)) k = k r δ := rfl
theorem Zdr (e : FE) (k : OT → Zh → RS) (δ : Zh) : wE e k δ = onO (e δ) k := by
  unfold wE onO
  cases e δ <;> rfl
noncomputable def onF (x : RF) (δ : Zh) (k : OT → Zh → RS) : RS := match x with | .ok r => k r δ | .exn c => .ex c δ | .bad => .bad
theorem Z69 (r : OT) (δ : Zh) (k : OT → Zh → RS) : onF (.ok r) δ k = k r δ := rfl
theorem Z6w (c : Str) (δ : Zh) (k : OT → Zh → RS) : onF (.exn c) δ k = .ex c δ := rfl
theorem Z8r (F : FD) (a : FA) (k : OT → Zh → RS) (δ : Zh) : wX F a k δ = onO (a δ) fun rs δ1 => onF (F (OT.datas rs)) δ1 k := by
  unfold wX onO onF
  cases a δ with
  | none => rfl
  | some p => rfl
theorem Zq5 (t : FT) (u w : FS) (δ : Zh) : Ww t u w δ = onO (t δ) fun b δ' => if b = true then u δ' else w δ' := by
  unfold Ww onO
  cases t δ <;> rfl
theorem Zx3 (it : FI) (g : FG) (u : FS) (δ : Zh) : Za2 it g u δ = onO (it δ) fun ds δ1 => forLoop g u ds δ1 := by
  unfold Za2 onO
  cases it δ <;> rfl
theorem Z2g (r : OT) (δ : Zh) : Z4a r δ = .nx δ := rfl
theorem Zo9 (r : OT) (δ : Zh) : Jj r δ = .rt r δ := rfl
theorem Z2a (r : OT) (δ : Zh) : Z5f r δ = if Zay r.data = true then .rt (.fz r.data) δ else .bad := rfl
theorem Zqo (i : Nat) (r : OT) (δ : Zh) : Yh i r δ = .nx (δ.set i (some (.fz r.data))) := rfl
theorem Z2l (i : Nat) (r : OT) (δ : Zh) : Z3q i r δ = if Zay r.data = true then .nx (δ.set i (some (.fz r.data))) else .bad := rfl
theorem Zsm (i : Nat) (r : OT) (δ : Zh) : Ja i r δ = .nx (δ.set i (some r)) := rfl
noncomputable def onD (o : Option Zh) : RS := match o with | some δ => .nx δ | none => .bad
theorem Z2u (δ : Zh) : onD (some δ) = .nx δ := rfl
theorem Z4w (g : FG) (r : OT) (δ : Zh) : Z75 g r δ = onD (g r.data δ) := rfl
noncomputable def onT (o : Option (Option OT)) (k : OT → RS) : RS := match o with | some (some t) => k t | _ => .bad
theorem Zvs (t : OT) (k : OT → RS) : onT (some (some t)) k = k t := rfl
theorem Zmi (i : Nat) (δ : Zh) : J9 i δ = onT δ[i]? fun t => .rt t (δ.set i none) := rfl
theorem Zno (i : Nat) (u : FS) (δ : Zh) : Zbh i u δ = onT δ[i]? fun t => u (δ.set i (some (.fz t.data))) := rfl
noncomputable def onN (o : Option (Option OT)) (k : List OT → RS) : RS := match o with | some (some (.nd ts)) => k ts | _ => .bad
theorem Ztd (t : List OT) (k : List OT → RS) : onN (some (some (.nd t))) k = k t := rfl
theorem Zhq (i : Nat) (e : FE) (δ : Zh) : Wl i e δ = onN δ[i]? fun _ => onO (e δ) fun r δ1 => onN δ1[i]? fun ts => if ts.length < sizeLine then .nx (δ1.set i (some (.nd (ts ++ [.fz r.data])))) else .bad := by
  unfold Wl
  generalize δ[i]? = o
  rcases o with _ | _ | (_ | _ | _ | _)
  · rfl
  · rfl
  · rfl
  · show wE e _ δ = onO (e δ) _
    rw [Zdr]
    congr 1
  · rfl
  · rfl
theorem Zxx (i : Nat) (e : FE) (δ : Zh) : Zm5 i e δ = onN δ[i]? fun _ => onO (e δ) fun r δ1 => onN δ1[i]? fun ts => if ts.length < sizeLine then .nx (δ1.set i (some (.nd (ts ++ [r])))) else .bad := by
  unfold Zm5
  generalize δ[i]? = o
  rcases o with _ | _ | (_ | _ | _ | _)
  · rfl
  · rfl
  · rfl
  · show wE e _ δ = onO (e δ) _
    rw [Zdr]
    congr 1
  · rfl
  · rfl
noncomputable def onI (d : PyData) (k : Int → RS) : RS := match d with | .int i => k i | _ => .bad
theorem Z8o (i : Int) (k : Int → RS) : onI (.int i) k = k i := rfl
noncomputable def onX (o : Option Nat) (k : Nat → RS) : RS := match o with | some i => k i | _ => .bad
theorem Z84 (i : Nat) (k : Nat → RS) : onX (some i) k = k i := rfl
theorem Z4p (i : Nat) (e j : FE) (δ : Zh) : Z55 i e j δ = onO (e δ) fun r δ1 => onN δ1[i]? fun ts => onO (j δ1) fun n _ => onI n.data fun k => onX (ixN ts.length k) fun j => .nx (δ1.set i (some (.nd (ts.set j (.fz r.data))))) := by
  unfold Z55
  rw [Zdr]
  congr 1
  funext r δ1
  generalize δ1[i]? = o
  rcases o with _ | _ | (_ | _ | _ | _)
  · rfl
  · rfl
  · rfl
  · show wE j _ δ1 = onO (j δ1) _
    rw [Zdr]
    congr 1
    funext n δ2
    generalize n.data = d
    cases d <;> try rfl
    show (match ixN _ _ with | some j => _ | none => _) = onX (ixN _ _) _
    generalize ixN _ _ = x
    cases x <;> rfl
  · rfl
  · rfl
noncomputable def onU (o : Option OT) (k : List OT → RS) : RS := match o with | some (.nd ts) => k ts | _ => .bad
theorem Z88 (t : List OT) (k : List OT → RS) : onU (some (.nd t)) k = k t := rfl
noncomputable def onP (o : Option (Option OT)) (k : List OT → RS) : RS := match o with | some (some (.tp ts)) => k ts | _ => .bad
theorem Z7y (t : List OT) (k : List OT → RS) : onP (some (some (.tp t))) k = k t := rfl
theorem Z0g (i c : Nat) (e : FE) (δ : Zh) : Zut i c e δ = onP δ[i]? fun ts => onU ts[c]? fun us => onO (e δ) fun r _ => if us.length < sizeLine then .nx (δ.set i (some (.tp (ts.set c (.nd (us ++ [.fz r.data])))))) else .bad := by
  unfold Zut
  generalize δ[i]? = o
  rcases o with _ | _ | (_ | _ | ts | _)
  · rfl
  · rfl
  · rfl
  · rfl
  · show (match ts[c]? with | some (.nd us) => wE e _ δ | _ => _) = onU ts[c]? _
    generalize ts[c]? = o
    rcases o with _ | (_ | _ | _ | _)
    · rfl
    · rfl
    · show wE e _ δ = onO (e δ) _
      rw [Zdr]
    · rfl
    · rfl
  · rfl
noncomputable def on2 (ds : List PyData) (k : PyData → PyData → RS) : RS := match ds with | [d, e] => k d e | _ => .bad
theorem Z8c (d e : PyData) (k : PyData → PyData → RS) : on2 [d, e] k = k d e := rfl
theorem Z3c (i j : Nat) (a : FA) (δ : Zh) : Z5r i j a δ = onO (a δ) fun rs δ1 => on2 (OT.datas rs) fun d e => .nx ((δ1.set i (some (.fz d))).set j (some (.fz e))) := by
  unfold Z5r onO on2
  cases a δ <;> rfl
theorem Zpy {np n : Nat} {S : FS} {ds : List PyData} (h : ds.length = np) : J3 np n S ds = (S (Zbt n ds)).told := by
  unfold J3; rw [if_pos h]
theorem Z4j (δ : Zh) : (RS.nx δ).told = .ok (.fz .none) := rfl
theorem Zlj (r : OT) (δ : Zh) : (RS.rt r δ).told = .ok r := rfl
theorem Z23 (c : Str) (δ : Zh) : (RS.ex c δ).told = .exn c := rfl
theorem Z6v (i j : Int) : Jp (.int i) (.int j) = some (.int (i + j)) := rfl
theorem Z8p (i j : Int) : gSb (.int i) (.int j) = some (.int (i - j)) := rfl
theorem Z7u (i j : Int) : gLt (.int i) (.int j) = some (.bool (decide (i < j))) := rfl
theorem Z7z (i j : Int) : gLe (.int i) (.int j) = some (.bool (decide (i ≤ j))) := rfl
theorem Z44 (i j : Int) : gGt (.int i) (.int j) = some (.bool (decide (j < i))) := rfl
theorem Z42 (i j : Int) : gGe (.int i) (.int j) = some (.bool (decide (j ≤ i))) := rfl
theorem Zkr {i j : Int} (h : Zw7 i j = true) : Ze2 (.int i) (.int j) = some (.int (i * j)) := by
  unfold Ze2 i2c; dsimp only; rw [if_pos h]
theorem Zfs {i j : Int} (h : Zyf i j = true) : Jc (.int i) (.int j) = some (.int (i.fdiv j)) := by
  unfold Jc i2c; dsimp only; rw [if_pos h]
theorem Zt4 {i j : Int} (h : j ≠ 0) : Zal (.int i) (.int j) = some (.int (i.fmod j)) := by
  unfold Zal i2c Z6e; dsimp only; rw [if_pos (decide_eq_true h)]
theorem Zoe {m n : Nat} {x y : Int} (h : Bt m x) (k : Bt n y) (hmn : m + n ≤ 100000000 := by decide) : Zw7 x y = true := Zfh.mpr (h.mulOk k hmn)
theorem Zub {x y : Int} (h : x.natAbs < 2 ^ 64) : Zw7 x y = true := Zfh.mpr (.of_left (intBits_le_64 (by omega) (by omega)))
theorem Zzi {x y : Int} (h : y.natAbs < 2 ^ 64) : Zw7 x y = true := Zfh.mpr (.of_right (intBits_le_64 (by omega) (by omega)))
theorem Zfp {n : Nat} {i j : Int} (h0 : j ≠ 0) (h : Bt n j) (hn : n ≤ 9000 := by decide) : Zyf i j = true := by
  obtain ⟨h1, h2⟩ := DivOk.of (i := i) h0 h hn
  unfold Zyf
  rw [decide_eq_true h1, decide_eq_true h2]; rfl
theorem Z4b (i j : Int) : gEq (.int i) (.int j) = some (.bool (decide (i = j))) := by
  show some (PyData.bool (i == j)) = _
  rw [show (i == j) = decide (i = j) from rfl]
theorem Z39 (i j : Int) : gNe (.int i) (.int j) = some (.bool (!decide (i = j))) := by
  show some (PyData.bool (!(i == j))) = _
  rw [show (i == j) = decide (i = j) from rfl]
theorem Z7t (d : PyData) : gIs d .none = some (.bool (Zdl d)) := rfl
theorem Z2b (d : PyData) : Zfm d .none = some (.bool (!Zdl d)) := rfl
theorem Zph (ds : List PyData) (i : Int) : gIx (.list ds) (.int i) = (atI ds i).bind fun x => some (.fz x) := rfl
theorem Z7s (ds : List PyData) (i : Int) : gIx (.tuple ds) (.int i) = (atI ds i).bind fun x => some (.fz x) := rfl
theorem Zmu (ds : List PyData) : Zam [.list ds] = some (.int ds.length) := rfl
theorem Z0h (ds : List PyData) : Zam [.tuple ds] = some (.int ds.length) := rfl
theorem Zo0 (i : Int) : Zyd [.int i] = some (.int (i.natAbs : Int)) := by
  show some (PyData.int (if i < 0 then -i else i)) = _
  congr 2; split <;> omega
theorem Zzt (i j : Int) : Z0b [.int i, .int j] = some (.int (if j > i then j else i)) := rfl
theorem Z7h (i j : Int) : Z82 [.int i, .int j] = some (.int (if j < i then j else i)) := rfl
theorem Z5l (i : Int) : Z7j [.int i] = some (.int i) := rfl
theorem Z68 (b : Bool) : Z7j [.bool b] = some (.int (if b then 1 else 0)) := rfl
theorem Zxk (ds : List PyData) : Znw [.list ds] = some (.nd (ds.map OT.fz)) := rfl
theorem Z4f (ds : List PyData) : Znw [.tuple ds] = some (.nd (ds.map OT.fz)) := rfl
theorem Zt8 {ds es : List PyData} (h : ds.length + es.length ≤ sizeLine) : Ze8 (.list ds) (.list es) = some (.nd ((ds ++ es).map OT.fz)) := by
  unfold Ze8; dsimp only; rw [if_pos h]
theorem Zzf (i : Int) : Zns (.int i) = some (.int (-i)) := rfl
theorem Z6u (b : Bool) : Z2m (.bool b) = some (.bool (!b)) := rfl
theorem Z7n (b : Bool) : Zsu (.bool b) = some b := rfl
theorem Z6z (i : Int) : Zsu (.int i) = some (i != 0) := rfl
theorem Z6l : Zsu .none = some false := rfl
theorem Z5n (ds : List PyData) : Zsu (.list ds) = some (!ds.isEmpty) := rfl
theorem Zsh {n : Nat} {d : PyData} (h : Sh n d) (hp : W2 d = true) (hn : n ≤ 60) : gNe d d = some (.bool false) := by
  have s : SeqAt.shaped d = true := (h.shp (by omega)).ok
  unfold gNe
  rw [if_pos (by rw [s]; rfl), Zs0 hp]; rfl
theorem Zmc {gg : FG} {u : FS} {ds : List PyData} {δ : Zh} (I : Nat → Zh → Prop) (h0 : I 0 δ)
    (turn : ∀ (i : Nat) (d : PyData) (δ : Zh), ds[i]? = some d → I i δ → ∃ δ1 δ2, gg d δ = some δ1 ∧ (u δ1 = .nx δ2 ∨ u δ1 = .ct δ2) ∧ I (i + 1) δ2) : ∃ δ', forLoop gg u ds δ = .nx δ' ∧ I ds.length δ' := by
  induction ds generalizing δ I with
  | nil => exact ⟨δ, rfl, h0⟩
  | cons d ds ih =>
    obtain ⟨δ1, δ2, e1, e2, h1⟩ := turn 0 d δ rfl h0
    obtain ⟨δ', e3, h3⟩ := ih (δ := δ2) (fun i δ => I (i + 1) δ) h1 fun i d' δ hd hi => turn (i + 1) d' δ (by simpa using hd) hi
    refine ⟨δ', ?_, h3⟩
    rw [Ze5, e1]
    dsimp only
    rcases e2 with e2 | e2 <;> rw [e2] <;> exact e3
noncomputable def Goes (r : RS) (Q : Zh → Prop) : Prop := ∃ δ, (r = .nx δ ∨ r = .ct δ) ∧ Q δ
theorem Goes.nx {δ : Zh} {Q : Zh → Prop} (h : Q δ) : Goes (.nx δ) Q := ⟨δ, .inl rfl, h⟩
theorem Goes.ct {δ : Zh} {Q : Zh → Prop} (h : Q δ) : Goes (.ct δ) Q := ⟨δ, .inr rfl, h⟩
theorem Zoo {α : Type} {me : FE} {cs : Zh} (mk : α → PyData) (f : α → OT) : ∀ (xs : List α) (z : Option OT), (∀ x ∈ xs, me (some (.fz (mk x)) :: cs) = some (f x, some (.fz (mk x)) :: cs)) →
    ∃ z', compLoop (gNm 0) Zet me (xs.map mk) (z :: cs) = some (xs.map f, z' :: cs)
  | [], z, _ => ⟨z, rfl⟩
  | x :: xs, z, h => by
    obtain ⟨z', e⟩ := Zoo mk f xs (some (.fz (mk x))) fun y hy => h y (.tail _ hy)
    refine ⟨z', ?_⟩
    rw [List.map_cons, compLoop]
    show (some (some (OT.fz (mk x)) :: cs)).bind _ = _
    rw [Option.bind_some]
    show (some (true, some (OT.fz (mk x)) :: cs)).bind _ = _
    rw [Option.bind_some, if_pos rfl, h x (.head _), Option.bind_some, e]; rfl
theorem Zmd {α : Type} {t : FT} {me : FE} {cs : Zh} (mk : α → PyData) (p : α → Bool) (f : α → OT) : ∀ (xs : List α) (z : Option OT), (∀ x ∈ xs, t (some (.fz (mk x)) :: cs) = some (p x, some (.fz (mk x)) :: cs)) → (∀ x ∈ xs, p x = true → me (some (.fz (mk x)) :: cs) = some (f x, some (.fz (mk x)) :: cs)) →
    ∃ z', compLoop (gNm 0) t me (xs.map mk) (z :: cs) = some ((xs.filter p).map f, z' :: cs)
  | [], z, _, _ => ⟨z, rfl⟩
  | x :: xs, z, ht, h => by
    obtain ⟨z', e⟩ := Zmd mk p f xs (some (.fz (mk x))) (fun y hy => ht y (.tail _ hy)) fun y hy => h y (.tail _ hy)
    refine ⟨z', ?_⟩
    rw [List.map_cons, compLoop]
    show (some (some (OT.fz (mk x)) :: cs)).bind _ = _
    rw [Option.bind_some, ht x (.head _), Option.bind_some]
    dsimp only
    by_cases hp : p x = true
    · rw [if_pos hp, h x (.head _) hp, Option.bind_some, e, List.filter_cons_of_pos hp]; rfl
    · rw [if_neg hp, e, List.filter_cons_of_neg hp]
theorem Ziw {α : Type} {caps : List Nat} {it : FI} {me : FE} {cs δ δ1 : Zh} (xs : List α) (mk : α → PyData) (f : α → OT) (hi : it δ = some (xs.map mk, δ1)) (hz : xs.length ≤ sizeLine) (hb : blk 1 caps δ1 = none :: cs)
    (h : ∀ x ∈ xs, me (some (.fz (mk x)) :: cs) = some (f x, some (.fz (mk x)) :: cs)) : Y7 1 caps it (gNm 0) Zet me δ = some (.nd (xs.map f), δ1) := by
  unfold Y7
  rw [hi, Option.bind_some]
  dsimp only
  rw [if_pos (by rw [List.length_map]; exact hz), hb]
  obtain ⟨z', e⟩ := Zoo (me := me) (cs := cs) mk f xs none h
  rw [e]; rfl
theorem Zj1 {α : Type} {caps : List Nat} {it : FI} {t : FT} {me : FE} {cs δ δ1 : Zh} (xs : List α) (mk : α → PyData) (p : α → Bool) (f : α → OT) (hi : it δ = some (xs.map mk, δ1)) (hz : xs.length ≤ sizeLine) (hb : blk 1 caps δ1 = none :: cs)
    (ht : ∀ x ∈ xs, t (some (.fz (mk x)) :: cs) = some (p x, some (.fz (mk x)) :: cs)) (h : ∀ x ∈ xs, p x = true → me (some (.fz (mk x)) :: cs) = some (f x, some (.fz (mk x)) :: cs)) : Y7 1 caps it (gNm 0) t me δ = some (.nd ((xs.filter p).map f), δ1) := by
  unfold Y7
  rw [hi, Option.bind_some]
  dsimp only
  rw [if_pos (by rw [List.length_map]; exact hz), hb]
  obtain ⟨z', e⟩ := Zmd (t := t) (me := me) (cs := cs) mk p f xs none ht h
  rw [e]; rfl
theorem Z78 : (2 ≤ sizeLine) = True := by simp [sizeLine_eq]
theorem Z7q : (1 ≤ sizeLine) = True := by simp [sizeLine_eq]
theorem Z87 : (0 ≤ sizeLine) = True := by simp
theorem Z4r : (3 ≤ sizeLine) = True := by simp [sizeLine_eq]
theorem Zn0 {α : Type} (f : α → PyData) (xs : List α) : (xs.map fun x => OT.fz (f x)).map OT.data = xs.map f := by
  rw [List.map_map]; exact List.map_congr_left fun x _ => OT.data_fz _
theorem Zvr {α : Type} {j : Int} {x : α} (h0 : 0 ≤ j) (h1 : j ≤ 1000000) : (if rOk j = true then some x else none) = some x := if_pos (Zfu (by omega) h1)
theorem Zw4 {α : Type} {i j : Int} {x : α} (h0 : 0 ≤ i) (h1 : i ≤ 1000000) (h2 : 0 ≤ j) (h3 : j ≤ 1000000) : (if (rOk i && rOk j) = true then some x else none) = some x := if_pos (by rw [Zfu (by omega) h1, Zfu (by omega) h3]; rfl)
theorem Zu5 {r : RS} {k : Nat} (h : k ≤ 1000000) : (if k < sizeLine then r else .bad) = r := if_pos (by rw [sizeLine_eq]; omega)
end L2
namespace L2
open PySem PySem.Spec PyProof.Rows
noncomputable def EvV (e : FE) (δ : Zh) (d : PyData) : Prop := ∃ t, e δ = some (t, δ) ∧ t.data = d
noncomputable def EvA (a : FA) (δ : Zh) (ds : List PyData) : Prop := ∃ ts, a δ = some (ts, δ) ∧ OT.datas ts = ds
noncomputable def EvT (t : FT) (δ : Zh) (b : Bool) : Prop := t δ = some (b, δ)
noncomputable def Told (F : FD) (ds : List PyData) (d : PyData) : Prop := ∃ t, F ds = .ok t ∧ t.data = d
section
variable {e a b : FE} {as : FA} {δ δ' : Zh} {x y d : PyData} {xs ds : List PyData} {i j : Nat} {p q : Bool} {t u : FT} {S S' : FS} {r : RS}
theorem EvV.cast {e : FE} {δ : Zh} {x y : PyData} (h : EvV e δ x) (k : x = y) : EvV e δ y := k ▸ h
theorem Za (h : δ[i]? = some (some (.fz d)) := by rfl) : EvV (Zd i) δ d := ⟨_, by rw [Zhy, h, Zig], OT.data_fz _⟩
theorem Zf3 {t : OT} (h : δ[i]? = some (some t)) (hd : t.data = d) : EvV (Jz i) δ d := ⟨_, by rw [Zxy, h, Zxt], by rw [OT.data_fz, hd]⟩
theorem Z0 : EvV (fC d) δ d := ⟨_, rfl, OT.data_fz _⟩
theorem Zy {g : PyData → PyData → Option PyData} (ha : EvV a δ x) (hb : EvV b δ y) (h : g x y = some d) : EvV (Zf g a b) δ d := by
  obtain ⟨_, e1, d1⟩ := ha
  obtain ⟨_, e2, d2⟩ := hb
  exact ⟨_, by rw [Zrq, e1, Option.bind_some, e2, Option.bind_some, d1, d2, h, Option.bind_some], OT.data_fz _⟩
theorem Zuh {g : PyData → PyData → Option OT} {o : OT} (ha : EvV a δ x) (hb : EvV b δ y) (h : g x y = some o) (hd : o.data = d) : EvV (Yd g a b) δ d := by
  obtain ⟨_, e1, d1⟩ := ha
  obtain ⟨_, e2, d2⟩ := hb
  exact ⟨_, by rw [Zog, e1, Option.bind_some, e2, Option.bind_some, d1, d2, h, Option.bind_some], hd⟩
theorem Zaf (ha : EvV a δ x) (hb : EvV b δ y) (h : gIx x y = some (.fz d)) : EvV (Yd gIx a b) δ d := Zuh ha hb h (OT.data_fz _)
theorem Yq {i j : Int} (ha : EvV a δ (.int i)) (hb : EvV b δ (.int j)) : EvV (Zf Jp a b) δ (.int (i + j)) := Zy ha hb rfl
theorem Za7 {i j : Int} (ha : EvV a δ (.int i)) (hb : EvV b δ (.int j)) : EvV (Zf gSb a b) δ (.int (i - j)) := Zy ha hb rfl
theorem Zy1 {g : PyData → Option PyData} (ha : EvV a δ x) (h : g x = some d) : EvV (fUn g a) δ d := by
  obtain ⟨_, e1, d1⟩ := ha
  exact ⟨_, by rw [Z14, e1, Option.bind_some, d1, h, Option.bind_some], OT.data_fz _⟩
theorem Zh2 (ha : EvV a δ (.bool true)) (hb : EvV b δ d) : EvV (Zty a b) δ d := by
  obtain ⟨_, e1, d1⟩ := ha
  obtain ⟨_, e2, d2⟩ := hb
  exact ⟨_, by rw [Zxr, e1, Option.bind_some, d1, Z49, e2], d2⟩
theorem Zgp {T : String} (ha : EvV a δ x) (hf : Zgi x = false := by rfl) : EvV (Zli T a) δ (.bool (Zmq T x)) := by
  obtain ⟨_, e1, d1⟩ := ha
  exact ⟨_, by rw [Zvc, e1, Option.bind_some, d1, if_neg (by rw [hf]; decide)], OT.data_fz _⟩
theorem Zj : EvA Zm δ [] := ⟨_, rfl, Za8⟩
theorem Zc (h : EvV e δ d) (k : EvA as δ ds) : EvA (Zb e as) δ (d :: ds) := by
  obtain ⟨_, e1, d1⟩ := h
  obtain ⟨_, e2, d2⟩ := k
  exact ⟨_, by rw [Zct, e1, Option.bind_some, e2, Option.bind_some], by rw [J1, d1, d2]⟩
theorem Zq {F : FD} (h : EvA as δ ds) (k : Told F ds d) : EvV (Zt F as) δ d := by
  obtain ⟨_, e1, d1⟩ := h
  obtain ⟨_, e2, d2⟩ := k
  exact ⟨_, by rw [Zl9, e1, Option.bind_some, d1, e2, Zzy], d2⟩
theorem Zbw {g : List PyData → Option PyData} (h : EvA as δ ds) (k : g ds = some d) : EvV (Zau g as) δ d := by
  obtain ⟨_, e1, d1⟩ := h
  exact ⟨_, by rw [Zwd, e1, Option.bind_some, d1, k, Option.bind_some], OT.data_fz _⟩
theorem Z0q {g : List PyData → Option OT} {o : OT} (h : EvA as δ ds) (k : g ds = some o) (hd : o.data = d) : EvV (fBl g as) δ d := by
  obtain ⟨_, e1, d1⟩ := h
  exact ⟨_, by rw [Zt3, e1, Option.bind_some, d1, k, Option.bind_some], hd⟩
theorem Zdy : ∀ ts : List OT, (OT.datas ts).length = ts.length
  | [] => by rw [Za8]; rfl
  | t :: ts => by rw [J1, List.length_cons, List.length_cons, Zdy ts]
theorem datas_map : ∀ ts : List OT, OT.datas ts = ts.map OT.data
  | [] => Za8
  | t :: ts => by rw [J1, List.map_cons, datas_map ts]
theorem Zma (h : EvA as δ ds) (hl : ds.length ≤ 1000) : EvV (Zn6 as) δ (.tuple ds) := by
  obtain ⟨ts, e1, d1⟩ := h
  have := Zdy ts
  rw [d1] at this
  exact ⟨_, by rw [Zwm, e1, Option.bind_some, if_pos (by rw [sizeLine_eq]; show ts.length ≤ _; omega)], by rw [OT.data_fz]; exact congrArg _ d1⟩
theorem Zgr (h : EvA as δ ds) (hl : ds.length ≤ 1000) : EvV (Zbe as) δ (.list ds) := by
  obtain ⟨ts, e1, d1⟩ := h
  have := Zdy ts
  rw [d1] at this
  exact ⟨_, by rw [Zlk, e1, Option.bind_some, if_pos (by rw [sizeLine_eq]; show ts.length ≤ _; omega)], by rw [OT.data_nd, ← datas_map, d1]⟩
theorem Zks {o : OT} {b : Bool} (h : o.data = .bool b) : o = .fz (.bool b) := by
  cases o with
  | fz d => rw [OT.data_fz] at h; rw [h]
  | nd ts => rw [OT.data_nd] at h; cases h
  | tp ts => rw [OT.data_tp] at h; cases h
  | dc _ _ _ => rw [OT.data_dc] at h; cases h
theorem Za6 (h : EvV e δ (.bool p)) : EvT (tV e) δ p := by
  obtain ⟨_, e1, d1⟩ := h
  unfold EvT
  rw [Z3r, e1, Option.bind_some, Zks d1, Z0x]
theorem Z6b (h : EvV e δ d) (k : Zsu d = some p) : EvT (tD e) δ p := by
  obtain ⟨_, e1, d1⟩ := h
  unfold EvT
  rw [Z4s, e1, Option.bind_some, d1, k, Option.bind_some]
theorem Zjl (h : EvV e δ (.bool p)) : EvT (tD e) δ p := Z6b h rfl
theorem Zz7 (h : EvT t δ p) : EvT (tNo t) δ (!p) := by
  unfold EvT at h ⊢
  rw [Zzr, h, Option.bind_some]
theorem Zjk (h : EvT t δ true) (k : EvT u δ p) : EvT (tAn t u) δ p := by
  unfold EvT at h k ⊢
  rw [Zuq, h, Option.bind_some, if_pos rfl, k]
theorem Zlv (h : EvT t δ false) : EvT (tAn t u) δ false := by
  unfold EvT at h ⊢
  rw [Zuq, h, Option.bind_some, if_neg Bool.false_ne_true]
theorem Z51 (h : EvT t δ false) (k : EvT u δ p) : EvT (tO t u) δ p := by
  unfold EvT at h k ⊢
  rw [Zy5, h, Option.bind_some, if_neg Bool.false_ne_true, k]
theorem Z09 (h : EvT t δ true) : EvT (tO t u) δ true := by
  unfold EvT at h ⊢
  rw [Zy5, h, Option.bind_some, if_pos rfl]
theorem Yb (h : S δ = .nx δ') (k : S' δ' = r) : Zu S S' δ = r := by rw [Zow, h, Zzh, k]
theorem Zjy {o : OT} (h : S δ = .rt o δ') : Zu S S' δ = .rt o δ' := by rw [Zow, h, Zzn]
theorem Zn (h : EvV e δ d) : wE e (Yh i) δ = .nx (δ.set i (some (.fz d))) := by
  obtain ⟨_, e1, d1⟩ := h
  rw [Zdr, e1, We, Zqo, d1]
theorem Zze (h : EvV e δ d) : ∃ o, wE e Jj δ = .rt o δ ∧ o.data = d := by
  obtain ⟨_, e1, d1⟩ := h
  exact ⟨_, by rw [Zdr, e1, We, Zo9], d1⟩
theorem W9 (h : EvT t δ true) (k : S δ = r) : Ww t S S' δ = r := by
  unfold EvT at h
  rw [Zq5, h, We, if_pos rfl, k]
theorem Z3 (h : EvT t δ false) (k : S' δ = r) : Ww t S S' δ = r := by
  unfold EvT at h
  rw [Zq5, h, We, if_neg (by decide), k]
noncomputable def Znu (S : FS) (δ : Zh) (d : PyData) : Prop := ∃ o δ', S δ = .rt o δ' ∧ o.data = d
theorem Zw (h : S δ = .nx δ') (k : Znu S' δ' d) : Znu (Zu S S') δ d := by
  obtain ⟨o, δ2, e, hd⟩ := k
  exact ⟨o, δ2, Yb h e, hd⟩
theorem Zbm (k : Znu S δ d) : Znu (Zu S S') δ d := by
  obtain ⟨o, δ2, e, hd⟩ := k
  exact ⟨o, δ2, Zjy e, hd⟩
theorem Y8 (h : EvV e δ d) : Znu (wE e Jj) δ d := by
  obtain ⟨o, e1, hd⟩ := Zze h
  exact ⟨o, δ, e1, hd⟩
theorem Zdp (h : EvT t δ true) (k : Znu S δ d) : Znu (Ww t S S') δ d := by
  obtain ⟨o, δ2, e, hd⟩ := k
  exact ⟨o, δ2, W9 h e, hd⟩
theorem Yi {np n : Nat} (hl : xs.length = np) (k : Znu S (Zbt n xs) d) : Told (J3 np n S) xs d := by
  obtain ⟨o, δ2, e, hd⟩ := k
  exact ⟨o, by rw [Zpy hl, e, Zlj], hd⟩
noncomputable def EvO (o : FO) (δ : Zh) (l : Option Int) : Prop := o δ = some (l, δ)
theorem Z4d : EvO oN δ none := rfl
theorem Zzo {i : Int} (h : EvV e δ (.int i)) : EvO (oI e) δ (some i) := by
  obtain ⟨_, e1, d1⟩ := h
  unfold EvO
  rw [Z3v, e1, Option.bind_some, d1, Zlo]
theorem Z4x {lo hi : FO} {l h : Option Int} (he : EvV e δ (.list ds)) (hl : EvO lo δ l) (hh : EvO hi δ h) : EvV (fSl e lo hi) δ (.list (cutD ds l h)) := by
  obtain ⟨_, e1, d1⟩ := he
  unfold EvO at hl hh
  exact ⟨_, by rw [Zz3, e1, Option.bind_some, hl, Option.bind_some, hh, Option.bind_some, d1, Zqy], by rw [OT.data_nd, OT.map_fz]⟩
theorem Zpa {es : List PyData} (ha : EvV a δ (.list ds)) (hb : EvV b δ (.list es)) (h : ds.length + es.length ≤ 1000000) : EvV (Yd Ze8 a b) δ (.list (ds ++ es)) :=
  Zuh ha hb (Zt8 (by rw [sizeLine_eq]; omega)) (by rw [OT.data_nd, OT.map_fz])
noncomputable def EvI (it : FI) (δ : Zh) (ds : List PyData) : Prop := it δ = some (ds, δ)
theorem Zb2 (h : EvV e δ (.list ds)) : EvI (Zfi e) δ ds := by
  obtain ⟨_, e1, d1⟩ := h
  unfold EvI
  rw [Zwe, e1, Option.bind_some, d1, Zqy]
theorem Zdx {n : Nat} (h : EvA as δ [.int n]) (hn : n ≤ 1000000) : EvI (iRa as) δ (Zb3 0 n) := by
  obtain ⟨_, e1, d1⟩ := h
  unfold EvI
  rw [Z1p, e1, Option.bind_some, d1, Zvp, Zvr (by omega) (by omega), Int.toNat_natCast]
theorem Zc4 {it : FI} {g : FG} (h : EvI it δ ds) (k : forLoop g S ds δ = r) : Za2 it g S δ = r := by
  unfold EvI at h
  rw [Zx3, h, We, k]
theorem Zdc {α : Type} {caps : List Nat} {it : FI} {me : FE} {cs : Zh} (xs : List α) (mk f : α → PyData) (hi : EvI it δ (xs.map mk)) (hz : xs.length ≤ 1000000) (hb : blk 1 caps δ = none :: cs) (h : ∀ x ∈ xs, EvV me (some (.fz (mk x)) :: cs) (f x)) : EvV (Y7 1 caps it (gNm 0) Zet me) δ (.list (xs.map f)) := by
  have g : ∀ x, ∃ o : OT, x ∈ xs → me (some (.fz (mk x)) :: cs) = some (o, some (.fz (mk x)) :: cs) ∧ o.data = f x := fun x => by
    by_cases c : x ∈ xs
    · obtain ⟨o, h1, h2⟩ := h x c
      exact ⟨o, fun _ => ⟨h1, h2⟩⟩
    · exact ⟨.fz .none, fun z => absurd z c⟩
  obtain ⟨o, ho⟩ := Classical.axiomOfChoice g
  unfold EvI at hi
  refine ⟨_, Ziw (cs := cs) xs mk o hi (by rw [sizeLine_eq]; omega) hb (fun x hx => (ho x hx).1), ?_⟩
  rw [OT.data_nd, List.map_map]
  exact congrArg _ (List.map_congr_left fun x hx => (ho x hx).2)
theorem Zmt {ts : List OT} (h : EvV e δ d) (hi : δ[i]? = some (some (.nd ts))) (hl : ts.length ≤ 1000000) : Wl i e δ = .nx (δ.set i (some (.nd (ts ++ [.fz d])))) := by
  obtain ⟨_, e1, d1⟩ := h
  rw [Zhq, hi, Ztd, e1, We, hi, Ztd, Zu5 hl, d1]
theorem Za3 {o : OT} (h : e δ = some (o, δ)) : wE e (Ja i) δ = .nx (δ.set i (some o)) := by rw [Zdr, h, We, Zsm]
theorem Z5m {o : OT} (h : δ[i]? = some (some o)) (hd : o.data = d) : Znu (J9 i) δ d := ⟨o, _, by rw [Zmi, h, Zvs], hd⟩
theorem Zfq {o : OT} (h : δ[i]? = some (some o)) (k : S (δ.set i (some (.fz o.data))) = r) : Zbh i S δ = r := by rw [Zno, h, Zvs, k]
theorem Told.ok {F : FD} {b : Bool} (h : Told F ds (.bool b)) : F ds = .ok (.fz (.bool b)) := by
  obtain ⟨o, e1, d1⟩ := h
  rw [e1, Zks d1]
theorem Zfl {o : OT} {i : Int} (h : o.data = .int i) : o = .fz (.int i) := by
  cases o with
  | fz d => rw [OT.data_fz] at h; rw [h]
  | nd ts => rw [OT.data_nd] at h; cases h
  | tp ts => rw [OT.data_tp] at h; cases h
  | dc _ _ _ => rw [OT.data_dc] at h; cases h
theorem Told.int {F : FD} {i : Int} (h : Told F ds (.int i)) : F ds = .ok (.fz (.int i)) := by
  obtain ⟨o, e1, d1⟩ := h
  rw [e1, Zfl d1]
theorem Zqv {o : OT} (h : o.data = .none) : o = .fz .none := by
  cases o with
  | fz d => rw [OT.data_fz] at h; rw [h]
  | nd ts => rw [OT.data_nd] at h; cases h
  | tp ts => rw [OT.data_tp] at h; cases h
  | dc _ _ _ => rw [OT.data_dc] at h; cases h
theorem Told.of {F : FD} {o : OT} (h : F ds = .ok o) (hd : o.data = d) : Told F ds d := ⟨o, h, hd⟩
end
end L2
namespace L2
open PySem PySem.Spec PyProof.Rows
section
variable {e a b : FE} {as : FA} {δ δ' : Zh} {x y d : PyData} {xs ds : List PyData} {i j : Int} {k : Nat} {p q : Bool} {t u : FT} {S S' : FS} {r : RS} {Q : PyData → Prop}
theorem Wb (ha : EvV a δ (.int i)) (hb : EvV b δ (.int j)) (h : j ≠ 0) : EvV (Zf Zal a b) δ (.int (i.fmod j)) := Zy ha hb (Zt4 h)
theorem Z0i {i j : Int} (h : (decide (0 < j) && decide (j < 18446744073709551616)) = true) : Jc (.int i) (.int j) = some (.int (i.fdiv j)) := by
  rw [Bool.and_eq_true, decide_eq_true_eq, decide_eq_true_eq] at h
  exact Zfs (Zfp (n := 64) (by omega) (Bt.of_lt (by omega) (by omega)))
theorem Jh (ha : EvV a δ (.int i)) (hb : EvV b δ (.int j)) (h : (decide (0 < j) && decide (j < 18446744073709551616)) = true := by decide) : EvV (Zf Jc a b) δ (.int (i.fdiv j)) := Zy ha hb (Z0i h)
theorem Zbj (ha : EvV a δ (.int i)) (hb : EvV b δ (.int j)) (h : i.natAbs < 2 ^ 64 := by decide) : EvV (Zf Ze2 a b) δ (.int (i * j)) := Zy ha hb (Zkr (Zub h))
theorem Zqu (ha : EvV a δ (.int i)) (hb : EvV b δ (.int j)) (h : j.natAbs < 2 ^ 64 := by decide) : EvV (Zf Ze2 a b) δ (.int (i * j)) := Zy ha hb (Zkr (Zzi h))
theorem Zes (ha : EvV a δ (.int i)) (hb : EvV b δ (.int j)) (h : decide (i < j) = p) : EvV (Zf gLt a b) δ (.bool p) := h ▸ Zy ha hb rfl
theorem Zz4 (ha : EvV a δ (.int i)) (hb : EvV b δ (.int j)) (h : decide (j < i) = p) : EvV (Zf gGt a b) δ (.bool p) := h ▸ Zy ha hb (Z44 _ _)
theorem Zys (ha : EvV a δ (.int i)) (hb : EvV b δ (.int j)) (h : decide (j ≤ i) = p) : EvV (Zf gGe a b) δ (.bool p) := h ▸ Zy ha hb (Z42 _ _)
theorem Zfd (ha : EvV a δ (.int i)) (hb : EvV b δ (.int j)) (h : decide (i = j) = p) : EvV (Zf gEq a b) δ (.bool p) := h ▸ Zy ha hb (Z4b _ _)
theorem Zq0 (ha : EvV a δ (.int i)) (hb : EvV b δ (.int j)) (h : (!decide (i = j)) = p) : EvV (Zf gNe a b) δ (.bool p) := h ▸ Zy ha hb (Z39 _ _)
theorem Zm4 (ha : EvV a δ (.int i)) : EvV (fUn Zns a) δ (.int (-i)) := Zy1 ha (Zzf _)
theorem Zl7 {ds : List PyData} (h : EvV e δ (.list ds)) : EvV (Zau Zam (Zb e Zm)) δ (.int ds.length) := Zbw (Zc h Zj) (Zmu ds)
theorem Zt5 (ha : EvV a δ (.list ds)) (hb : EvV b δ (.int i)) (h : atI ds i = some d) : EvV (Yd gIx a b) δ d := Zaf ha hb (by rw [Zph, h]; rfl)
noncomputable def Znp (S : FS) (δ : Zh) (Q : PyData → Prop) : Prop := ∃ d, Znu S δ d ∧ Q d
theorem Wo (h : S δ = .nx δ') (k : Znp S' δ' Q) : Znp (Zu S S') δ Q := k.imp fun _ k => ⟨Zw h k.1, k.2⟩
theorem Zsr (k : Znp S δ Q) : Znp (Zu S S') δ Q := k.imp fun _ k => ⟨Zbm k.1, k.2⟩
theorem Zm2 (h : EvV e δ d) (k : Q d) : Znp (wE e Jj) δ Q := ⟨d, Y8 h, k⟩
theorem Zxf (h : EvT t δ true) (k : Znp S δ Q) : Znp (Ww t S S') δ Q := k.imp fun _ k => ⟨Zdp h k.1, k.2⟩
theorem Zz8 {o : OT} (h : δ[k]? = some (some o)) (hd : Q o.data) : Znp (J9 k) δ Q := ⟨_, Z5m h rfl, hd⟩
theorem Zif {np n : Nat} (hl : xs.length = np) (h : Znp S (Zbt n xs) Q) : ∃ d, Told (J3 np n S) xs d ∧ Q d := h.imp fun _ k => ⟨Yi hl k.1, k.2⟩
theorem Zgn {it : FI} {g : FG} (I : Nat → Zh → Prop) (hi : EvI it δ ds) (h0 : I 0 δ) (turn : ∀ (i : Nat) (d : PyData) (δ : Zh), ds[i]? = some d → I i δ → ∃ δ1 δ2, g d δ = some δ1 ∧ (S δ1 = .nx δ2 ∨ S δ1 = .ct δ2) ∧ I (i + 1) δ2) (k : ∀ δ', I ds.length δ' → Znp S' δ' Q) : Znp (Zu (Za2 it g S) S') δ Q := by
  obtain ⟨δ', e, h⟩ := Zmc I h0 turn
  exact Wo (Zc4 hi e) (k δ' h)
theorem Zra {it : FI} {g : FG} (I : Nat → Zh → Prop) (hi : EvI it δ ds) (h0 : I 0 δ) (turn : ∀ (i : Nat) (d : PyData) (δ : Zh), ds[i]? = some d → I i δ → ∃ δ1 δ2, g d δ = some δ1 ∧ (S δ1 = .nx δ2 ∨ S δ1 = .ct δ2) ∧ I (i + 1) δ2) (k : ∀ δ', I ds.length δ' → Znu S' δ' d) : Znu (Zu (Za2 it g S) S') δ d := by
  obtain ⟨δ', e, h⟩ := Zmc I h0 turn
  exact Zw (Zc4 hi e) (k δ' h)
theorem Zgs {it : FI} {g : FG} (I : Nat → Zh → Prop) (hi : EvI it δ ds) (h0 : I 0 δ) (turn : ∀ (i : Nat) (d : PyData) (δ : Zh), ds[i]? = some d → I i δ → ∃ δ1 δ2, g d δ = some δ1 ∧ (S δ1 = .nx δ2 ∨ S δ1 = .ct δ2) ∧ I (i + 1) δ2) : ∃ δ', Za2 it g S δ = .nx δ' ∧ I ds.length δ' := by
  obtain ⟨δ', e, h⟩ := Zmc I h0 turn
  exact ⟨δ', Zc4 hi e, h⟩
theorem Zse {m n : Nat} (h : EvA as δ [.int m, .int n]) (hm : m ≤ 1000000) (hn : n ≤ 1000000) : EvI (iRb as) δ (Zb3 m (n - m)) := by
  obtain ⟨_, e1, d1⟩ := h
  unfold EvI
  rw [Zyn, e1, Option.bind_some, d1, Z4g, Zw4 (by omega) (by omega) (by omega) (by omega), show ((n : Int) - (m : Int)).toNat = n - m by omega]
theorem Zji : wE (Zbe Zm) (Ja k) δ = .nx (δ.set k (some (.nd []))) := Za3 (by rw [Zlk]; rfl)
theorem Zak {i : Int} (h : 0 < j) : 0 ≤ i.fmod j := by rw [Zd7 h]; exact Int.emod_nonneg _ (by omega)
theorem Zad {i : Int} (h : 0 < j) : i.fmod j < j := by rw [Zd7 h]; exact Int.emod_lt_of_pos _ h
theorem Zcf (i : Int) {n : Nat} (h : 0 < n) : ∃ m : Nat, i.fmod (n : Int) = m ∧ m < n := by
  have h0 := Zak (i := i) (j := n) (by omega)
  have h1 := Zad (i := i) (j := n) (by omega)
  exact ⟨(i.fmod n).toNat, by omega, by omega⟩
theorem Zp0 {o : OT} (h : δ[k]? = some (some o)) (g : Znp S (δ.set k (some (.fz o.data))) Q) : Znp (Zbh k S) δ Q := by
  obtain ⟨d, ⟨o', δ2, e, hd⟩, hq⟩ := g
  exact ⟨d, ⟨o', δ2, Zfq h e, hd⟩, hq⟩
theorem Zvm {o : OT} {ts ts0 : List OT} (h : e δ = some (o, δ')) (h0 : δ[k]? = some (some (.nd ts0))) (h1 : δ'[k]? = some (some (.nd ts))) (hl : ts.length ≤ 1000000) : Wl k e δ = .nx (δ'.set k (some (.nd (ts ++ [.fz o.data])))) := by
  rw [Zhq, h0, Ztd, h, We, h1, Ztd, Zu5 hl]
theorem Zq4 {es : List PyData} (h : EvA as δ ds) (hz : Zyc ds = some es) : EvI (Zeg as) δ es := by
  obtain ⟨_, e1, d1⟩ := h
  unfold EvI Zeg
  rw [e1, Option.bind_some, d1, hz, Option.bind_some]
theorem Zuk {n : Nat} (hn : n ≤ 1000000) {v : Option OT} : (Zri (fC d) (Zd 1)) [v, some (.fz (.int n))] = some (.nd (List.replicate n (.fz d)), [v, some (.fz (.int n))]) := by
  obtain ⟨_, e1, d1⟩ := Za (δ := [v, some (.fz (.int n))]) (i := 1) (d := .int n)
  rw [Zqe, Z1s, Option.bind_some, e1, Option.bind_some, d1, Zlo, if_pos ⟨Zfu (by omega) (by omega), by rw [sizeLine_eq]; omega⟩, Int.toNat_natCast, OT.data_fz]
theorem Ztc {δ : Zh} {v : Option OT} (h : δ[k]? = some v) : δ.set k v = δ := by
  obtain ⟨hk, e⟩ := List.getElem?_eq_some_iff.mp h
  rw [← e, List.set_getElem_self]
theorem Ztf {it : FI} {g gg : FG} {δ1 : Zh} (I : Nat → Zh → Prop) {J : Zh → Prop} (hg : gg d δ = some δ1) (hi : EvI it δ1 ds) (h0 : I 0 δ1) (turn : ∀ (i : Nat) (d : PyData) (δ : Zh), ds[i]? = some d → I i δ → ∃ δ1 δ2, g d δ = some δ1 ∧ (S δ1 = .nx δ2 ∨ S δ1 = .ct δ2) ∧ I (i + 1) δ2) (hJ : ∀ δ', I ds.length δ' → J δ') : ∃ δ1 δ2, gg d δ = some δ1 ∧ (Za2 it g S δ1 = .nx δ2 ∨ Za2 it g S δ1 = .ct δ2) ∧ J δ2 := by
  obtain ⟨δ', e, h⟩ := Zmc I h0 turn
  exact ⟨δ1, δ', hg, .inl (Zc4 hi e), hJ δ' h⟩
theorem Zqh {T : String} (ha : EvV a δ x) (h : Zmq T x = p) (hf : Zgi x = false := by rfl) : EvV (Zli T a) δ (.bool p) := (Zgp ha hf).cast (by rw [h])
theorem Zlw {a b : FE} {bs es : List PyData} {as : List PyData} (ha : EvV a δ (.list as)) (hb : EvV b δ (.list bs)) (hz : Zin as bs = es) : EvI (Zeg (Zb a (Zb b Zm))) δ es := Zq4 (Zc ha (Zc hb Zj)) (congrArg some hz)
theorem Ztp {α : Type} {caps : List Nat} {it : FI} {me : FE} {t : FT} {cs : Zh} (xs : List α) (mk : α → PyData) (pr : α → Bool) (hi : EvI it δ (xs.map mk)) (hz : xs.length ≤ 1000000) (hb : blk 1 caps δ = none :: cs) (ht : ∀ x ∈ xs, EvT t (some (.fz (mk x)) :: cs) (pr x)) (h : ∀ x ∈ xs, pr x = true → me (some (.fz (mk x)) :: cs) = some (.fz (mk x), some (.fz (mk x)) :: cs)) : EvV (Y7 1 caps it (gNm 0) t me) δ (.list ((xs.filter pr).map mk)) := by
  unfold EvI at hi
  refine ⟨_, Zj1 (cs := cs) xs mk pr (fun x => .fz (mk x)) hi (by rw [sizeLine_eq]; omega) hb (fun x hx => ht x hx) h, ?_⟩
  rw [OT.data_nd, List.map_map]
  exact congrArg _ (List.map_congr_left fun x _ => OT.data_fz _)
theorem Told.none {F : FD} (h : Told F ds .none) : F ds = .ok (.fz .none) := by
  obtain ⟨o, e1, d1⟩ := h
  rw [e1, Zqv d1]
end
end L2
namespace My
open PySem L2 PySem.Spec
noncomputable def W5 : FS :=
  (Zu (wE (Zau Zyd (Zb (Zd 0) Zm)) (Yh 0))
    (Zu (wE (Zau Zyd (Zb (Zd 1) Zm)) (Yh 1))
    (Zu (Zha (tV (Zf gNe (Zd 1) (fC (.int 0)))) (Zu (wE (Zf Zal (Zd 0) (Zd 1)) (Yh 2))
    (Zu (wE (Zd 1) (Yh 0))
    (wE (Zd 2) (Yh 1)))))
    (wE (Zd 0) Jj))))
noncomputable def Yl : FD := J3 2 3 W5
theorem Zhw {f1 f2 : Int → Int → Option OT → Zh} {t : FT} {u : FS} (ht : ∀ x y z, t (f1 x y z) = some (!decide (y = 0), f1 x y z)) (hu : ∀ x y z, y ≠ 0 → ∃ z', u (f1 x y z) = .nx (f1 y (x.fmod y) z')) :
    ∀ (n : Nat) (x y : Int) (z : Option OT), 0 ≤ x → 0 ≤ y → y.toNat < n → ∃ z', whileLoop t u n (f1 x y z) = .nx (f1 (Int.gcd x y : Int) 0 z')
  | 0, _, _, _, _, _, h => absurd h (Nat.not_lt_zero _)
  | n + 1, x, y, z, hx, hy, h => by
    unfold whileLoop
    rw [ht]
    dsimp only
    by_cases c : y = 0
    · subst c
      refine ⟨z, ?_⟩
      simp only [decide_true, Bool.not_true, Bool.false_eq_true, if_false]
      rw [Int.gcd_zero_right]
      congr 2
      omega
    · simp only [c, decide_false, Bool.not_false, if_true]
      obtain ⟨z1, e1⟩ := hu x y z c
      rw [e1]
      dsimp only
      have hm : x.fmod y = x % y := Zd7 (by omega)
      have h1 : 0 ≤ x % y := Int.emod_nonneg x c
      have h2 : x % y < y := Int.emod_lt_of_pos x (by omega)
      obtain ⟨z2, e2⟩ := Zhw (f1 := f1) (f2 := f2) ht hu n y (x.fmod y) z1 hy (by omega) (by omega)
      exact ⟨z2, by rw [e2, Ztb hx (by omega)]⟩
theorem Zdo (a b : Int) : Yl [.int a, .int b] = .ok (.fz (.int (Int.gcd a b : Int))) := by
  obtain ⟨z', e⟩ := Zhw (f1 := fun x y z => [some (.fz (.int x)), some (.fz (.int y)), z]) (f2 := fun x y z => []) (t := tV (Zf gNe (Zd 1) (fC (.int 0)))) (u := Zu (wE (Zf Zal (Zd 0) (Zd 1)) (Yh 2)) (Zu (wE (Zd 1) (Yh 0)) (wE (Zd 2) (Yh 1)))) (fun x y z => Za6 (Zq0 Za Z0 rfl)) (fun x y z hy => ⟨_, Yb (Zn (Wb Za Za hy)) (Yb (Zn Za) (Zn Za))⟩) ((b.natAbs : Int).toNat + 1) (a.natAbs : Int) (b.natAbs : Int) none (by omega) (by omega) (by omega)
  rw [Int.gcd_eq_natAbs_gcd_natAbs, Int.natAbs_natCast, Int.natAbs_natCast] at e
  exact Told.int <| Yi rfl <| Zw (Zn (Zbw (Zc Za Zj) (Zo0 a))) <| Zw (Zn (Zbw (Zc Za Zj) (Zo0 b))) <| Zw (Zjw _ e (by intro z; cases z)) (Y8 Za)
noncomputable def Zf0 : FS :=
  (Zu (wE (Zt Yl (Zb (Zd 0) (Zb (Zd 1) Zm))) (Yh 2))
    (Zu (Ww (tV (Zf gLt (Zd 1) (fC (.int 0))))
    (wE (fUn Zns (Zd 2)) (Yh 2))
    fNx)
    (wE (Zn6 (Zb (Zf Jc (Zd 0) (Zd 2)) (Zb (Zf Jc (Zd 1) (Zd 2)) Zm))) Jj)))
noncomputable def Zgb : FD := J3 2 3 Zf0
theorem Z5h {n : Nat} {t b : Int} (hb : b ≠ 0) (hB : Bt n b) (hn : n ≤ 9000) (s : Int) (e : s = shr t b) : Jc (.int t) (.int s) = some (.int (Rat.divInt t b).num) ∧ Jc (.int b) (.int s) = some (.int ((Rat.divInt t b).den : Int)) := by
  subst e
  rw [Zfs (Zfp (Zu7 hb) (Zt9 hb hB) hn), Zfs (Zfp (Zu7 hb) (Zt9 hb hB) hn), Zwi hb, Zv9 hb]
  exact ⟨rfl, rfl⟩
noncomputable def Zfx : FS :=
  (wE (Zty (Zli "int" (Zd 0)) (fUn Z2m (Zli "bool" (Zd 0)))) Jj)
noncomputable def Zcn : FD := J3 1 1 Zfx
noncomputable def Zgf : FS :=
  (Zu (Ww (tO (tNo (tD (Zt Zcn (Zb (Zd 0) Zm)))) (tO (tNo (tD (Zt Zcn (Zb (Zd 1) Zm)))) (tV (Zf gEq (Zd 1) (fC (.int 0))))))
    (Zuj "NoNumber")
    fNx)
    (wE (Zt Zgb (Zb (Zd 0) (Zb (Zd 1) Zm))) Jj))
noncomputable def Zqc : FD := J3 2 2 Zgf
noncomputable def Jv : FS :=
  (Zu (wE (fC (.int 1)) (Yh 1))
    (Zu (Za2 (Zfi (Zd 0)) (gNm 2)
    (wE (Zf Ze2 (Zf Jc (Zd 1) (Zt Yl (Zb (Zd 1) (Zb (Yd gIx (Zd 2) (fC (.int 1))) Zm)))) (Yd gIx (Zd 2) (fC (.int 1)))) (Yh 1)))
    (wE (Zd 1) Jj)))
noncomputable def Y0 : FD := J3 1 3 Jv
noncomputable def prD (p : Int × Int) : PyData := .tuple [.int p.1, .int p.2]
theorem Zr8 {a b B : Int} (ha : 0 < a) (hb : 0 < b) (h1 : a ∣ B) (h2 : b ∣ B) (hB : 0 < B) : 0 < a.fdiv (Int.gcd a b) * b ∧ a ∣ a.fdiv (Int.gcd a b) * b ∧ b ∣ a.fdiv (Int.gcd a b) * b ∧ a.fdiv (Int.gcd a b) * b ∣ B := by
  have hg : 0 < (Int.gcd a b : Int) := Zd3 (by omega)
  have d1 : (Int.gcd a b : Int) ∣ a := Int.gcd_dvd_left ..
  have d2 : (Int.gcd a b : Int) ∣ b := Int.gcd_dvd_right ..
  rw [Wj hg]
  have e : a / (Int.gcd a b : Int) * b = (Int.lcm a b : Int) := by
    have q := Int.gcd_mul_lcm a b
    have h3 : (Int.gcd a b : Int) * (Int.lcm a b : Int) = a * b := by
      rw [← Int.natCast_mul, q, Int.natCast_mul, Int.natAbs_of_nonneg (by omega), Int.natAbs_of_nonneg (by omega)]
    obtain ⟨k, hk⟩ := d1
    have e1 : a / (Int.gcd a b : Int) = k := Int.ediv_eq_of_eq_mul_right (by omega) hk
    rw [e1]
    apply Int.eq_of_mul_eq_mul_left (a := (Int.gcd a b : Int)) (by omega)
    rw [h3, ← Int.mul_assoc, ← hk]
  rw [e]
  refine ⟨?_, Int.dvd_lcm_left .., Int.dvd_lcm_right .., Int.coe_lcm_dvd h1 h2⟩
  have : Int.lcm a b ≠ 0 := by
    rw [Ne, Int.lcm_eq_zero_iff]
    omega
  omega
theorem Zkc {n : Nat} {a B : Int} (hB : 0 < B) (h : a ∣ B) (b : Bt n B) : Bt n a := by
  refine Bt.of_le b ?_
  have := Int.natAbs_dvd_natAbs.mpr h
  exact Nat.le_of_dvd (by omega) this
theorem Zfb {n : Nat} {B : Int} (hB : 0 < B) (bB : Bt n B) (hn : n ≤ 9000 := by decide) (ps : List (Int × Int)) (h : ∀ p ∈ ps, 0 < p.2 ∧ p.2 ∣ B) :
    ∃ m, Told Y0 [.list (ps.map prD)] (.int m) ∧ 0 < m ∧ (∀ p ∈ ps, p.2 ∣ m) ∧ m ∣ B := by
  have key : ∃ d, Told Y0 [.list (ps.map prD)] d ∧ ∃ m, d = .int m ∧ 0 < m ∧ (∀ p ∈ ps, p.2 ∣ m) ∧ m ∣ B := by
    refine Zif rfl <| Wo (Zn Z0) <| Zgn (ds := ps.map prD) (fun i δ => ∃ m z, δ = [some (.fz (.list (ps.map prD))), some (.fz (.int m)), z] ∧ 0 < m ∧ (∀ j p, j < i → ps[j]? = some p → p.2 ∣ m) ∧ m ∣ B) (Zb2 Za) ⟨1, none, rfl, by decide, fun j p hj => absurd hj (Nat.not_lt_zero j), Int.one_dvd _⟩ (fun i d δ hd hi => ?_) fun δ' hi => ?_
    · obtain ⟨m, z, hδ, h1, h2, h3⟩ := hi
      subst hδ
      rw [List.getElem?_map] at hd
      cases e : ps[i]? with
      | none => rw [e] at hd; cases hd
      | some p =>
        rw [e] at hd
        cases hd
        obtain ⟨q1, q2⟩ := h p (List.mem_of_getElem? e)
        obtain ⟨s1, s2, s3, s4⟩ := Zr8 h1 q1 h3 q2 hB
        have g0 : 0 < (Int.gcd m p.2 : Int) := Zd3 (by omega)
        have bg : Bt n (Int.gcd m p.2 : Int) := Zkc hB (Int.dvd_trans (Int.gcd_dvd_right ..) q2) bB
        have bm : Bt n (m.fdiv (Int.gcd m p.2)) := by
          rw [Wj g0]
          exact Bt.of_le (Zkc hB h3 bB) (Int.natAbs_ediv_le_natAbs _ _)
        have at1 : ∀ {δ : Zh}, δ[2]? = some (some (.fz (prD p))) → EvV (Yd gIx (Zd 2) (fC (.int 1))) δ (.int p.2) := fun h => Zaf (Za h) Z0 rfl
        refine ⟨_, _, rfl, .inl (Zn (Zy (Zy Za (Zq (Zc Za (Zc (at1 rfl) Zj)) (.of (Zdo m p.2) (OT.data_fz _))) (Zfs (Zfp (by omega) bg hn))) (at1 rfl) (Zkr (Zoe bm (Zkc hB q2 bB) (by omega))))), _, _, rfl, s1, fun j p' hj hp => ?_, s4⟩
        by_cases z : j = i
        · subst z
          rw [e] at hp; cases hp
          exact s3
        · exact Int.dvd_trans (h2 j p' (by omega) hp) s2
    · obtain ⟨m, z, rfl, h1, h2, h3⟩ := hi
      refine Zm2 Za ⟨m, rfl, h1, fun p hp => ?_, h3⟩
      obtain ⟨j, hj⟩ := List.getElem?_of_mem hp
      exact h2 j p (by have := (List.getElem?_eq_some_iff.mp hj).1; rwa [List.length_map]) hj
  obtain ⟨d, h, m, rfl, hm⟩ := key
  exact ⟨m, h, hm⟩
noncomputable def Zab : FS :=
  (Zu (wE (fC (.int 1)) (Yh 1))
    (Zu (Za2 (Zfi (Zd 0)) (gNm 2)
    (wE (Zt Y0 (Zb (Yd Ze8 (Zbe (Zb (Zn6 (Zb (fC (.int 1)) (Zb (Zd 1) Zm))) Zm)) (Zd 2)) Zm)) (Yh 1)))
    (wE (Zd 1) Jj)))
noncomputable def Z5 : FD := J3 1 3 Zab
theorem Zvt (r : List Rat) : r.map frD = (r.map fun q => (q.num, (q.den : Int))).map prD := by rw [List.map_map]; rfl
noncomputable def Zy6 (T : List (List Rat)) (B : Int) : Prop := ∀ r ∈ T, ∀ q ∈ r, (q.den : Int) ∣ B
theorem Zgm {n : Nat} {B : Int} (hB : 0 < B) (bB : Bt n B) (hn : n ≤ 9000 := by decide) (T : List (List Rat)) (hz : ∀ r ∈ T, r.length ≤ 1000) (h : Zy6 T B) :
    ∃ m, Told Z5 [tbD T] (.int m) ∧ 0 < m ∧ Zy6 T m ∧ m ∣ B := by
  have key : ∃ d, Told Z5 [.list (T.map Zg0)] d ∧ ∃ m, d = .int m ∧ 0 < m ∧ Zy6 T m ∧ m ∣ B := by
    refine Zif rfl <| Wo (Zn Z0) <| Zgn (ds := T.map Zg0) (fun i δ => ∃ m z, δ = [some (.fz (.list (T.map Zg0))), some (.fz (.int m)), z] ∧ 0 < m ∧ (∀ j r, j < i → T[j]? = some r → ∀ q ∈ r, (q.den : Int) ∣ m) ∧ m ∣ B) (Zb2 Za) ⟨1, none, rfl, by decide, fun j p hj => absurd hj (Nat.not_lt_zero j), Int.one_dvd _⟩ (fun i d δ hd hi => ?_) fun δ' hi => ?_
    · obtain ⟨m, z, hδ, h1, h2, h3⟩ := hi
      subst hδ
      rw [List.getElem?_map] at hd
      cases e : T[i]? with
      | none => rw [e] at hd; cases hd
      | some r =>
        rw [e] at hd
        cases hd
        have hr := List.mem_of_getElem? e
        obtain ⟨m', e1, p1, p2, p3⟩ := Zfb hB bB hn ((1, m) :: r.map fun q => (q.num, (q.den : Int))) fun p hp => by
          rcases List.mem_cons.mp hp with rfl | hp
          · exact ⟨h1, h3⟩
          · obtain ⟨q, hq, rfl⟩ := List.mem_map.mp hp
            exact ⟨Zi8 q, h r hr q hq⟩
        rw [List.map_cons, ← Zvt] at e1
        have hl := hz r hr
        refine ⟨_, _, rfl, .inl (Zn (Zq (Zc (Zpa (ds := [prD (1, m)]) (es := r.map frD) (Zgr (Zc (Zma (Zc Z0 (Zc Za Zj)) (show 2 ≤ 1000 by decide)) Zj) (show 1 ≤ 1000 by decide)) Za (by rw [List.length_map, List.length_singleton]; omega)) Zj) e1)), m', _, rfl, p1, fun j r' hj hr' q hq => ?_, p3⟩
        by_cases z : j = i
        · subst z
          rw [e] at hr'; cases hr'
          exact p2 (q.num, (q.den : Int)) (.tail _ (List.mem_map.mpr ⟨q, hq, rfl⟩))
        · exact Int.dvd_trans (h2 j r' (by omega) hr' q hq) (p2 (1, m) (.head _))
    · obtain ⟨m, z, rfl, h1, h2, h3⟩ := hi
      refine Zm2 Za ⟨m, rfl, h1, fun r hr q hq => ?_, h3⟩
      obtain ⟨j, hj⟩ := List.getElem?_of_mem hr
      exact h2 j r (by have := (List.getElem?_eq_some_iff.mp hj).1; rwa [List.length_map]) hj q hq
  obtain ⟨d, h, m, rfl, hm⟩ := key
  exact ⟨m, h, hm⟩
noncomputable def scI (m : Int) (q : Rat) : Int := q.num * (m / (q.den : Int))
theorem Zy9 {m : Int} {q : Rat} (h : (q.den : Int) ∣ m) : (scI m q : Rat) = q * (m : Rat) := by
  obtain ⟨k, rfl⟩ := h
  unfold scI
  rw [Int.mul_ediv_cancel_left _ (Zn7 q)]
  rw [Rat.intCast_mul, Rat.intCast_mul, Z76, Rat.mul_assoc]
noncomputable def Zb0 : FS :=
  (wE (Y7 1 [0] (Zfi (Zd 1)) (gNm 0) Zet (Zf Ze2 (Yd gIx (Zd 0) (fC (.int 0))) (Zf Jc (Zd 1) (Yd gIx (Zd 0) (fC (.int 1)))))) Jj)
noncomputable def Js : FD := J3 2 2 Zb0
theorem Zjt {n : Nat} {m : Int} (hm : 0 < m) (bm : Bt n m) (r : List Rat) (hz : r.length ≤ 1000) (h : ∀ q ∈ r, (q.den : Int) ∣ m ∧ Bt n q.num) (hn : n ≤ 9000 := by decide) :
    Told Js [.int m, Zg0 r] (.list (r.map fun q => .int (scI m q))) :=
  Yi rfl <| Y8 <| Zdc (cs := [some (.fz (.int m))]) r frD (fun q => .int (scI m q)) (Zb2 Za) (by omega) rfl fun q hq => by
    obtain ⟨h1, h2⟩ := h q hq
    refine (Zy (Zaf (d := .int q.num) Za Z0 rfl) (Zy Za (Zaf (d := .int (q.den : Int)) Za Z0 rfl) (Zfs (Zfp (Zn7 q) (Zkc hm h1 bm) hn))) (Zkr ?_)).cast ?_
    · rw [Wj (Zi8 q)]
      exact Zoe h2 (Bt.of_le bm (Int.natAbs_ediv_le_natAbs _ _)) (by omega)
    · rw [Wj (Zi8 q)]; rfl
noncomputable def Zbc : FS :=
  (wE (Y7 1 [0] (Zfi (Zd 1)) (gNm 0) Zet (Zt Js (Zb (Zd 1) (Zb (Zd 0) Zm)))) Jj)
noncomputable def Y5 : FD := J3 2 2 Zbc
theorem Zi2 {n : Nat} {m : Int} (hm : 0 < m) (bm : Bt n m) (T : List (List Rat)) (hT : T.length ≤ 1000) (hz : ∀ r ∈ T, r.length ≤ 1000) (h : Zy6 T m) (hb : ∀ r ∈ T, ∀ q ∈ r, Bt n q.num) (hn : n ≤ 9000 := by decide) :
    Told Y5 [.int m, tbD T] (.list (T.map fun r => .list (r.map fun q => .int (scI m q)))) :=
  Yi rfl <| Y8 <| Zdc (cs := [some (.fz (.int m))]) T Zg0 (fun r => .list (r.map fun q => .int (scI m q))) (Zb2 Za) (by omega) rfl fun r hr => Zq (Zc Za (Zc Za Zj)) (Zjt hm bm r (hz r hr) (fun q hq => ⟨h r hr q hq, hb r hr q hq⟩) hn)
noncomputable def Zf4 : FS :=
  (Zu (wE (Zbe Zm) (Ja 1))
    (Zu (Za2 (iRa (Zb (Zd 0) Zm)) (gNm 2)
    (Za2 (iRb (Zb (Zf Jp (Zd 2) (fC (.int 1))) (Zb (Zd 0) Zm))) (gNm 3)
    (Wl 1 (Zn6 (Zb (Zd 2) (Zb (Zd 3) Zm))))))
    (J9 1)))
noncomputable def Zpp : FD := J3 1 4 Zf4
noncomputable def Jw (n : Nat) : List (Nat × Nat) := (List.range n).flatMap fun i => (List.range (n - (i + 1))).map fun j => (i, i + 1 + j)
noncomputable def ptD (p : Nat × Nat) : PyData := .tuple [.int p.1, .int p.2]
theorem Zcs {n : Nat} {p : Nat × Nat} (h : p ∈ Jw n) : p.1 < p.2 ∧ p.2 < n := by
  unfold Jw at h
  obtain ⟨i, hi, hp⟩ := List.mem_flatMap.mp h
  obtain ⟨j, hj, rfl⟩ := List.mem_map.mp hp
  have := List.mem_range.mp hi
  have := List.mem_range.mp hj
  dsimp only
  omega
theorem Znf {n i j : Nat} (h : i < j) (hj : j < n) : (i, j) ∈ Jw n := by
  unfold Jw
  exact List.mem_flatMap.mpr ⟨i, List.mem_range.mpr (by omega), List.mem_map.mpr ⟨j - (i + 1), List.mem_range.mpr (by omega), by congr 1; omega⟩⟩
noncomputable def Zjo (n i : Nat) : List (Nat × Nat) := (List.range i).flatMap fun i => (List.range (n - (i + 1))).map fun j => (i, i + 1 + j)
theorem Zko (n : Nat) : ∀ i, (Zjo n i).length ≤ i * n
  | 0 => by simp [Zjo]
  | i + 1 => by
    have := Zko n i
    unfold Zjo at this ⊢
    rw [List.range_succ, List.flatMap_append, List.length_append]
    simp only [List.flatMap_cons, List.flatMap_nil, List.append_nil, List.length_map, List.length_range]
    have e : (i + 1) * n = i * n + n := by rw [Nat.succ_mul]
    omega
theorem Zn2 (n i : Nat) : Zjo n (i + 1) = Zjo n i ++ (List.range (n - (i + 1))).map fun j => (i, i + 1 + j) := by
  unfold Zjo; rw [List.range_succ, List.flatMap_append]; simp
end My
namespace My
open PySem L2 PySem.Spec
noncomputable def Zas : FS :=
  (Zu (Ww (tV (Zf gLt (Zd 1) (Zau Zam (Zb (Zd 0) Zm))))
    (wE (Yd gIx (Zd 0) (Zd 1)) Jj)
    fNx)
    (wE (fC (.int 0)) Jj))
noncomputable def Z1 : FD := J3 2 2 Zas
noncomputable def Zck : FS :=
  (Zu (Ww (tV (Zf gEq (Zf Zal (Zf Jc (Zd 0) (fC (.int 7))) (fC (.int 8))) (fC (.int 3))))
    (wE (Zf Jp (Zf Jp (Zd 2) (fC (.int 1))) (Zf Zal (Zf Jc (Zd 0) (fC (.int 56))) (Zf gSb (Zd 3) (Zd 2)))) Jj)
    fNx)
    (wE (Zf Jp (Zd 1) (Zf Zal (Zd 0) (Zf gSb (Zf Jp (Zd 2) (fC (.int 1))) (Zd 1)))) Jj))
noncomputable def W0 : FD := J3 4 4 Zck
noncomputable def Zci : FS :=
  (Zu (wE (Zf Zal (Zf Ze2 (Zf Jp (Zf Jp (Zf Zal (Zd 0) (fC (.int 2147483629))) (Zf Ze2 (fC (.int 9973)) (Zd 1))) (fC (.int 5))) (fC (.int 48271))) (fC (.int 2147483647))) (Yh 2))
    (Zu (wE (Zf Zal (Zf Ze2 (Zd 2) (Zd 2)) (fC (.int 2147483587))) (Yh 2))
    (wE (Zf Jc (Zf Zal (Zf Ze2 (Zf Jp (Zd 2) (Zf Ze2 (fC (.int 7919)) (Zd 1))) (fC (.int 16807))) (fC (.int 2147483563))) (fC (.int 8))) Jj)))
noncomputable def Zr : FD := J3 2 3 Zci
noncomputable def Zav : FS :=
  (Zu (wE (Zbe Zm) (Ja 2))
    (Zu (wE (Zd 0) (Yh 3))
    (Zu (Za2 (iRa (Zb (Zd 1) Zm)) (gNm 4)
    (Zu (wE (Zt Zr (Zb (Zd 0) (Zb (Zd 4) Zm))) (Yh 5))
    (Zu (Ww (tV (Zf gGe (Zd 0) (Zf Zmn (fC (.int 10)) (fC (.int 18)))))
    (wE (Zf Zal (Zd 3) (fC (.int 720720))) (Yh 5))
    fNx)
    (Zu (wE (Zf Jc (Zd 3) (fC (.int 720720))) (Yh 3))
    (Wl 2 (Zd 5))))))
    (J9 2))))
noncomputable def Yw : FD := J3 2 6 Zav
noncomputable def Zg (p : List Int) : PyData := .list (p.map PyData.int)
theorem Znb {p : List Int} {i : Int} (h0 : 0 ≤ i) (h1 : i < p.length) : atI (p.map PyData.int) i = some (.int (p.getD i.toNat 0)) := by
  rw [Zk3 h0, List.getElem?_map, List.getElem?_eq_getElem (by omega)]
  simp [List.getD_eq_getElem?_getD, List.getElem?_eq_getElem (show i.toNat < p.length by omega)]
theorem Jo {a b : FE} {δ : Zh} {p : List Int} {i : Int} (ha : EvV a δ (Zg p)) (hb : EvV b δ (.int i)) (h0 : 0 ≤ i) (h1 : i < p.length) : EvV (Yd gIx a b) δ (.int (p.getD i.toNat 0)) := Zt5 ha hb (Znb h0 h1)
theorem Yt {a : FE} {δ : Zh} {p : List Int} (ha : EvV a δ (Zg p)) : EvV (Zau Zam (Zb a Zm)) δ (.int p.length) := by
  have := Zl7 (ds := p.map PyData.int) ha
  rwa [List.length_map] at this
theorem Z7e : Zmn (.int 10) (.int 18) = some (.int 1000000000000000000) := rfl
theorem Zeu (ns : List Int) {k : Int} (h0 : 0 ≤ k) : ∃ c, Z1 [Zg ns, .int k] = .ok (.fz (.int c)) := by
  by_cases c : k < ns.length
  · exact ⟨_, Told.int <| Yi rfl <| Zbm (Zdp (Za6 (Zes Za (Yt Za) (decide_eq_true c))) (Y8 (Jo Za Za h0 c)))⟩
  · exact ⟨_, Told.int <| Yi rfl <| Zw (Z3 (Za6 (Zes Za (Yt Za) (decide_eq_false c))) rfl) (Y8 Z0)⟩
theorem Zx5 (c : Int) {a b d : Int} (h1 : a ≤ b) (h2 : b < d) : ∃ n : Int, W0 [.int c, .int a, .int b, .int d] = .ok (.fz (.int n)) ∧ a ≤ n ∧ n ≤ d := by
  by_cases k : (c.fdiv 7).fmod 8 = 3
  · have q0 := Zak (i := c.fdiv 56) (j := d - b) (by omega)
    have q1 := Zad (i := c.fdiv 56) (j := d - b) (by omega)
    exact ⟨_, Told.int <| Yi rfl <| Zbm (Zdp (Za6 (Zfd (Wb (Jh Za Z0) Z0 (by decide)) Z0 (decide_eq_true k)))
      (Y8 (Yq (Yq Za Z0) (Wb (Jh Za Z0) (Za7 Za Za) (by omega))))), by omega, by omega⟩
  · have q0 := Zak (i := c) (j := b + 1 - a) (by omega)
    have q1 := Zad (i := c) (j := b + 1 - a) (by omega)
    exact ⟨_, Told.int <| Yi rfl <| Zw (Z3 (Za6 (Zfd (Wb (Jh Za Z0) Z0 (by decide)) Z0 (decide_eq_false k))) rfl)
      (Y8 (Yq Za (Wb Za (Za7 (Yq Za Z0) Za) (by omega)))), by omega, by omega⟩
theorem Zc6 (c k : Int) : ∃ v, Told Zr [.int c, .int k] (.int v) := by
  have n0 := Zak (i := (c.fmod 2147483629 + 9973 * k + 5) * 48271) (j := 2147483647) (by decide)
  have n1 := Zad (i := (c.fmod 2147483629 + 9973 * k + 5) * 48271) (j := 2147483647) (by decide)
  exact ⟨_, Yi rfl <| Zw (Zn (Wb (Zqu (Yq (Yq (Wb Za Z0 (by decide)) (Zbj Z0 Za)) Z0) Z0) Z0 (by decide))) <|
    Zw (Zn (Wb (Zbj Za Za (by omega)) Z0 (by decide))) <|
    Y8 (Jh (Wb (Zqu (Yq Za (Zbj Z0 Za)) Z0) Z0 (by decide)) Z0)⟩
theorem Zij {i : Nat} {e : FE} {δ : Zh} {vs : List Int} {v : Int} (h : EvV e δ (.int v)) (hi : δ[i]? = some (some (.nd (vs.map fun v => .fz (.int v))))) (hl : vs.length ≤ 1000000) : Wl i e δ = .nx (δ.set i (some (.nd ((vs ++ [v]).map fun v => .fz (.int v))))) := by
  rw [Zmt h hi (by rw [List.length_map]; exact hl), List.map_append]; rfl
theorem Zpw {i : Nat} {e : FE} {δ δ' : Zh} {vs : List Int} {ts : List OT} {v : Int} (h : e δ = some (.fz (.int v), δ')) (h0 : δ[i]? = some (some (.nd ts))) (h1 : δ'[i]? = some (some (.nd (vs.map fun v => .fz (.int v))))) (hl : vs.length ≤ 1000000) : Wl i e δ = .nx (δ'.set i (some (.nd ((vs ++ [v]).map fun v => .fz (.int v))))) := by
  rw [Zvm h h0 h1 (by rw [List.length_map]; exact hl), List.map_append, OT.data_fz]; rfl
theorem Zlr (p : List Int) : (OT.nd ((p.map PyData.int).map OT.fz)).data = Zg p := by
  rw [OT.data_nd, OT.map_fz]; rfl
theorem Zcr (vs : List Int) : (OT.nd (vs.map fun v => OT.fz (.int v))).data = Zg vs := by rw [OT.data_nd, Zn0]; rfl
theorem Zhe (c : Int) (m : Nat) (hm : m ≤ 1000) : ∃ vs : List Int, Told Yw [.int c, .int m] (Zg vs) ∧ vs.length = m := by
  have key : ∃ d, Told Yw [.int c, .int m] d ∧ ∃ vs, d = Zg vs ∧ vs.length = m :=
    Zif rfl <| Wo Zji <| Wo (Zn Za) <| Zgn (ds := Zb3 0 m) (fun i δ => ∃ (vs : List Int) (x : Int) (z1 z2 : Option OT), δ = [some (.fz (.int c)), some (.fz (.int m)), some (.nd (vs.map fun v => .fz (.int v))), some (.fz (.int x)), z1, z2] ∧ vs.length = i)
      (Zdx (Zc Za Zj) (by omega)) ⟨[], c, none, none, rfl, rfl⟩ (fun i d δ hd q91 => by
        obtain ⟨vs, x, z1, z2, e, hl⟩ := q91
        subst e
        obtain ⟨hi, rfl⟩ := W6 hd
        obtain ⟨v, ev⟩ := Zc6 c (0 + (i : Int))
        by_cases q : 1000000000000000000 ≤ c
        · exact ⟨_, _, rfl, .inl (Yb (Zn (Zq (Zc Za (Zc Za Zj)) ev)) <| Yb (W9 (Za6 (Zys Za (Zy Z0 Z0 Z7e) (decide_eq_true q))) (Zn (Wb Za Z0 (by decide)))) <|
            Yb (Zn (Jh Za Z0)) (Zij (vs := vs) Za rfl (by omega))), _, _, _, _, rfl, by rw [List.length_append, hl]; rfl⟩
        · exact ⟨_, _, rfl, .inl (Yb (Zn (Zq (Zc Za (Zc Za Zj)) ev)) <| Yb (Z3 (Za6 (Zys Za (Zy Z0 Z0 Z7e) (decide_eq_false q))) rfl) <|
            Yb (Zn (Jh Za Z0)) (Zij (vs := vs) Za rfl (by omega))), _, _, _, _, rfl, by rw [List.length_append, hl]; rfl⟩)
      fun δ' q92 => by
        obtain ⟨vs, x, z1, z2, e, hl⟩ := q92
        subst e
        rw [Wx] at hl
        exact Zz8 rfl ⟨vs, Zcr vs, hl⟩
  obtain ⟨d, h, vs, rfl, hl⟩ := key
  exact ⟨vs, h, hl⟩
end My
namespace L2
open PySem PySem.Spec PyProof.Rows
variable {G : PySem.W.Frag}
section
variable {X : Cx} {io : List Nat} {p c : Bool} {e a b : Expr} {es : List Expr} {m mj : MEt} {pos apos cpos px sp kp : Pos} {i : Nat} {x : Str} {fa fb : FE} {st : Stmt}
end
end L2
namespace L2
open PySem PySem.Spec PyProof.Rows
variable {G : PySem.W.Frag}
section
variable {X : Cx} {io : List Nat} {p c p' c' : Bool} {a b e : Expr} {ma mb m : MEt} {pos pp : Pos} {x : Str}
end
end L2
namespace L2
open PySem PySem.Spec PyProof.Rows
variable {G : PySem.W.Frag}
section
variable {X : Cx} {K : PySem.W.Frag}
end
section
variable {X : Cx} {io : List Nat} {p c p' c' : Bool} {o e : Expr} {es : List Expr} {mo : MEt} {mr : MAt} {apos cpos : Pos} {r : V → List V → Hp → VK → Prop} {name : Str} {id : String}
variable {fo : FE} {ra : FA}
end
end L2
namespace L2
open PySem PySem.Spec PyProof.Rows
variable {G : PySem.W.Frag}
section
variable {X : Cx} {io : List Nat} {p c : Bool} {e tg : Expr} {m : MEt}
end
end L2
namespace L2
open PySem PySem.Spec PyProof.Rows
variable {G : PySem.W.Frag}
section
variable {X : Cx}
end
end L2
namespace L2
open PySem PySem.Spec PyProof.Rows
end L2
namespace L2
open PySem PySem.Spec PyProof.Rows
variable {G : PySem.W.Frag}
section
variable {X : Cx} {io : List Nat} {p c : Bool} {a e : Expr} {ma : MEt} {pos p2 : Pos}
end
end L2
namespace L2
open PySem PySem.Spec PyProof.Rows
variable {G : PySem.W.Frag}
noncomputable def Sg (z : Str) (t : Tok) (it : Addr) (i : Nat) (h : Heap) : Prop := h.IsStrIter it "str_ascii_iterator" z t i ∨ h.IsStrIter it "str_iterator" z t i
section
variable {P : Program} {w : World} {A : Around} {E : Value → Shared → Prop} {s : Shared}
structure Ap (z TI TO i1 i2 : Addr) : Prop where
  a1 : TI ≠ z
  a2 : TO ≠ z
  a3 : i1 ≠ z
  a4 : i2 ≠ z
  a5 : i1 ≠ TO
  a6 : i2 ≠ TO
  a7 : i1 ≠ i2
  a8 : TI ≠ TO
  a9 : TI ≠ i1
  a10 : TI ≠ i2
noncomputable abbrev yT1 (h : Heap) (x : Str) (t : Tok) : Heap := h.push { cls := .type (strIterType x), data := .fields #[.str x t, .int 0 0] }
noncomputable abbrev yT2 (h : Heap) (x y : Str) (t u : Tok) : Heap := yT1 (yT1 h x t) y u
noncomputable abbrev yT3 (h : Heap) (x y : Str) (t u : Tok) : Heap := (yT2 h x y t u).push { cls := .type "tuple", data := .seq #[.ref h.objs.size, .ref (yT1 h x t).objs.size] }
noncomputable abbrev yT4 (h : Heap) (x y : Str) (t u : Tok) : Heap := (yT3 h x y t u).push { cls := .type "tuple", data := .seq #[.none, .none] }
noncomputable abbrev yT5 (h : Heap) (x y : Str) (t u : Tok) : Heap := (yT4 h x y t u).push { cls := .type "zip", data := .fields #[.none, .bool false, .bool false, .ref (yT2 h x y t u).objs.size, .ref (yT3 h x y t u).objs.size] }
theorem Sg.at {h : Heap} {x : Str} {t : Tok} {it : Addr} (e : h.get? it = some { cls := .type (strIterType x), data := .fields #[.str x t, .int 0 0] }) : Sg x t it 0 h := by
  unfold strIterType at e
  split at e
  · exact .inl ⟨_, e, rfl, rfl⟩
  · exact .inr ⟨_, e, rfl, rfl⟩
end
section
variable {X : Cx} {io : List Nat} {p c : Bool} {a b : Expr} {mr : MAt} {ra : FA}
end
end L2
namespace L2
open PySem PySem.Spec PyProof.Rows
variable {G : PySem.W.Frag}
section
variable {prog : Program} {w : World} {A : Around} {R : Result → Shared → Prop} {I : Addr} {fp wr : List Addr} {n : Nat} {Pv : Nat → Value → Prop} {St : Nat → Heap → Prop}
end
section
variable {prog : Program} {w : World} {A : Around} {E : Value → Shared → Prop} {s : Shared}
end
section
variable {X : Cx} {p c : Bool} {io : List Nat} {a e : Expr} {pos pos' pl pr : Pos} {t : TA} {mr : MAt} {ra : FA}
end
end L2
namespace L2
open PySem PySem.Spec PyProof.Rows
section
variable {X : Cx} {io : List Nat} {tg iter test : Expr} {rs : List Stmt} {mi : MIt} {g : MGt} {mt : MTt} {ur : MSt} {pos pi : Pos} {st : Stmt} {it : FI} {gg : FG} {t : FT} {r : FS}
end
section
variable {X : Cx} {io : List Nat} {e : Expr} {m : MEt} {fa : FE} {i : Nat} {pos pt : Pos} {st : Stmt}
end
section
variable {X : Cx} {io : List Nat} {x : Str} {pos : Pos}
end
end L2
namespace L2
end L2
namespace L2
open PySem PySem.Spec PyProof.Rows
variable {G : PySem.W.Frag}
section
variable {X : Cx}
end
end L2
namespace L2
open PySem PySem.Spec PyProof.Rows PySem.W PySem.SeqAt
open AutoSeq1 (wpAny_loadPart')
open MeetsSeq MeetsSeq2 MeetsSeq3 SeqRoads2
end L2
namespace L2
open PySem PySem.Spec PyProof.Rows
variable {G : PySem.W.Frag}
section
variable {X : Cx}
end
end L2
namespace L2
open PySem PySem.Spec PyProof.Rows
variable {G : PySem.W.Frag}
section
variable {X : Cx}
end
end L2
namespace L2
open PySem PySem.Spec PyProof.Rows
variable {G : PySem.W.Frag}
section
variable {X : Cx} {io : List Nat} {c : Bool} {e : Expr} {m mb : MEt}
end
section
variable {X : Cx} {io : List Nat} {p c : Bool} {e : Expr} {fa fb : FE}
end
end L2
namespace L2
open PySem PySem.Spec PyProof.Rows
variable {G : PySem.W.Frag}
noncomputable def Zw6 (m : MEt) : MEt := fun δ K => m δ fun r δ1 => match r with | .nd ts => K (.nd ((OT.datas ts).map OT.fz)) δ1 | _ => False
section
variable {X : Cx} {io : List Nat} {p c : Bool} {e b : Expr} {m mb : MEt} {i : Nat} {x : Str} {px pp pos : Pos}
theorem Z25 {t : TE} (s : SE G io p true t m) : SE G io p true t (Zw6 m) := by
  refine fun C H σ δ fp ex K Q R h kk => s C H σ δ fp ex _ _ R h fun H1 v r δ1 fp1 new r1 h1 => ?_
  split at h1
  case h_2 => exact h1.elim
  rename_i ts
  obtain ⟨rel, stp, own, nd, fresh⟩ := r1
  generalize et : OT.nd ts = o at own
  cases own with
  | nd e1 ow =>
    rename_i a xs ts' bs
    cases et
    have hn := List.nodup_cons.mp nd
    refine kk H1 (.ref a) _ δ1 fp1 [a] ⟨rel.drop fun b z => z.imp id fun z => by rw [List.mem_singleton.mp z]; exact .head _, stp, .nd e1 (Das.owns (ow.das (fun b l q hc => ?_) fun b hb hc => ?_)), List.nodup_cons.mpr ⟨(fun z => nomatch z), .nil⟩, fun b hb => by rw [List.mem_singleton.mp hb]; exact fresh a (.head _)⟩ h1
    · exact ⟨(l hc).1, fun z => (l hc).2.1 (z.imp id fun z => by rw [List.mem_singleton.mp z]; exact .head _), (l hc).2.2⟩
    · have ok := R.newOk (fresh b (.tail _ hb))
      refine ⟨fun z => ?_, fun z => z.elim ok.2.1 fun z => hn.1 (by rw [← List.mem_singleton.mp z]; exact hb), .inr ok.2.2⟩
      obtain ⟨j, z⟩ := z
      exact rel.dx j b z (.inr (.tail _ hb))
  | _ => cases et
theorem Zla {ci pt pe : Bool} {g : MGt} {mt : MTt} {me : MEt} {mi : MIt} {own : List Str} {caps : List Nat} {N' : List Str} {sc : Scope} {tg elt iter : Expr} {ifs : List Expr} {y : Str} {py spos : Pos} (hN : X.N.Nodup) (hy : X.N[i]? = some y) (hx : Loc X.env.scope y) (S : CompScope X own caps N' sc) (hc : X.calm = true) (nd : caps.Nodup) (hi : MI X io p ci tg iter mi)
    (hg : ∀ C cells s₂ H₂ fp, MG (Yy X N' sc C cells s₂ H₂ fp) (Jm own.length caps) ci tg g) (ht : ∀ C cells s₂ H₂ fp, MIfs (Yy X N' sc C cells s₂ H₂ fp) (Jm own.length caps) pt ifs mt) (he : ∀ C cells s₂ H₂ fp, ME (Yy X N' sc C cells s₂ H₂ fp) (Jm own.length caps) pe true elt me)
    (hp : (pt && pe) = true := by rfl) (hio : i ∉ io := by decide)
    (hsw : swapsWith (.ListComp elt [⟨tg, iter, ifs, 0⟩] sc pos) (some (.Name y py)) spos.line X.env = pure true := by rfl)
    (hs : ∀ x, foldedSetIterable iter X.env x = pure x := by intro _; rfl) (hf : X.fn y = true ∨ X.env.scope.names.lookup y = some .local := by first | exact .inl rfl | exact .inr rfl | assumption) :
    MS X io (.Assign [.Name y py] (.ListComp elt [⟨tg, iter, ifs, 0⟩] sc pos) spos) (Zkg i (Zw6 (Zeh own.length caps mi g mt me))) := by
  obtain ⟨_, A, si⟩ := hi
  exact ⟨_, Zhg (g := gM X.K (Jm own.length caps) ci g) (tt := ttM X.K (Jm own.length caps) pt mt) (te := tM X.K (Jm own.length caps) pe true me) hN hy hx S hc A (fun C cells s₂ H₂ fp => (hg C cells s₂ H₂ fp).canon) (fun C cells s₂ H₂ fp => (ht C cells s₂ H₂ fp).canon) (fun C cells s₂ H₂ fp => (he C cells s₂ H₂ fp).canon) hsw hs hf, Zve (Z25 (Ztg si nd hp)) hio⟩
noncomputable def Zuu (i : Nat) : MEt := fun δ K => ∃ ts, δ[i]? = some (some (.nd ts)) ∧ Zk6 ts = true ∧ K (.nd ((OT.datas ts).map OT.fz)) δ
theorem Zxv (i : Nat) (hg : Gl X "list") (hm : X.mg "list" = none) (hvb : bootBuiltins "list" = some (.type "list"))
    (hN : X.N[i]? = some x := by rfl) (hv : Vis X.env.scope x := by first | exact Or.inl rfl | exact Or.inr (Or.inl rfl) | exact Or.inr (Or.inr rfl)) (hd : (x == ("__debug__" : Str)) = false := by decide) (hcd : (x == ("__classdict__" : Str)) = false := by decide)
    (he : starEach [.Name x px] X.env = (false, eval (.Name x px) X.env) :: starEach [] X.env := by rfl) (hpl : (backTo pos (starEach [] X.env)).any (·.1) = false := by rfl) : ME X io true true (.Call (.Name "list" pp) [.Name x px] [] pos) (Zuu i) := by
  refine ⟨_, Zdz (Zg6 rfl) hg hm hvb (Zaw (pv i hN hv hd hcd) Zd0 he) (by decide) (by decide) he hpl, fun C H σ δ fp ex K Q R h kk => ?_⟩
  obtain ⟨ts, hi, hz, h⟩ := h
  obtain ⟨a', xs, bs, hv0, hx, ow, hfp⟩ := R.ownNd hi
  refine ⟨_, hv0, a', xs, rfl, .inl (.inl (.inl hx)), fun l hl => ?_⟩
  have s := Z7 hl (.lst xs)
  refine kk _ (.ref l) _ δ fp [l] (RE.tree R R (Stp.refl true H δ fp) s (fun a m => by rw [List.mem_singleton.mp m]; exact hl) (List.nodup_cons.mpr ⟨(fun z => nomatch z), .nil⟩) (.nd Z8 (Das.owns (((ow.fz_das hz).wide (L' := fun a => ((true = true → Lf C fp ex a) ∨ H a = none) ∧ a ∉ [l]) fun a q n => ⟨.inl fun _ => q, fun z => n (by rw [List.mem_singleton.mp z]; exact hl)⟩).same s)))) h
noncomputable def Z5z (i : Nat) (mb : MEt) : MEt := fun δ K => ∃ ts, δ[i]? = some (some (.nd ts)) ∧ Zk6 ts = true ∧ mb δ fun n δ1 => asI n.data fun k => match atI (OT.datas ts) k with | some d => K (.fz d) δ | none => False
theorem Z3n (i : Nat) (hb : ME X io true c b mb) (hs : Zfo b)
    (hN : X.N[i]? = some x := by rfl) (hv : Vis X.env.scope x := by first | exact Or.inl rfl | exact Or.inr (Or.inl rfl) | exact Or.inr (Or.inr rfl)) (hd : (x == ("__debug__" : Str)) = false := by decide) (hcd : (x == ("__classdict__" : Str)) = false := by decide) : ME X io true true (.Subscript (.Name x px) b pos) (Z5z i mb) := by
  obtain ⟨_, B, sb⟩ := hb
  refine ⟨_, Zwx (Zi1 rfl) (pv i hN hv hd hcd) B hs, fun C H σ δ fp ex K Q R h kk => ?_⟩
  obtain ⟨ts, hi, hz, h⟩ := h
  obtain ⟨a', xs, bs, hv0, hx, ow, hfp⟩ := R.ownNd hi
  refine ⟨_, hv0, sb.pureAfter R h fun H2 w n R2 s2 q2 h2 => ?_⟩
  obtain ⟨k, e2, h2⟩ := q2.intInv h2
  subst e2
  split at h2
  case h_2 => exact h2.elim
  rename_i d ed
  have qs := (ow.fz_das hz).same s2
  obtain ⟨v, e3, q⟩ := qs.atI ed
  exact .inl ⟨a', xs, k, v, rfl, rfl, .inl (.inl (s2 _ _ hx)), e3, kk H2 v _ δ fp [] (.fz R2 (.same s2 s2.al) (q.wide fun a l _ _ => l)) h2⟩
end
noncomputable def Zrs (e : FE) : FE := fun δ => (e δ).bind fun p => match p.1 with | .nd ts => some (.nd ((OT.datas ts).map OT.fz), p.2) | _ => none
noncomputable def Zl8 (i : Nat) : FE := fun δ => (Z1c δ[i]?).bind fun ts => some (.nd ((OT.datas ts).map OT.fz), δ)
noncomputable def Z2y (i : Nat) (b : FE) : FE := fun δ => (Z1c δ[i]?).bind fun ts => (b δ).bind fun q => match q.1.data with
  | .int k => (atI (OT.datas ts) k).bind fun d => some (.fz d, δ)
  | _ => none
section
variable {X : Cx} {io : List Nat} {p c : Bool} {e : Expr} {fa fb : FE} {i : Nat}
theorem Ztm {st : Stmt} {n : Nat} {caps : List Nat} {it : FI} {gg : FG} {t : FT} {me : FE} (h : MS X io st (Zkg i (Zw6 (Zeh n caps (o2 it) (oG gg) (o2 t) (o2 me))))) : MS X io st (oS (wE (Zrs (Y7 n caps it gg t me)) (Ja i))) := h.weak fun D δ h => by
  obtain ⟨r, δ', h, k⟩ := Zn4 h
  obtain ⟨⟨x, δ1⟩, h1, h⟩ := bs h
  refine Zmr ⟨x, δ1, h1, ?_⟩
  try dsimp only at h ⊢
  split at h
  case h_2 => cases h
  cases h
  exact k
theorem Zr3 (h : ME X io p c e (Zuu i)) : ME X io p c e (o2 (Zl8 i)) := h.weak fun δ K h => by
  obtain ⟨r, δ', h, k⟩ := h
  obtain ⟨ts, h1, h⟩ := bs h
  obtain ⟨e1, e2⟩ := Zq8 h1
  cases h
  exact ⟨ts, e1, e2, k⟩
theorem Zzp (h : ME X io p c e (Z5z i (o2 fb))) : ME X io p c e (o2 (Z2y i fb)) := h.weak fun δ K h => by
  obtain ⟨r, δ', h, k⟩ := h
  obtain ⟨ts, h1, h⟩ := bs h
  obtain ⟨e1, e2⟩ := Zq8 h1
  obtain ⟨⟨y, δ2⟩, h2, h⟩ := bs h
  refine ⟨ts, e1, e2, y, δ2, h2, ?_⟩
  try dsimp only at h ⊢
  split at h
  case h_2 => cases h
  rename_i n q
  obtain ⟨d, h3, h⟩ := bs h
  cases h
  rw [q]
  show (match atI (OT.datas ts) n with | some d => K (.fz d) δ | none => False)
  rw [h3]
  exact k
end
end L2
namespace L2
open PySem PySem.Spec
section
variable {e a b : FE} {as : FA} {δ : Zh} {Q : PyData → Zh → Prop} {QA : List PyData → Zh → Prop} {T : Bool → Zh → Prop} {t u : FT} {S S' : FS} {N : Zh → Prop} {R : PyData → Zh → Prop} {i : Nat} {d : PyData}
end
end L2
namespace L2
open PySem PySem.Spec PyProof.Rows
variable {G : PySem.W.Frag}
open Classical in
noncomputable def les (H : Hp) (bs : List Addr) : Hp := fun b => if b ∈ bs then none else H b
theorem Zqw {H : Hp} {bs : List Addr} {b : Addr} (h : b ∈ bs) : les H bs b = none := by unfold les; exact if_pos h
theorem Zbs {H : Hp} {bs : List Addr} {b : Addr} (h : b ∉ bs) : les H bs b = H b := by unfold les; exact if_neg h
theorem Ziu {H : Hp} {bs : List Addr} {b : Addr} (h : les H bs b = none) : b ∈ bs ∨ H b = none := by
  by_cases z : b ∈ bs
  · exact .inl z
  · rw [Zbs z] at h; exact .inr h
theorem Zsw {H : Hp} {bs : List Addr} {b : Addr} {o} (h : les H bs b = some o) : b ∉ bs ∧ H b = some o := by
  by_cases z : b ∈ bs
  · rw [Zqw z] at h; cases h
  · rw [Zbs z] at h; exact ⟨z, h⟩
section
variable {X : Cx} {io : List Nat} {p p' p'' c c' : Bool} {e a b : Expr} {m ma mb : MEt} {es rest : List Expr} {mr : MAt} {pos : Pos}
variable {CX : CXT} {k : Nat} {f : Addr} {fd : FuncData} {ps : List Str} {E : XK} {x : Str} {pp : Pos}
theorem Rel.less {C : MC G} {H : Hp} {σ : St} {δ : Zh} {fp : Fp} {ex : Addr → Prop} {new : List Addr} (R : Rel C io H σ δ fp (exu ex new)) (hm : ∀ a ∈ new, ∃ xs : MuO, H a = some xs.ho) (h0 : ∀ a ∈ new, C.H₀ a = none) (hx : ∀ a ∈ new, ¬ ex a) :
    Rel C io (les H new) σ δ fp ex := by
  refine ⟨R.len, fun i t e => ?_, R.emp, R.nd, R.dj, fun i a h z => R.dx i a h (.inl z), fun a z w => ?_, fun b o e n => ?_, fun b z => ?_, R.new, R.io⟩
  · obtain ⟨v, e1, o⟩ := R.own i t e
    refine ⟨v, e1, o.frame (fun a xs l q => ?_) (fun a xs q => ?_) fun a m xs q => ?_⟩
    · have na : a ∉ new := fun z => l.2.1 (.inr z)
      refine ⟨⟨l.1, fun z => l.2.1 (.inl z), l.2.2⟩, ?_⟩
      rcases q with q | ⟨u, q⟩
      · exact .inl (by rw [Zbs na]; exact q)
      · exact .inr ⟨u, by rw [Zbs na]; exact q⟩
    · rw [Zbs fun z => by
        obtain ⟨ys, e⟩ := hm a z
        exact ImO.nm q e]
      exact q
    · rw [Zbs fun z => R.dx i a m (.inr z)]
      exact q
  · rcases Ziu w with w | w
    · exact hx a w z
    · exact R.xa a (.inl z) w
  · rw [Zbs fun z => by rw [h0 b z] at e; cases e]
    exact R.fr b o e n
  · rcases Ziu z with z | z
    · exact h0 b z
    · exact R.al b z
end
section
variable {H : Hp} {L : Addr → Prop} {vs : List V} {ds : List PyData} {N : List Str}
variable {P : Program} {w : World} {K : PySem.W.Frag} {mg : Str → Option Value} {base : Heap}
end
noncomputable abbrev FJO := OT → OT → Option (OT × OT)
section
variable {X : Cx} {io : List Nat} {p c : Bool} {e : Expr} {i : Nat} {ra : FE}
variable {P : Program} {w : World} {K : PySem.W.Frag} {mg : Str → Option Value} {base : Heap} {x qual : Str} {st : Stmt} {f : Addr} {fd : FuncData} {N ps : List Str} {n np nn : Nat} {S : FS}
end
end L2
namespace L2
open PySem PySem.Spec PyProof.Rows
variable {G : PySem.W.Frag}
noncomputable def spM (G : PySem.W.Frag) (S : List OT → (OT → Prop) → Prop) : Sp := fun vs H Q _ => ∃ L ts as k, Owns G H L vs ts as ∧ as.Nodup ∧ (∀ a ∈ as, ¬ L a) ∧ S ts k ∧
  ∀ r v H' new, k r → Same (les H as) H' → Own G H' (fun a => (L a ∨ les H as a = none) ∧ a ∉ new) v r new → new.Nodup → (∀ a ∈ new, les H as a = none) → Q v H'
section
variable {X : Cx} {io : List Nat} {p c : Bool} {e : Expr} {es : List Expr} {mr : MAt} {pos : Pos}
variable {CX : CXT} {k : Nat} {f : Addr} {fd : FuncData} {ps : List Str} {E : XK} {x : Str} {pp : Pos}
noncomputable def Zoa (S : List OT → (OT → Prop) → Prop) (mr : MAt) : MEt := fun δ K => mr δ fun rs δ1 => S rs fun r => K r δ1
theorem Z1m {S} {t : TA} (sa : SA G io p true t mr) : SE G io p true (Zv3 (spM G S) [] E t) (Zoa S mr) := by
  intro C H σ δ fp ex K Q R h kk
  refine sa C H σ δ fp ex _ _ R h fun H1 vs rs δ1 fp1 new1 r1 h1 => ?_
  rw [List.append_nil]
  refine ⟨Lf C fp1 (exu ex new1), rs, new1, _, r1.own.wide fun a l _ => l rfl, r1.nd, fun a m l => l.2.1 (.inr m), h1, fun r v H' new kr s o nd hn => ?_⟩
  have Rm : Rel C io (les H1 new1) σ δ1 fp1 ex := r1.rel.less (fun a z => r1.own.some a z) (fun a z => R.al a (r1.fresh a z)) fun a z w => R.xa a w (r1.fresh a z)
  have S1 : Stp p H δ fp (les H1 new1) δ1 fp1 := ⟨fun b o e q => by
      rw [Zbs fun z => by rw [r1.fresh b z] at e; cases e]
      exact r1.stp.keep b o e q, r1.stp.env, r1.stp.grow, fun b z => by
      rcases Ziu z with z | z
      · exact r1.fresh b z
      · exact r1.stp.al b z⟩
  refine kk H' v r δ1 fp1 new (RE.tree R Rm S1 s hn nd (o.wide fun a l _ => ⟨?_, l.2⟩)) kr
  rcases l.1 with l1 | l1
  · exact .inl fun _ => ⟨l1.1, fun z => l1.2.1 (.inl z), l1.2.2⟩
  · exact .inr l1
theorem Zoi {S} (F : FnOk X.prog X.w X.K X.mg X.base CX k f fd ps (spM X.K S)) (hr : Room k X.A) (hg : Gl X x) (hm : X.mg x = some (.ref f)) (hk : PySem.W.keepIn X.K (.ref f) = true) (hb : Binds X.K fd ps []) (hx : Zj3 CX X E)
    (ha : MA X io p true (e :: es) mr) (hdb : (x == ("__debug__" : Str)) = false := by decide) (he : starEach (e :: es) X.env = (false, eval e X.env) :: starEach es X.env := by rfl) (hpl : (backTo pos (starEach es X.env)).any (·.1) = false := by rfl) :
    ME X io p true (.Call (.Name x pp) (e :: es) [] pos) (Zoa S mr) := by
  obtain ⟨_, A, sa⟩ := ha
  exact ⟨_, Zp3 F hr hg hm hk hb .nil hx A hdb he hpl, Z1m sa⟩
end
noncomputable def startM (n : Nat) (ts : List OT) : Zh := ts.map some ++ List.replicate (n - ts.length) none
section
variable {H : Hp} {L : Addr → Prop} {vs : List V} {N : List Str}
theorem Zt0 {ts : List OT} {as : List Addr} (h : Owns G H L vs ts as) : ∃ fp : Fp, (∀ i t, ts[i]? = some t → ∃ v, vs[i]? = some v ∧ Own G H L v t (fp i)) ∧ (∀ i, ts[i]? = none → fp i = []) ∧ (∀ i a, a ∈ fp i → a ∈ as) ∧
    (as.Nodup → (∀ i, (fp i).Nodup) ∧ ∀ i j a, a ∈ fp i → a ∈ fp j → i = j) := by
  induction ts generalizing vs as with
  | nil =>
    cases h
    exact ⟨fun _ => [], fun i t e => by simp at e, fun _ _ => rfl, (fun i a m => nomatch m), fun _ => ⟨fun _ => .nil, fun i j a m => nomatch m⟩⟩
  | cons t ts ih =>
    cases h with
    | cons o r =>
      rename_i y ys bs cs
      obtain ⟨fp, h1, h2, h3, h4⟩ := ih r
      refine ⟨fun i => Nat.casesOn i bs fp, fun i u e => ?_, fun i e => ?_, fun i a m => ?_, fun nd => ?_⟩
      · cases i with
        | zero => cases e; exact ⟨_, rfl, o⟩
        | succ i => exact h1 i u e
      · cases i with
        | zero => cases e
        | succ i => exact h2 i e
      · cases i with
        | zero => exact List.mem_append_left _ m
        | succ i => exact List.mem_append_right _ (h3 i a m)
      · obtain ⟨n1, n2, n3⟩ := List.nodup_append.mp nd
        obtain ⟨h5, h6⟩ := h4 n2
        refine ⟨fun i => ?_, fun i j a m m' => ?_⟩
        · cases i with
          | zero => exact n1
          | succ i => exact h5 i
        · cases i with
          | zero => cases j with
            | zero => rfl
            | succ j => exact (n3 a m a (h3 j a m') rfl).elim
          | succ i => cases j with
            | zero => exact (n3 a m' a (h3 i a m) rfl).elim
            | succ j => exact congrArg _ (h6 i j a m m')
theorem Zol {ts : List OT} {i n : Nat} {t : OT} (h : (ts.map some ++ List.replicate n none : Zh)[i]? = some (some t)) : ts[i]? = some t := by
  rw [List.getElem?_append] at h
  split at h
  · rw [List.getElem?_map] at h
    cases e : ts[i]? with
    | none => rw [e] at h; cases h
    | some d => rw [e] at h; cases h; rfl
  · rw [List.getElem?_replicate] at h
    split at h <;> cases h
theorem Rel.entryM {ts : List OT} {as : List Addr} {fp : Fp} (o : Owns G H L vs ts as) (hL : ∀ a ∈ as, ¬ L a) (h1 : ∀ i t, ts[i]? = some t → ∃ v, vs[i]? = some v ∧ Own G H L v t (fp i)) (h2 : ∀ i, ts[i]? = none → fp i = []) (h3 : ∀ i a, a ∈ fp i → a ∈ as) (h5 : ∀ i, (fp i).Nodup) (h6 : ∀ i j a, a ∈ fp i → a ∈ fp j → i = j) :
    Rel (G := G) ⟨les H as, fun _ => False, L, start N vs⟩ [] H (start N vs) (startM N.length ts) fp (fun _ => False) := by
  refine ⟨?_, fun i t e => ?_, fun i h => ?_, h5, h6, fun i a m z => z, fun a z => z.elim, fun b o e _ => (Zsw e).2, fun b e => ?_, fun i a m => .inr (Zqw (h3 i a m)), fun i m => nomatch m⟩
  · unfold L2.start L2.startM
    simp [o.length]
  · obtain ⟨v, e1, q⟩ := h1 i t (Zol e)
    refine ⟨v, ?_, q.wide fun a l _ => ⟨fun z => ?_, fun z => z, .inl l⟩⟩
    · unfold L2.start
      rw [List.getElem?_append_left (by rw [List.length_map]; exact (List.getElem?_eq_some_iff.mp e1).1), List.getElem?_map, e1]; rfl
    · obtain ⟨j, z⟩ := z
      exact hL a (h3 j a z) l
  · cases q : ts[i]? with
    | none => exact h2 i q
    | some t =>
      refine absurd ?_ (h t)
      unfold L2.startM
      rw [List.getElem?_append_left (by rw [List.length_map]; exact (List.getElem?_eq_some_iff.mp q).1), List.getElem?_map, q]; rfl
  · show les H as b = none
    by_cases z : b ∈ as
    · exact Zqw z
    · rw [Zbs z]; exact e
variable {P : Program} {w : World} {K : PySem.W.Frag} {mg : Str → Option Value} {base : Heap}
theorem Fun.okM {x qual : Str} {st : Stmt} {f : Addr} {fd : FuncData} {N ps : List Str} {n : Nat} {S : List OT → (OT → Prop) → Prop} (F : Fun K x qual st f fd) (Sc : Zv N ps (Zk st)) (len : ∀ ts k, S ts k → ts.length = ps.length)
    (hbody : ∀ (cdv : Value) (A : Around) (outer : List Env) (s : Shared) (H : Hp) (E : XK), Room n (A.deeper (envOfC qual (Zk st) s.heap.objs.size f cdv)) →
      ∃ m, MSs (Zrl CX0 P w K mg base N qual (Zk st) f cdv A outer s H E).nox [] (J8 st) m ∧ ∀ ts k, S ts k → m (Zqa k) (startM N.length ts)) : FnOk P w K mg base CX0 (n + 1) f fd ps (spM K S) := by
  refine F.ok Sc (fun vs H Q E h => ?_) (fun cdv A outer s H vs Q E hr h => ?_)
  · obtain ⟨L, ts, as, k, o, _, _, h2, _⟩ := h
    rw [o.length]
    exact len ts k h2
  · obtain ⟨L, ts, as, k, o, nd, hL, h2, h3⟩ := h
    obtain ⟨m, ⟨t, A1, s1⟩, q⟩ := hbody cdv A outer s H E hr
    obtain ⟨fp, g1, g2, g3, g4⟩ := Zt0 o
    refine ⟨t, A1, s1 ⟨les H as, fun _ => False, L, start N vs⟩ H _ _ _ _ (Zqa k) _ (Rel.entryM o hL g1 g2 g3 (g4 nd).1 (g4 nd).2) (q ts k h2) ⟨fun H' σ' δ' fp' R _ hk => ?_, fun _ _ _ _ _ _ z => z.elim, fun _ _ _ _ _ _ z => z.elim, fun H' σ' v r δ' fp' new R o nd hn hk => ?_⟩⟩
    · exact h3 _ .non H' [] hk (fun b o e => R.fr b o e id) (.fz .non) .nil fun a m => nomatch m
    · refine h3 r v H' new hk (fun b o e => R.fr b o e id) (o.wide fun a l _ => ⟨l.2.2, fun z => l.2.1 (.inr z)⟩) nd hn
end
noncomputable abbrev FM := List OT → RF
noncomputable def sM (F : FM) : List OT → (OT → Prop) → Prop := fun ts k => ∃ r, F ts = .ok r ∧ k r
noncomputable def Zu4 (np n : Nat) (S : FS) : FM := fun ts => if ts.length = np then (S (startM n ts)).told else .bad
noncomputable def Zgj (F : FM) (a : FA) : FE := fun δ => (a δ).bind fun p => match F p.1 with | .ok r => some (r, p.2) | _ => none
section
variable {X : Cx} {io : List Nat} {p c : Bool} {e : Expr} {ra : FA}
theorem Zlz {F : FM} (h : ME X io p c e (Zoa (sM F) (o2 ra))) : ME X io p c e (o2 (Zgj F ra)) := h.weak fun δ K h => by
  obtain ⟨r, δ', h, k⟩ := h
  obtain ⟨⟨x, δ1⟩, h1, h⟩ := bs h
  refine ⟨x, δ1, h1, ?_⟩
  dsimp only at h
  split at h
  · rename_i q; cases h; exact ⟨_, q, k⟩
  · cases h
variable {P : Program} {w : World} {K : PySem.W.Frag} {mg : Str → Option Value} {base : Heap} {x qual : Str} {st : Stmt} {f : Addr} {fd : FuncData} {N ps : List Str} {n np nn : Nat} {S : FS}
theorem Zyh (F : Fun K x qual st f fd) (Sc : Zv N ps (Zk st)) (hN : N.length = nn) (hp : np = ps.length)
    (hb : ∀ (cdv : Value) (A : Around) (outer : List Env) (s : Shared) (H : Hp) (E : XK), Room n (A.deeper (envOfC qual (Zk st) s.heap.objs.size f cdv)) → MSs (Zrl CX0 P w K mg base N qual (Zk st) f cdv A outer s H E).nox [] (J8 st) (oS S)) :
    FnOk P w K mg base CX0 (n + 1) f fd ps (spM K (sM (Zu4 np nn S))) := by
  subst hN hp
  refine F.okM Sc (fun ds k h => ?_) fun cdv A outer s H E hr => ⟨_, hb cdv A outer s H E hr, fun ds k h => ?_⟩
  · obtain ⟨r, h, _⟩ := h
    unfold Zu4 at h
    split at h
    · assumption
    · cases h
  · obtain ⟨r, h, hk⟩ := h
    unfold Zu4 at h
    split at h
    · exact RS.told_fits h hk
    · cases h
theorem Zsl {CX : CXT} {k : Nat} {S : List OT → (OT → Prop) → Prop} (h : ∀ ds k, ¬ S ds k) : FnOk P w K mg base CX k f fd ps (spM K S) := by
  have h' : ∀ {vs H Q E}, spM K S vs H Q E → False := fun q => by
    obtain ⟨_, ds, _, k, _, _, _, z, _⟩ := q
    exact h ds k z
  exact ⟨fun vs H Q E q => (h' q).elim, fun A outer s H args us vs Q E _ _ _ _ q => (h' q).elim⟩
end
end L2
namespace L2
open PySem PySem.Spec PyProof.Rows
noncomputable def MR (X : Cx) (io : List Nat) (e : Expr) (m : MSt) : Prop := ∃ t, PE X e t ∧ SS X.K io (Z53 t) m
section
variable {X : Cx} {io : List Nat} {p c : Bool} {e a b : Expr} {m : MEt} {pos : Pos} {mt : MTt} {u w : MSt} {fu fw : FS} {ta : FT} {i : Nat} {st : Stmt}
theorem Z1n (he : ME X io p true e m) : MR X io e (Z2j m) := by
  obtain ⟨_, A, s⟩ := he
  exact ⟨_, A, fun C H σ δ fp ex D D' R h E => s C H σ δ fp ex _ _ R h fun H' v r δ' fp' new r1 h1 => E.rt H' σ v r δ' fp' new r1.rel (r1.own.wide fun a l _ => l rfl) r1.nd (fun a m => (R.newOk (r1.fresh a m)).2.2) h1⟩
theorem Z83 (i : Nat) {x : Str} {px : Pos} (hio : i ∉ io := by decide) (hN : X.N[i]? = some x := by rfl) (hv : Vis X.env.scope x := by first | exact Or.inl rfl | exact Or.inr (Or.inl rfl) | exact Or.inr (Or.inr rfl)) (hd : (x == ("__debug__" : Str)) = false := by decide)
    (hcd : (x == ("__classdict__" : Str)) = false := by decide) : MR X io (.Name x px) (Zku i) := by
  refine ⟨_, pv i hN hv hd hcd, fun C H σ δ fp ex D D' R h E => ?_⟩
  unfold Zku at h
  split at h
  case h_2 => exact h.elim
  rename_i t hi
  obtain ⟨v, e, o⟩ := R.own i t hi
  have lw : ∀ a, Lf C fp ex a → H a ≠ none → Lf C (fpu fp i []) (exu ex (fp i)) a := fun a l _ => ⟨fun z => by
    rcases z.of_u with z | ⟨j, _, z⟩
    · exact nomatch z
    · exact l.1 ⟨j, z⟩, fun z => z.elim l.2.1 fun z => l.1 ⟨i, z⟩, l.2.2⟩
  have hn : ∀ a ∈ fp i, C.H₀ a = none := fun a m => by
    rcases R.new i a m with z | z
    · exact absurd z.1 hio
    · exact z
  exact ⟨v, e, E.rt H σ v t _ _ (fp i) (R.take hi) (o.wide lw) (R.nd i) hn h⟩
theorem Z41 {t : Expr} (ht : MT X io p t mt) (ha : MR X io a u) (hb : MR X io b w) : MR X io (.IfExp t a b pos) (Z2t mt u w) := by
  obtain ⟨_, T, s⟩ := ht
  obtain ⟨_, A, sa⟩ := ha
  obtain ⟨_, B, sb⟩ := hb
  exact ⟨_, Zs9 T A B, fun C H σ δ fp ex D D' R h E => s C H σ δ fp ex _ _ R h fun H' b δ' fp' R' S h' => by
    cases b with
    | true =>
      rw [if_pos rfl] at h' ⊢
      exact sa C H' σ δ' fp' ex D D' R' h' (E.shift S.kp)
    | false =>
      rw [if_neg Bool.false_ne_true] at h' ⊢
      exact sb C H' σ δ' fp' ex D D' R' h' (E.shift S.kp)⟩
theorem MR.ms (h : MR X io e u) : MS X io (.Return (some e) pos) u := by
  obtain ⟨_, A, s⟩ := h
  exact ⟨_, Zp9 A, s⟩
theorem MR.weak {u' : MSt} (h : MR X io e u) (w : ∀ D δ, u' D δ → u D δ) : MR X io e u' := by
  obtain ⟨t, A, s⟩ := h
  exact ⟨t, A, fun C H σ δ fp ex D D' R h E => s C H σ δ fp ex D D' R (w D δ h) E⟩
theorem Z9b (h : MR X io e (Zku i)) : MR X io e (oS (J9 i)) := h.weak fun D δ h => by
  unfold oS J9 at h; unfold Zku
  split at h
  · rename_i q; (try rw [q]); exact h
  · exact h.elim
theorem Z3i (h : MR X io e (Z2t (o2 ta) (oS fu) (oS fw))) : MR X io e (oS (Ww ta fu fw)) := h.weak fun D δ h => by
  unfold oS Ww at h
  split at h
  · rename_i b δ' q
    refine ⟨b, δ', q, ?_⟩
    split at h
    · rename_i hb; rw [if_pos hb]; exact h
    · rename_i hb; rw [if_neg hb]; exact h
  · exact h.elim
theorem Zzm {ea : FE} (h : MR X io e (Z2j (o2 ea))) : MR X io e (oS (wE ea Jj)) := h.weak fun D δ h => Zn4 h
end
end L2
namespace My
open PySem L2 PySem.Spec
noncomputable def Wu (R : FD) : FS :=
  (Zu (Ww (tD (Zli "int" (Zd 1)))
    (wE (Zty (Zli "int" (Zd 0)) (Zty (fUn Z2m (Zli "bool" (Zd 0))) (Zf gEq (Zd 0) (Zd 1)))) Jj)
    fNx)
    (Zu (Ww (tD (Zli "str" (Zd 1)))
    (wE (Zty (Zli "str" (Zd 0)) (Zf gEq (Zd 0) (Zd 1))) Jj)
    fNx)
    (Zu (Ww (tO (tV (Zf gNe (Zli "tuple" (Zd 1)) (Zli "tuple" (Zd 0)))) (tV (Zf gNe (Zli "list" (Zd 1)) (Zli "list" (Zd 0)))))
    (wE (fC (.bool false)) Jj)
    fNx)
    (Zu (Ww (tV (Zf gNe (Zau Zam (Zb (Zd 0) Zm)) (Zau Zam (Zb (Zd 1) Zm))))
    (wE (fC (.bool false)) Jj)
    fNx)
    (Zu (Za2 (Zeg (Zb (Zd 0) (Zb (Zd 1) Zm))) (gTp 2 (gCn (gNm 2) (gCn (gNm 3) gNl)))
    (Ww (tNo (tD (Zt R (Zb (Zd 2) (Zb (Zd 3) Zm)))))
    (wE (fC (.bool false)) Jj)
    fNx))
    (wE (fC (.bool true)) Jj))))))
noncomputable def Zo : Nat → FD
  | 0 => fun _ => RF.bad
  | k + 1 => J3 2 4 (Wu (Zo k))
noncomputable def Za5 : FS :=
  (wE (Yd gIx (Zbe (Zb (fC (.int 1)) (Zb (fC (.int 2)) (Zb (fC (.int 6)) (Zb (Zf Jp (Zf Zmn (fC (.int 10)) (fC (.int 15))) (fC (.int 37))) Zm))))) (Zf Zal (Zf Jc (Zd 0) (fC (.int 3))) (fC (.int 4)))) Jj)
noncomputable def Wm : FD := J3 1 1 Za5
noncomputable def J5 : FS :=
  (Zu (wE (Zt Yw (Zb (Zd 0) (Zb (Zf Ze2 (fC (.int 2)) (Zd 1)) Zm))) (Yh 2))
    (Zu (wE (Zrs (Y7 1 [] (iRb (Zb (fC (.int 1)) (Zb (Zd 1) Zm))) (gNm 0) Zet (Zbe (Zb (Zd 0) Zm)))) (Ja 3))
    (Zu (wE (Zl8 3) (Ja 4))
    (Zu (Za2 (iRa (Zb (Zf gSb (Zd 1) (fC (.int 2))) Zm)) (gNm 5)
    (Zu (wE (Zsk 3 (Zf Zal (Yd gIx (Zd 2) (Zf Ze2 (fC (.int 2)) (Zd 5))) (Zau Zam (Zb (Jz 3) Zm)))) (Yh 6))
    (Zu (wE (Zsk 3 (Zf Zal (Yd gIx (Zd 2) (Zf Jp (Zf Ze2 (fC (.int 2)) (Zd 5)) (fC (.int 1)))) (Zau Zam (Zb (Jz 3) Zm)))) (Yh 7))
    (Zu (Wl 3 (fBl Zkx (Zb (Yd Ze8 (Zd 6) (Zd 7)) Zm)))
    (Wl 4 (Z2y 3 (fUn Zns (fC (.int 1)))))))))
    (J9 4)))))
noncomputable def Z2 : FD := J3 2 8 J5
noncomputable def Zbv : FS :=
  (Zu (wE (Y7 1 [2] (iRa (Zb (Zd 2) Zm)) (gNm 0) Zet (Zri (fC (.int 0)) (Zd 1))) (Ja 5))
    (Zu (Za2 (iRa (Zb (Zd 2) Zm)) (gNm 6)
    (Za2 (iRa (Zb (Zd 6) Zm)) (gNm 7)
    (Zu (wE (Zf Jp (Zf Jc (Zf Ze2 (Zd 6) (Zf gSb (Zd 6) (fC (.int 1)))) (fC (.int 2))) (Zd 7)) (Yh 8))
    (Zu (wE (Zt Zr (Zb (Zd 4) (Zb (Zf Jp (fC (.int 90)) (Zd 8)) Zm))) (Yh 9))
    (Zu (Ww (tV (Zf gLt (Zf Jp (Zd 1) (Zd 8)) (Zau Zam (Zb (Zd 0) Zm))))
    (wE (Yd gIx (Zd 0) (Zf Jp (Zd 1) (Zd 8))) (Yh 9))
    fNx)
    (Zu (Zgt 5 (Zf Zal (Zd 9) (Zd 3)) (Zd 6) (Zd 7))
    (Zgt 5 (Zf Zal (Zd 9) (Zd 3)) (Zd 7) (Zd 6))))))))
    (J9 5)))
noncomputable def Wr : FD := J3 5 10 Zbv
noncomputable def Zb4 : FS :=
  (Zu (wE (Y7 1 [0] (iRa (Zb (Zd 0) Zm)) (gNm 0) Zet (Zri (fC (.int 0)) (Zd 1))) (Ja 3))
    (Zu (Za2 (Zeg (Zb (Zd 1) (Zb (Zd 2) Zm))) (gTp 2 (gCn (gNm 4) (gCn (gNm 5) gNl)))
    (Za2 (iRa (Zb (Zd 0) Zm)) (gNm 6)
    (Za2 (iRa (Zb (Zd 0) Zm)) (gNm 7)
    (Ww (tV (Zf gNe (Zf (Zm7 false) (Zd 6) (Zd 4)) (Zf (Zm7 false) (Zd 7) (Zd 4))))
    (Zgt 3 (Zf Jp (Yd gIx (Yd gIx (Jz 3) (Zd 6)) (Zd 7)) (Zd 5)) (Zd 6) (Zd 7))
    fNx))))
    (J9 3)))
noncomputable def Yc : FD := J3 3 8 Zb4
noncomputable def Zaq : FS :=
  (Zu (wE (Yd gIx (Zbe (Zb (fC (.int 3)) (Zb (fC (.int 12)) (Zb (Zf Zmn (fC (.int 10)) (fC (.int 20))) Zm)))) (Zf Zal (Zd 3) (fC (.int 3)))) (Yh 4))
    (Zu (wE (Zbe Zm) (Ja 5))
    (Zu (Za2 (iRa (Zb (Zd 2) Zm)) (gNm 6)
    (Zu (wE (Zt Zr (Zb (Zd 3) (Zb (Zf Jp (fC (.int 50)) (Zd 6)) Zm))) (Yh 7))
    (Zu (Ww (tV (Zf gLt (Zf Jp (Zd 1) (Zd 6)) (Zau Zam (Zb (Zd 0) Zm))))
    (wE (Yd gIx (Zd 0) (Zf Jp (Zd 1) (Zd 6))) (Yh 7))
    fNx)
    (Wl 5 (Zf Zal (Zd 7) (Zd 4))))))
    (J9 5))))
noncomputable def Ye : FD := J3 4 8 Zaq
noncomputable def Zbu : FS :=
  (Zu (wE (Zf Zal (Zf Jc (Zd 3) (fC (.int 12))) (fC (.int 5))) (Yh 4))
    (Zu (Ww (tV (Zf gEq (Zd 4) (fC (.int 4))))
    (wE (Zt Wr (Zb (Zd 0) (Zb (Zd 1) (Zb (Zd 2) (Zb (Yd gIx (Zbe (Zb (fC (.int 2)) (Zb (fC (.int 3)) (Zb (fC (.int 5)) (Zb (Zf Zmn (fC (.int 10)) (fC (.int 20))) Zm))))) (Zf Zal (Zf Jc (Zd 3) (fC (.int 60))) (fC (.int 4)))) (Zb (Zd 3) Zm)))))) Jj)
    fNx)
    (Zu (wE (Zt Z2 (Zb (Zf Jc (Zd 3) (fC (.int 60))) (Zb (Zd 2) Zm))) (Yh 5))
    (Zu (wE (Zt Yc (Zb (Zd 2) (Zb (Zd 5) (Zb (Zt Ye (Zb (Zd 0) (Zb (Zd 1) (Zb (Zau Zam (Zb (Zd 5) Zm)) (Zb (Zd 3) Zm))))) Zm)))) (Ja 6))
    (Zu (Ww (tV (Zf gEq (Zd 4) (fC (.int 2))))
    (Zu (wE (Zt Z2 (Zb (Zt Zr (Zb (Zd 3) (Zb (fC (.int 40)) Zm))) (Zb (Zd 2) Zm))) (Yh 5))
    (Zu (wE (Zt Yc (Zb (Zd 2) (Zb (Zd 5) (Zb (Zt Ye (Zb (Zd 0) (Zb (Zf Jp (Zd 1) (fC (.int 9))) (Zb (Zau Zam (Zb (Zd 5) Zm)) (Zb (Zd 3) Zm))))) Zm)))) (Yh 7))
    (Zbh 6 (wE (Y7 2 [] (Zeg (Zb (Zd 6) (Zb (Zd 7) Zm))) (gTp 2 (gCn (gNm 0) (gCn (gNm 1) gNl))) Zet (Y7 2 [] (Zeg (Zb (Zd 0) (Zb (Zd 1) Zm))) (gTp 2 (gCn (gNm 0) (gCn (gNm 1) gNl))) Zet (Zf Jp (Zd 0) (Zd 1)))) (Ja 6)))))
    fNx)
    (Zu (Ww (tO (tV (Zf gEq (Zd 4) (fC (.int 1)))) (tV (Zf gEq (Zd 4) (fC (.int 3)))))
    (Zu (wE (Zf Zal (Zt Zr (Zb (Zd 3) (Zb (fC (.int 41)) Zm))) (Zd 2)) (Yh 8))
    (Zu (wE (Zf Zal (Zt Zr (Zb (Zd 3) (Zb (fC (.int 42)) Zm))) (Zd 2)) (Yh 9))
    (Zu (wE (Yd gIx (Zbe (Zb (fC (.int 1)) (Zb (Zf Ze2 (fC (.int 2)) (Zd 4)) (Zb (Zf Zmn (fC (.int 10)) (fC (.int 21))) Zm)))) (Zf Zal (Zt Zr (Zb (Zd 3) (Zb (fC (.int 43)) Zm))) (fC (.int 3)))) (Yh 10))
    (Ww (tV (Zf gNe (Zd 8) (Zd 9)))
    (Zu (Zgt 6 (Zau Z0b (Zb (fC (.int 0)) (Zb (Zf Jp (Yd gIx (Yd gIx (Jz 6) (Zd 8)) (Zd 9)) (Zf Ze2 (Zf gSb (fC (.int 2)) (Zd 4)) (Zd 10))) Zm))) (Zd 8) (Zd 9))
    (Zgt 6 (Zpv (Yd gIx (Yd gIx (Jz 6) (Zd 8)) (Zd 9))) (Zd 9) (Zd 8)))
    fNx))))
    fNx)
    (J9 6)))))))
noncomputable def Jt : FD := J3 4 11 Zbu
noncomputable def J0 : FS :=
  (Zu (wE (Zbe (Zb (Zbe (Zb (fC (.int 0)) Zm)) Zm)) (Yh 1))
    (Zu (Za2 (iRa (Zb (Zf gSb (Zd 0) (fC (.int 1))) Zm)) (gNm 2)
    (Zu (wE (Zbe Zm) (Ja 3))
    (Zu (Za2 (Zfi (Zd 1)) (gNm 4)
    (Zb9 3 (Y7 1 [4] (iRb (Zb (fC (.int 1)) (Zb (Zd 0) Zm))) (gNm 0) (tV (Zf (Zm7 true) (Zd 0) (Zd 1))) (Yd Ze8 (Zd 1) (Zbe (Zb (Zd 0) Zm))))))
    (Zbh 3 (wE (Zd 3) (Yh 1))))))
    (wE (Y7 1 [] (Zfi (Zd 1)) (gNm 0) (tV (Zf gLt (Yd gIx (Zd 0) (fC (.int 1))) (Yd gIx (Zd 0) (fUn Zns (fC (.int 1)))))) (Zd 0)) Jj)))
noncomputable def Yz : FD := J3 1 5 J0
noncomputable def Zb5 : FS :=
  (Zu (wE (Zbe Zm) (Ja 1))
    (Zu (Za2 (iRa (Zb (Zd 0) Zm)) (gNm 2)
    (Zb9 1 (Y7 1 [2] (iRb (Zb (Zf Jp (Zd 2) (fC (.int 1))) (Zb (Zd 0) Zm))) (gNm 0) Zet (Zn6 (Zb (Zd 1) (Zb (Zd 0) Zm))))))
    (J9 1)))
noncomputable def Wh : FD := J3 1 3 Zb5
noncomputable def Zby : FS :=
  (Zu (wE (Yd gIx (Zd 1) (Zd 2)) (Yh 4))
    (Zu (wE (Yd gIx (Zd 1) (Zf Jp (Zd 2) (fC (.int 1)))) (Yh 5))
    (Zu (wE (Yd gIx (Zd 1) (Zd 3)) (Yh 6))
    (Zu (wE (Yd gIx (Yd Ze8 (Zd 1) (Zd 1)) (Zf Jp (Zd 3) (fC (.int 1)))) (Yh 7))
    (Zu (wE (Zf Jp (Yd gIx (Yd gIx (Zd 0) (Zd 4)) (Zd 6)) (Yd gIx (Yd gIx (Zd 0) (Zd 5)) (Zd 7))) (Yh 8))
    (wE (Zf gSb (Zf gSb (Zd 8) (Yd gIx (Yd gIx (Zd 0) (Zd 4)) (Zd 7))) (Yd gIx (Yd gIx (Zd 0) (Zd 5)) (Zd 6))) Jj))))))
noncomputable def Yj : FD := J3 4 9 Zby
noncomputable def Zb1 : FS :=
  (Zu (wE (Zau Zam (Zb (Zd 0) Zm)) (Yh 1))
    (Zu (wE (Zt Wh (Zb (Zd 1) Zm)) (Yh 2))
    (Zu (Za2 (Zfi (Zt Yz (Zb (Zd 1) Zm))) (gNm 3)
    (Zu (wE (fC (.bool true)) (Yh 4))
    (Zu (Za2 (Zfi (Zd 2)) (gTp 2 (gCn (gNm 5) (gCn (gNm 6) gNl)))
    (Ww (tAn (tD (Zd 4)) (tV (Zf gLt (Zt Yj (Zb (Zd 0) (Zb (Zd 3) (Zb (Zd 5) (Zb (Zd 6) Zm))))) (fC (.int 0)))))
    (wE (fC (.bool false)) (Yh 4))
    fNx))
    (Ww (tD (Zd 4))
    (wE (Zd 3) Jj)
    fNx))))
    (wE (fC .none) Jj))))
noncomputable def Jq : FD := J3 1 7 Zb1
noncomputable def Jx : FS :=
  (Zu (wE (Zk4 (Zd 0) (fC (.int 0))) (Yh 1))
    (Zu (wE (Yd Ze8 (fSl (Zd 0) (oI (Zd 1)) oN) (fSl (Zd 0) oN (oI (Zd 1)))) (Yh 2))
    (Zu (Ww (tAn (tV (Zf gGt (Zau Zam (Zb (Zd 2) Zm)) (fC (.int 2)))) (tV (Zf gGt (Yd gIx (Zd 2) (fC (.int 1))) (Yd gIx (Zd 2) (fUn Zns (fC (.int 1)))))))
    (wE (Yd Ze8 (fSl (Zd 2) oN (oI (fC (.int 1)))) (Ztj (Zd 2) oN (oI (fC (.int 0))) (oI (fUn Zns (fC (.int 1)))))) (Yh 2))
    fNx)
    (wE (Zd 2) Jj))))
noncomputable def Wn : FD := J3 1 3 Jx
noncomputable def Zb8 : FS :=
  (Zu (wE (Zt Yw (Zb (Zd 0) (Zb (Zd 1) Zm))) (Yh 2))
    (Zu (wE (Zwt (Zb (Zd 1) Zm)) (Ja 3))
    (Zu (wE (Zbe Zm) (Ja 4))
    (Zu (Za2 (iRa (Zb (Zd 1) Zm)) (gNm 5)
    (Wl 4 (Zsk 3 (Zf Zal (Yd gIx (Zd 2) (Zd 5)) (Zau Zam (Zb (Jz 3) Zm))))))
    (Zbh 4 (wE (Zt Wn (Zb (Zd 4) Zm)) Jj))))))
noncomputable def Wk : FD := J3 2 6 Zb8
noncomputable def W4 : FS :=
  (Zu (wE (Yd gIx (Zbe (Zb (fC (.int 3)) (Zb (fC (.int 12)) (Zb (Zf Zmn (fC (.int 10)) (fC (.int 20))) Zm)))) (Zf Zal (Zd 3) (fC (.int 3)))) (Yh 4))
    (Zu (wE (Zbe Zm) (Ja 5))
    (Zu (Za2 (iRa (Zb (Zf Jc (Zf Ze2 (Zd 2) (Zf gSb (Zd 2) (fC (.int 1)))) (fC (.int 2))) Zm)) (gNm 6)
    (Zu (wE (Zt Zr (Zb (Zd 3) (Zb (Zf Jp (fC (.int 50)) (Zd 6)) Zm))) (Yh 7))
    (Zu (Ww (tV (Zf gLt (Zf Jp (Zd 1) (Zd 6)) (Zau Zam (Zb (Zd 0) Zm))))
    (wE (Yd gIx (Zd 0) (Zf Jp (Zd 1) (Zd 6))) (Yh 7))
    fNx)
    (Wl 5 (Zf Zal (Zd 7) (Zd 4))))))
    (J9 5))))
noncomputable def Yk : FD := J3 4 8 W4
noncomputable def Zbx : FS :=
  (wE (Y7 2 [0] (Zfi (Zt Wh (Zb (Zau Zam (Zb (Zd 0) Zm)) Zm))) (gTp 2 (gCn (gNm 0) (gCn (gNm 1) gNl))) Zet (fBl Zkx (Zb (fSl (Zd 2) (oI (Zf Jp (Zd 0) (fC (.int 1)))) (oI (Zf Jp (Zd 1) (fC (.int 1))))) Zm))) Jj)
noncomputable def Ws : FD := J3 1 1 Zbx
noncomputable def Zcv : FS :=
  (Zu (wE (Zau Zyd (Zb (Zd 0) Zm)) (Yh 2))
    (Zu (wE (Zd 1) (Yh 3))
    (Zu (Zha (tV (Zf gNe (Zd 3) (fC (.int 0)))) (Zu (wE (Zf Zal (Zd 2) (Zd 3)) (Yh 4))
    (Zu (wE (Zd 3) (Yh 2))
    (wE (Zd 4) (Yh 3)))))
    (wE (Zn6 (Zb (Zf Jc (Zd 0) (Zd 2)) (Zb (Zf Jc (Zd 1) (Zd 2)) Zm))) Jj))))
noncomputable def Zaz : FD := J3 2 5 Zcv
noncomputable def Zbz : FS :=
  (wE (Y7 1 [1] (Zfi (Zd 0)) (gNm 0) Zet (Y7 1 [1] (Zfi (Zd 0)) (gNm 0) Zet (Zt Zaz (Zb (Zd 0) (Zb (Zd 1) Zm))))) Jj)
noncomputable def Jr : FD := J3 2 2 Zbz
noncomputable def Zah : FS :=
  (Zu (wE (Yd gIx (Zd 1) (Zd 2)) (Yh 4))
    (Zu (wE (Yd gIx (Zd 1) (Zf Jp (Zd 2) (fC (.int 1)))) (Yh 5))
    (Zu (wE (Yd gIx (Zd 1) (Zd 3)) (Yh 6))
    (Zu (wE (Yd gIx (Zd 1) (Zf Zal (Zf Jp (Zd 3) (fC (.int 1))) (Zau Zam (Zb (Zd 0) Zm)))) (Yh 7))
    (wE (Zf gSb (Zf gSb (Zf Jp (Yd gIx (Yd gIx (Zd 0) (Zd 4)) (Zd 6)) (Yd gIx (Yd gIx (Zd 0) (Zd 5)) (Zd 7))) (Yd gIx (Yd gIx (Zd 0) (Zd 4)) (Zd 7))) (Yd gIx (Yd gIx (Zd 0) (Zd 5)) (Zd 6))) Jj)))))
noncomputable def Yo : FD := J3 4 8 Zah
noncomputable def Zcb : FS :=
  (Zu (Za2 (iRa (Zb (Zd 2) Zm)) (gNm 3)
    (Ww (tV (Zf gLt (Zt Yo (Zb (Zd 0) (Zb (Zd 1) (Zb (Zd 3) (Zb (Zd 2) Zm))))) (fC (.int 0))))
    (wE (fC (.bool false)) Jj)
    fNx))
    (wE (fC (.bool true)) Jj))
noncomputable def Z9 : FD := J3 3 4 Zcb
noncomputable def Wf (R : FM) : FS :=
  (Zu (wE (Zau Zam (Zb (Zd 0) Zm)) (Yh 2))
    (Zu (Ww (tV (Zf gEq (Zau Zam (Zb (Jz 1) Zm)) (Zd 2)))
    (Ww (tAn (tV (Zf gLt (Yd gIx (Jz 1) (fC (.int 1))) (Yd gIx (Jz 1) (fUn Zns (fC (.int 1)))))) (tD (Zt Z9 (Zb (Zd 0) (Zb (Jz 1) (Zb (Zf gSb (Zd 2) (fC (.int 1))) Zm)))))) (J9 1) (wE (fC .none) Jj))
    fNx)
    (Zu (Za2 (iRb (Zb (fC (.int 1)) (Zb (Zd 2) Zm))) (gNm 3)
    (Ww (tAn (tV (Zf (Zm7 true) (Zd 3) (Jz 1))) (tD (Zt Z9 (Zb (Zd 0) (Zb (Yd Ze8 (Jz 1) (Zbe (Zb (Zd 3) Zm))) (Zb (Zf gSb (Zau Zam (Zb (Jz 1) Zm)) (fC (.int 1))) Zm))))))
    (Zu (wE (Zgj R (Zb (Zd 0) (Zb (Zhj (Yd Ze8 (Jz 1) (Zbe (Zb (Zd 3) Zm)))) Zm))) (Ja 4))
    (Ww (tV (Zf Zfm (Jz 4) (fC .none)))
    (J9 4)
    fNx))
    fNx))
    (wE (fC .none) Jj))))
noncomputable def Zx : Nat → FM
  | 0 => fun _ => RF.bad
  | k + 1 => Zu4 2 5 (Wf (Zx k))
noncomputable def Za9 : FS :=
  (Zu (Ww (tV (Zf gLt (Zau Zam (Zb (Zd 0) Zm)) (fC (.int 3))))
    (wE (fC .none) Jj)
    fNx)
    (wE (Zgj (Zx 6) (Zb (Z2w (Zt Y5 (Zb (Zt Z5 (Zb (Zd 0) Zm)) (Zb (Zd 0) Zm)))) (Zb (Zbe (Zb (fC (.int 0)) Zm)) Zm))) Jj))
noncomputable def Y4 : FD := J3 1 1 Za9
noncomputable def Zhn : FS :=
  (Zu (wE (Zt W0 (Zb (Zt Z1 (Zb (Zd 0) (Zb (fC (.int 0)) Zm))) (Zb (fC (.int 3)) (Zb (fC (.int 5)) (Zb (fC (.int 6)) Zm))))) (Yh 1))
    (Zu (wE (Zt Z1 (Zb (Zd 0) (Zb (fC (.int 1)) Zm))) (Yh 2))
    (Zu (wE (Zt Jt (Zb (Zd 0) (Zb (fC (.int 3)) (Zb (Zd 1) (Zb (Zd 2) Zm))))) (Yh 3))
    (Zu (Ww (tV (Zf gEq (Zf Zal (Zt Z1 (Zb (Zd 0) (Zb (fC (.int 2)) Zm))) (fC (.int 2))) (fC (.int 1))))
    (Zu (wE (Zt Wk (Zb (Zf Jc (Zt Z1 (Zb (Zd 0) (Zb (fC (.int 2)) Zm))) (fC (.int 2))) (Zb (Zd 1) Zm))) (Yh 4))
    (wE (Zt Yc (Zb (Zd 1) (Zb (Zt Ws (Zb (Zd 4) Zm)) (Zb (Zt Yk (Zb (Zd 0) (Zb (fC (.int 3)) (Zb (Zd 1) (Zb (Zd 2) Zm))))) Zm)))) (Yh 3)))
    fNx)
    (Zu (wE (Zt Jr (Zb (Zd 3) (Zb (Zt Wm (Zb (Zd 2) Zm)) Zm))) (Yh 5))
    (Zu (wE (Zt Jq (Zb (Zd 3) Zm)) (Yh 6))
    (Zu (wE (Y7 1 [] (Zfi (Zd 5)) (gNm 0) Zet (fBl Znw (Zb (Zd 0) Zm))) (Yh 7))
    (Zu (wE (Zt Y4 (Zb (Zd 7) Zm)) (Ja 8))
    (Zu (Ww (tV (Zf gNe (Zd 7) (Zd 5)))
    (wE (fC (.bool false)) Jj)
    fNx)
    (Zu (Ww (tV (Zf gIs (Zd 6) (fC .none)))
    (wE (Zf gIs (Jz 8) (fC .none)) Jj)
    fNx)
    (Zu (Ww (tNo (tD (Zt (Zo 6) (Zb (Jz 8) (Zb (Zd 6) Zm)))))
    (wE (fC (.bool false)) Jj)
    fNx)
    (Zu (Wl 8 (fC (.int 0)))
    (Zu (wE (Y7 1 [1] (iRa (Zb (Zd 1) Zm)) (gNm 0) Zet (Zri (Zn6 (Zb (fC (.int 0)) (Zb (fC (.int 1)) Zm))) (Zd 1))) (Yh 9))
    (wE (Zty (Zt (Zo 6) (Zb (Zt Y4 (Zb (Zd 5) Zm)) (Zb (Zd 6) Zm))) (Zt (Zo 6) (Zb (Zt Y4 (Zb (Zd 9) Zm)) (Zb (Zwt (Zb (Zd 1) Zm)) Zm)))) Jj))))))))))))))
noncomputable def Zev : FD := J3 1 10 Zhn
end My
namespace My
open PySem L2 PySem.Spec
theorem Zhc {p : List Int} (h : p.length < 64) : Zkx [Zg p] = some (.nd (((Zd2 p).map PyData.int).map OT.fz)) := by
  show ((Zln (p.map PyData.int)).bind fun ns => if ns.length < 64 then some (OT.nd (((Zd2 ns).map PyData.int).map OT.fz)) else none) = _
  rw [Zgo, Option.bind_some, if_pos h]
theorem Zd4 {p : List Int} {i : Int} (h0 : 0 ≤ i) (h1 : i < p.length) : gIx (Zg p) (.int i) = some (.fz (.int (p.getD i.toNat 0))) := by
  unfold Zg
  rw [Zph, Znb h0 h1]; rfl
theorem Zix {p : List Int} (h : 0 < p.length) : gIx (Zg p) (.int (-1)) = some (.fz (.int (p.getD (p.length - 1) 0))) := by
  unfold Zg
  rw [Zph]
  have e : p = p.dropLast ++ [p.getLast (by intro z; rw [z] at h; simp at h)] := (List.dropLast_concat_getLast _).symm
  have g : p.getD (p.length - 1) 0 = p.getLast (by intro z; rw [z] at h; simp at h) := by
    rw [List.getLast_eq_getElem, List.getD_eq_getElem?_getD, List.getElem?_eq_getElem (by omega)]; rfl
  rw [g]
  conv => lhs; rw [e, List.map_append]
  rw [List.map_cons, List.map_nil, Zml]; rfl
noncomputable def Jd (n : Int) : List Int := (List.range n.toNat).map fun i : Nat => (i : Int)
theorem Zru (n : Int) : PyData.list (Zb3 0 n.toNat) = Zg (Jd n) := by
  unfold Zg Jd Zb3
  rw [List.map_map]
  refine congrArg _ (List.map_congr_left fun i _ => ?_)
  show PyData.int (0 + (i : Int)) = PyData.int (i : Int)
  rw [Int.zero_add]
noncomputable def Zu6 (n : Nat) (f : Nat → Int) : PyData := .list ((List.range n).map fun j => .int (f j))
noncomputable def Wq (n : Nat) (r : Nat → Nat → Int) : PyData := .list ((List.range n).map fun i => Zu6 n (r i))
theorem Zl6 {α : Type} {n i : Nat} (f : Nat → α) (h : i < n) : atI ((List.range n).map f) (i : Int) = some (f i) := by
  rw [Z01, List.getElem?_map, List.getElem?_range h]; rfl
theorem Zwo {n j : Nat} {f : Nat → Int} (h : j < n) : gIx (Zu6 n f) (.int (j : Int)) = some (.fz (.int (f j))) := by
  unfold Zu6; rw [Zph, Zl6 _ h]; rfl
theorem Zrw {n i : Nat} {r : Nat → Nat → Int} (h : i < n) : gIx (Wq n r) (.int (i : Int)) = some (.fz (Zu6 n (r i))) := by
  unfold Wq; rw [Zph, Zl6 _ h]; rfl
theorem Zds (n : Nat) (r : Nat → Nat → Int) : Zam [Wq n r] = some (.int n) := by
  unfold Wq; rw [Zmu, List.length_map, List.length_range]
theorem Zvn {t b : Int} (hb : b ≠ 0) : ((Rat.divInt t b).den : Int) ∣ b := by
  rw [Rat.den_divInt, if_neg hb]
  have : (b.natAbs / b.gcd t : Nat) ∣ b.natAbs := Nat.div_dvd_of_dvd (by rw [Int.gcd_eq_natAbs_gcd_natAbs]; exact Nat.gcd_dvd_left ..)
  exact Int.ofNat_dvd_left.mpr this
noncomputable def tw (S : Nat → Nat → Int) (x p y q : Nat) : Int := S x y + S p q - S x q - S p y
noncomputable def pn (p : List Int) (i : Nat) : Nat := (p.getD i 0).toNat
noncomputable def InR (n : Nat) (p : List Int) : Prop := p.length = n ∧ ∀ i, i < n → 0 ≤ p.getD i 0 ∧ p.getD i 0 < n
theorem InR.at {n : Nat} {p : List Int} (h : InR n p) {i : Nat} (hi : i < n) : gIx (Zg p) (.int (i : Int)) = some (.fz (.int (pn p i : Nat))) ∧ pn p i < n := by
  obtain ⟨h1, h2⟩ := h
  obtain ⟨a, b⟩ := h2 i hi
  rw [Zd4 (by omega) (by omega), Int.toNat_natCast]
  unfold pn
  rw [Int.toNat_of_nonneg a]
  exact ⟨rfl, by omega⟩
theorem Zsb {b n : Nat} (h : 0 < n) : Zal (.int ((b : Int) + 1)) (.int (n : Int)) = some (.int (((b + 1) % n : Nat) : Int)) := by
  rw [Zt4 (by omega), show ((b : Int) + 1).fmod (n : Int) = (((b + 1) % n : Nat) : Int) by rw [Zd7 (by omega)]; push_cast; rfl]
theorem Ze1 {n x y i j : Nat} {S : Nat → Nat → Int} {δ : Zh} (hx : x < n) (hy : y < n) (h0 : δ[0]? = some (some (.fz (Wq n S)))) (h1 : δ[i]? = some (some (.fz (.int x)))) (h2 : δ[j]? = some (some (.fz (.int y)))) : EvV (Yd gIx (Yd gIx (Zd 0) (Zd i)) (Zd j)) δ (.int (S x y)) := Zaf (Zaf (Za h0) (Za h1) (Zrw hx)) (Za h2) (Zwo hy)
noncomputable def Zew (n : Nat) (R : Nat → Nat → Int) (b : Int) : List (List Rat) := (List.range n).map fun i => (List.range n).map fun j => Rat.divInt (R i j) b
theorem Zw1 (T : List (List Rat)) : Zam [tbD T] = some (.int T.length) := by
  unfold tbD
  rw [Zmu, List.length_map]
theorem Zhr (n : Nat) (R : Nat → Nat → Int) (b : Int) : (Zew n R b).length = n := by unfold Zew; simp
theorem Zzl {n : Nat} {R : Nat → Nat → Int} {b : Int} (hn : n < 64) (hb : 0 < b) (bb : Bt 300 b) (bR : ∀ i j, i < n → j < n → Bt 300 (R i j)) : ∃ (m k : Int) (S : Nat → Nat → Int), Told Z5 [tbD (Zew n R b)] (.int m) ∧ Told Y5 [.int m, tbD (Zew n R b)] (Wq n S) ∧ 0 < m ∧ 0 < k ∧ b = m * k ∧ Bt 300 m ∧ ∀ x y, x < n → y < n → k * S x y = R x y := by
  have hz : ∀ r ∈ Zew n R b, r.length ≤ 1000 := fun r hr => by
    unfold Zew at hr
    obtain ⟨x, _, rfl⟩ := List.mem_map.mp hr
    rw [List.length_map, List.length_range]; omega
  have hB : Zy6 (Zew n R b) b := fun r hr q hq => by
    unfold Zew at hr
    obtain ⟨x, _, rfl⟩ := List.mem_map.mp hr
    obtain ⟨y, _, rfl⟩ := List.mem_map.mp hq
    exact Zvn (by omega)
  have hN : ∀ r ∈ Zew n R b, ∀ q ∈ r, Bt 300 q.num := fun r hr q hq => by
    unfold Zew at hr
    obtain ⟨x, hx, rfl⟩ := List.mem_map.mp hr
    obtain ⟨y, hy, rfl⟩ := List.mem_map.mp hq
    exact Z12 (by omega) (bR x y (List.mem_range.mp hx) (List.mem_range.mp hy))
  obtain ⟨m, e1, m0, hm, k, rfl⟩ := Zgm hb bb (by decide) (Zew n R b) hz hB
  have k0 : 0 < k := by
    by_cases c : 0 < k
    · exact c
    · have := Int.mul_nonpos_of_nonneg_of_nonpos (a := m) (b := k) (by omega) (by omega)
      omega
  have bm : Bt 300 m := Zkc hb ⟨k, rfl⟩ bb
  have e2 := Zi2 m0 bm (Zew n R (m * k)) (by rw [Zhr]; omega) hz hm hN
  have sc : ∀ x y, x < n → y < n → k * scI m (Rat.divInt (R x y) (m * k)) = R x y := fun x y hx hy => by
    have hd : ((Rat.divInt (R x y) (m * k)).den : Int) ∣ m := hm _ (List.mem_map.mpr ⟨x, List.mem_range.mpr hx, rfl⟩) _ (List.mem_map.mpr ⟨y, List.mem_range.mpr hy, rfl⟩)
    have := Zy9 hd
    have e : ((k * scI m (Rat.divInt (R x y) (m * k)) : Int) : Rat) = ((R x y : Int) : Rat) := by
      have nk : ((k : Int) : Rat) ≠ 0 := by
        intro z
        have : k = 0 := by exact_mod_cast z
        omega
      have nm : ((m : Int) : Rat) ≠ 0 := by
        intro z
        have : m = 0 := by exact_mod_cast z
        omega
      rw [Rat.intCast_mul, this, Rat.divInt_eq_div, Rat.intCast_mul]
      rw [Rat.mul_comm, Rat.mul_assoc]
      exact Rat.div_mul_cancel (fun z => (Rat.mul_eq_zero.mp z).elim nm nk)
    exact_mod_cast e
  have er : PyData.list ((Zew n R (m * k)).map fun r => .list (r.map fun q => .int (scI m q))) = Wq n (fun i j => scI m (Rat.divInt (R i j) (m * k))) := by
    unfold Zew Wq
    rw [List.map_map]
    refine congrArg PyData.list (List.map_congr_left fun i _ => ?_)
    show PyData.list _ = Zu6 _ _
    rw [List.map_map]; rfl
  exact ⟨m, k, _, e1, er ▸ e2, m0, k0, rfl, bm, sc⟩
theorem Znx {n : Nat} {t b : Int} (hb : 0 < b) (hB : Bt n b) (hn : n ≤ 9000 := by decide) : Told Zaz [.int t, .int b] (frD (Rat.divInt t b)) := by
  obtain ⟨z', e⟩ := Zhw (f1 := fun x y z => [some (.fz (.int t)), some (.fz (.int b)), some (.fz (.int x)), some (.fz (.int y)), z]) (f2 := fun x y z => []) (t := tV (Zf gNe (Zd 3) (fC (.int 0)))) (u := Zu (wE (Zf Zal (Zd 2) (Zd 3)) (Yh 4)) (Zu (wE (Zd 3) (Yh 2)) (wE (Zd 4) (Yh 3)))) (fun x y z => Za6 (Zq0 Za Z0 rfl)) (fun x y z hy => ⟨_, Yb (Zn (Wb Za Za hy)) (Yb (Zn Za) (Zn Za))⟩) (b.toNat + 1) (t.natAbs : Int) b none (by omega) (by omega) (by omega)
  have eg : (Int.gcd (t.natAbs : Int) b : Int) = shr t b := by
    unfold shr
    rw [if_neg (by omega), Int.gcd_eq_natAbs_gcd_natAbs, Int.gcd_eq_natAbs_gcd_natAbs, Int.natAbs_natCast]
  obtain ⟨e1, e2⟩ := Z5h (t := t) (b := b) (by omega) hB hn _ eg
  exact Yi rfl <| Zw (Zn (Zbw (Zc Za Zj) (Zo0 t))) <| Zw (Zn Za) <| Zw (Zjw _ e (by intro z; cases z)) (Y8 (Zma (Zc (Zy Za Za e1) (Zc (Zy Za Za e2) Zj)) (show 2 ≤ 1000 by decide)))
theorem Z6m : Zmn (.int 10) (.int 20) = some (.int 100000000000000000000) := rfl
theorem Z8v : Zmn (.int 10) (.int 15) = some (.int 1000000000000000) := rfl
theorem btc {n : Nat} {m : Int} (h1 : decide (-(2 ^ n) < m) = true) (h2 : decide (m < 2 ^ n) = true) : Bt n m := Bt.of_lt (of_decide_eq_true h1) (of_decide_eq_true h2)
noncomputable def Zba (r : List Int) : OT := .nd (r.map fun x => .fz (.int x))
noncomputable def Dr (n : Nat) (base : Int) (L : List (List Int)) : Prop := L.length = n ∧ ∀ r ∈ L, r.length = n ∧ ∀ x ∈ r, 0 ≤ x ∧ x < base
theorem Dr.put {n : Nat} {base v : Int} {L : List (List Int)} (h : Dr n base L) (h0 : 0 ≤ v) (h1 : v < base) (a b : Nat) : Dr n base (L.set a ((L.getD a []).set b v)) := by
  refine ⟨by rw [List.length_set]; exact h.1, fun r hr => ?_⟩
  rcases List.mem_or_eq_of_mem_set hr with hr | rfl
  · exact h.2 r hr
  · by_cases c : a < L.length
    · have m : L.getD a [] ∈ L := by rw [List.getD_eq_getElem?_getD, List.getElem?_eq_getElem c]; exact List.getElem_mem c
      obtain ⟨h3, h4⟩ := h.2 _ m
      refine ⟨by rw [List.length_set]; exact h3, fun x hx => ?_⟩
      rcases List.mem_or_eq_of_mem_set hx with hx | rfl
      · exact h4 x hx
      · exact ⟨h0, h1⟩
    · rw [List.set_eq_of_length_le (by omega)] at hr
      exact h.2 _ hr
theorem Zf9 {i : Nat} {e j j2 : FE} {δ : Zh} {d : Int} {L : List (List Int)} {a b : Nat} (he : EvV e δ (.int d)) (hi : δ[i]? = some (some (.nd (L.map Zba)))) (hj : EvV j δ (.int a)) (ha : a < L.length) (hk : EvV j2 δ (.int b)) (hb : b < (L.getD a []).length) :
    Zgt i e j j2 δ = .nx (δ.set i (some (.nd ((L.set a ((L.getD a []).set b d)).map Zba)))) := by
  have e1 : (L.map Zba)[a]? = some (.nd ((L.getD a []).map fun x => .fz (.int x))) := by
    rw [List.getElem?_map, List.getElem?_eq_getElem ha, List.getD_eq_getElem?_getD, List.getElem?_eq_getElem ha]; rfl
  obtain ⟨_, e2, d2⟩ := he
  obtain ⟨_, e3, d3⟩ := hj
  obtain ⟨_, e4, d4⟩ := hk
  unfold Zgt
  rw [Zdr, e2, We, hi]
  dsimp only
  rw [Zdr, e3, We, d3]
  dsimp only
  rw [Zky (by rw [List.length_map]; exact ha)]
  dsimp only
  rw [e1]
  dsimp only
  rw [Zdr, e4, We, d4]
  dsimp only
  rw [Zky (by rw [List.length_map]; exact hb)]
  dsimp only
  rw [d2]
  refine congrArg RS.nx (congrArg (δ.set i) (congrArg some (congrArg OT.nd ?_)))
  rw [List.map_set]
  refine congrArg _ ?_
  show _ = OT.nd _
  rw [List.map_set]
noncomputable def fnL (L : List (List Int)) (i j : Nat) : Int := (L.getD i []).getD j 0
theorem Zfy {L : List (List Int)} {a b : Nat} {v : Int} (ha : a < L.length) (hb : b < (L.getD a []).length) (x y : Nat) : fnL (L.set a ((L.getD a []).set b v)) x y = if x = a ∧ y = b then v else fnL L x y := by
  unfold fnL
  rw [List.getD_eq_getElem?_getD (l := L.set a _), List.getElem?_set]
  by_cases c : a = x
  · subst c
    rw [if_pos rfl, if_pos ha]
    show (((L.getD a []).set b v).getD y 0) = _
    rw [List.getD_eq_getElem?_getD, List.getElem?_set]
    by_cases e : b = y
    · subst e
      rw [if_pos rfl, if_pos hb, if_pos ⟨rfl, rfl⟩]; rfl
    · rw [if_neg e, if_neg fun z => e z.2.symm, ← List.getD_eq_getElem?_getD]
  · rw [if_neg c, if_neg fun z => c z.1.symm, ← List.getD_eq_getElem?_getD]
noncomputable def Sy (n : Nat) (L : List (List Int)) : Prop := ∀ i j, i < n → j < n → fnL L i j = fnL L j i ∧ fnL L i i = 0
theorem Zs7 (ns : List Int) (n : Nat) (hn : n ≤ 10) {base : Int} (hb : 0 < base) (c : Int) : ∃ L, Told Wr [Zg ns, .int 3, .int n, .int base, .int c] (OT.nd (L.map Zba)).data ∧ Dr n base L ∧ Sy n L := by
  have e0 : ∀ {δ : Zh}, δ[2]? = some (some (.fz (.int n))) → blk 1 [2] δ = [none, some (.fz (.int n))] → (Y7 1 [2] (iRa (Zb (Zd 2) Zm)) (gNm 0) Zet (Zri (fC (.int 0)) (Zd 1))) δ = some (.nd ((List.range n).map fun _ => Zba (List.replicate n 0)), δ) := fun h2 hb => Ziw (cs := [some (.fz (.int n))]) (List.range n) (fun i : Nat => PyData.int (0 + (i : Int))) (fun _ => Zba (List.replicate n 0)) (Zdx (Zc (Za h2) Zj) (by omega)) (by rw [List.length_range, sizeLine_eq]; omega) hb fun x _ => by
    unfold Zba
    rw [List.map_replicate]
    exact Zuk (by omega)
  have len : ∀ {L : List (List Int)} (k : Nat), Dr n base L → k < n → (L.getD k []).length = n := fun {L} k h hk => by
    refine (h.2 _ ?_).1
    rw [List.getD_eq_getElem?_getD, List.getElem?_eq_getElem (by rw [h.1]; exact hk)]
    exact List.getElem_mem _
  have key : ∃ d, Told Wr [Zg ns, (.int 3), .int n, .int base, .int c] d ∧ ∃ L, d = (OT.nd (L.map Zba)).data ∧ Dr n base L ∧ Sy n L := by
    refine Zif rfl <| Wo (Za3 (e0 rfl rfl)) <| Zgn (ds := Zb3 0 n) (fun i δ => ∃ (L : List (List Int)) (z1 z2 z3 z4 : Option OT), δ = [some (.fz (Zg ns)), some (.fz (.int 3)), some (.fz (.int n)), some (.fz (.int base)), some (.fz (.int c)), some (.nd (L.map Zba)), z1, z2, z3, z4] ∧ Dr n base L ∧ Sy n L) (Zdx (Zc Za Zj) (by omega)) ⟨(List.range n).map fun _ => List.replicate n 0, none, none, none, none, by rw [List.map_map]; rfl, ⟨by rw [List.length_map, List.length_range], fun r hr => by
      obtain ⟨_, _, rfl⟩ := List.mem_map.mp hr
      exact ⟨List.length_replicate, fun x hx => by rw [List.eq_of_mem_replicate hx]; omega⟩⟩, fun i j hi hj => by
      have z : ∀ i j, i < n → j < n → fnL ((List.range n).map fun _ => List.replicate n 0) i j = 0 := fun i j hi hj => by
        unfold fnL
        rw [List.getD_eq_getElem?_getD (l := List.map _ _), List.getElem?_map, List.getElem?_range hi]
        show (List.replicate n (0 : Int)).getD j 0 = 0
        rw [List.getD_eq_getElem?_getD, List.getElem?_replicate, if_pos hj]; rfl
      exact ⟨by rw [z i j hi hj, z j i hj hi], z i i hi hi⟩⟩ (fun i d δ hd q => ?_) fun δ' q => by obtain ⟨L, z1, z2, z3, z4, rfl, hL, sy⟩ := q; exact Zz8 rfl ⟨L, rfl, hL, sy⟩
    obtain ⟨L, z1, z2, z3, z4, rfl, hL, sy⟩ := q
    obtain ⟨hi, rfl⟩ := W6 hd
    rw [Int.zero_add]
    refine Ztf (ds := Zb3 0 i) (fun j δ => ∃ (L : List (List Int)) (z2 z3 z4 : Option OT), δ = [some (.fz (Zg ns)), some (.fz (.int 3)), some (.fz (.int n)), some (.fz (.int base)), some (.fz (.int c)), some (.nd (L.map Zba)), some (.fz (.int i)), z2, z3, z4] ∧ Dr n base L ∧ Sy n L) rfl (Zdx (Zc Za Zj) (by omega)) ⟨L, z2, z3, z4, rfl, hL, sy⟩ (fun j d δ hd q => ?_) fun δ' q => by obtain ⟨L, z2, z3, z4, e, hL, sy⟩ := q; exact ⟨L, _, _, _, _, e, hL, sy⟩
    · obtain ⟨L, z2, z3, z4, rfl, hL, sy⟩ := q
      obtain ⟨hj, rfl⟩ := W6 hd
      rw [Int.zero_add]
      obtain ⟨at', hat, a0⟩ : ∃ k, ((i : Int) * ((i : Int) - 1)).fdiv 2 + (j : Int) = k ∧ 0 ≤ k := by
        refine ⟨_, rfl, ?_⟩
        have hsm : 0 ≤ (i : Int) * ((i : Int) - 1) := Int.mul_nonneg (by omega) (by omega)
        rw [Wj (by decide)]
        omega
      obtain ⟨v, ev⟩ := Zc6 c (90 + at')
      have w1 : ∀ {δ : Zh}, δ[6]? = some (some (.fz (.int i))) → δ[7]? = some (some (.fz (.int j))) → EvV (Zf Jp (Zf Jc (Zf Ze2 (Zd 6) (Zf gSb (Zd 6) (fC (.int 1)))) (fC (.int 2))) (Zd 7)) δ (.int at') := fun h6 h7 => hat ▸ Yq (Jh (Zbj (Za h6) (Za7 (Za h6) Z0) (by omega)) Z0) (Za h7)
      have w3 : ∀ {δ : Zh}, δ[0]? = some (some (.fz (Zg ns))) → δ[1]? = some (some (.fz (.int 3))) → δ[8]? = some (some (.fz (.int at'))) → δ[9]? = some (some (.fz (.int v))) → ∃ w, Ww (tV (Zf gLt (Zf Jp (Zd 1) (Zd 8)) (Zau Zam (Zb (Zd 0) Zm)))) (wE (Yd gIx (Zd 0) (Zf Jp (Zd 1) (Zd 8))) (Yh 9)) fNx δ = .nx (δ.set 9 (some (.fz (.int w)))) := fun {δ} h0 h1 h8 h9 => by
        by_cases q : 3 + at' < ns.length
        · exact ⟨_, W9 (Za6 (Zes (Yq (Za h1) (Za h8)) (Yt (Za h0)) (decide_eq_true q))) (Zn (Jo (Za h0) (Yq (Za h1) (Za h8)) (by omega) q))⟩
        · exact ⟨v, (Z3 (Za6 (Zes (Yq (Za h1) (Za h8)) (Yt (Za h0)) (decide_eq_false q))) rfl).trans (congrArg RS.nx (Ztc h9).symm)⟩
      obtain ⟨w, e3⟩ := w3 (δ := [some (.fz (Zg ns)), some (.fz (.int 3)), some (.fz (.int n)), some (.fz (.int base)), some (.fz (.int c)), some (.nd (L.map Zba)), some (.fz (.int i)), some (.fz (.int j)), some (.fz (.int at')), some (.fz (.int v))]) rfl rfl rfl rfl
      have w0 : 0 ≤ w.fmod base := Zak hb
      have w1' : w.fmod base < base := Zad hb
      have D1 := hL.put w0 w1' i j
      exact ⟨_, _, rfl, .inl (Yb (Zn (w1 rfl rfl)) <| Yb (Zn (Zq (Zc Za (Zc (Yq Z0 Za) Zj)) ev)) <| Yb e3 <|
        Yb (Zf9 (L := L) (a := i) (b := j) (Wb Za Za (by omega)) rfl Za (by rw [hL.1]; exact hi) Za (by rw [len i hL hi]; omega)) (Zf9 (L := L.set i ((L.getD i []).set j (w.fmod base))) (a := j) (b := i) (Wb Za Za (by omega)) rfl Za (by rw [D1.1]; omega) Za (by rw [len j D1 (by omega)]; omega))), _, _, _, _, rfl, D1.put w0 w1' j i, fun x y hx hy => by
          have f2 := Zfy (L := L.set i ((L.getD i []).set j (w.fmod base))) (a := j) (b := i) (v := w.fmod base) (by rw [D1.1]; omega) (by rw [len j D1 (by omega)]; exact hi)
          have f1 := Zfy (L := L) (a := i) (b := j) (v := w.fmod base) (by rw [hL.1]; exact hi) (by rw [len i hL hi]; omega)
          rw [f2, f2, f2, f1, f1, f1]
          obtain ⟨s1, s2⟩ := sy x y hx hy
          refine ⟨?_, by rw [if_neg (by omega), if_neg (by omega)]; exact s2⟩
          by_cases c1 : x = j ∧ y = i
          · rw [if_pos c1, if_neg (by omega), if_pos ⟨c1.2, c1.1⟩]
          · rw [if_neg c1]
            by_cases c2 : x = i ∧ y = j
            · rw [if_pos c2, if_pos ⟨c2.2, c2.1⟩]
            · rw [if_neg c2, if_neg (by omega), if_neg (by omega)]; exact s1⟩
  obtain ⟨d, h, L, rfl, hL, sy⟩ := key
  exact ⟨L, h, hL, sy⟩
noncomputable def Zsj (p : List Int) (lo hi : Option Int) : List Int := (p.drop (HT.sIx p.length 0 lo)).take (HT.sIx p.length p.length hi - HT.sIx p.length 0 lo)
theorem Ztq (p : List Int) (lo hi : Option Int) : cutD (p.map PyData.int) lo hi = (Zsj p lo hi).map PyData.int := by
  unfold cutD Zsj
  rw [List.length_map, List.map_take, List.map_drop]
theorem Zop {p : List Int} {k : Nat} (h : k ≤ p.length) : Zsj p none (some (k : Int)) = p.take k := by
  unfold Zsj
  rw [HT.sIx_none, HT.sIx_nat, List.drop_zero, Nat.sub_zero, Nat.min_eq_left h]
theorem Zoc {p : List Int} {k : Nat} (h : k ≤ p.length) : Zsj p (some (k : Int)) none = p.drop k := by
  unfold Zsj
  rw [HT.sIx_none, HT.sIx_nat, Nat.min_eq_left h, List.take_of_length_le (by rw [List.length_drop]; omega)]
theorem Zro (e : FE) (lo hi st : FO) (δ : Zh) : Ztj e lo hi st δ = (e δ).bind fun p => (lo p.2).bind fun q => (hi q.2).bind fun r => (st r.2).bind fun t => (stepOf p.1.data q.1 r.1 t.1).bind fun o => some (o, t.2) := rfl
theorem Zo3 (p : List Int) : stepOf (Zg p) none (some 0) (some (-1)) = some (.nd ((((p.drop 1).reverse).map PyData.int).map OT.fz)) := by
  unfold Zg
  rw [Zls, show ((p.map PyData.int).drop 1).reverse = ((p.drop 1).reverse).map PyData.int by rw [List.map_reverse, List.map_drop]]
noncomputable def Pm (n : Nat) (p : List Int) : Prop := p.Perm (Jd n)
theorem Wz {n : Nat} {x : Int} : x ∈ Jd n ↔ 0 ≤ x ∧ x < n := by
  unfold Jd
  rw [Int.toNat_natCast, List.mem_map]
  constructor
  · rintro ⟨i, hi, rfl⟩
    have := List.mem_range.mp hi
    omega
  · rintro ⟨h0, h1⟩
    exact ⟨x.toNat, List.mem_range.mpr (by omega), by omega⟩
theorem Ze0 (n : Nat) : (Jd n).Nodup := by
  unfold Jd
  rw [Int.toNat_natCast]
  exact List.pairwise_map.mpr (List.nodup_range.imp fun h e => h (by omega))
theorem Zcp (n : Nat) : (Jd n).length = n := by unfold Jd; simp
theorem Pm.len {n : Nat} {p : List Int} (h : Pm n p) : p.length = n := by rw [h.length_eq, Zcp]
theorem Pm.nodup {n : Nat} {p : List Int} (h : Pm n p) : p.Nodup := h.nodup_iff.mpr (Ze0 n)
theorem getD_mem {p : List Int} {i : Nat} (h : i < p.length) : p.getD i 0 ∈ p := by
  rw [List.getD_eq_getElem?_getD, List.getElem?_eq_getElem h]; exact List.getElem_mem h
theorem Pm.inR {n : Nat} {p : List Int} (h : Pm n p) : InR n p := ⟨h.len, fun i hi => Wz.mp (h.mem_iff.mp (getD_mem (by rw [h.len]; exact hi)))⟩
theorem Pm.ne {n : Nat} {p : List Int} (h : Pm n p) {i j : Nat} (hi : i < n) (hj : j < n) (e : p.getD i 0 = p.getD j 0) : i = j := by
  have hl := h.len
  rw [List.getD_eq_getElem?_getD, List.getD_eq_getElem?_getD, List.getElem?_eq_getElem (by omega), List.getElem?_eq_getElem (by omega)] at e
  have nd := List.pairwise_iff_getElem.mp h.nodup
  rcases Nat.lt_trichotomy i j with c | c | c
  · exact (nd i j (by omega) (by omega) c e).elim
  · exact c
  · exact (nd j i (by omega) (by omega) c e.symm).elim
theorem Ztn {a b : FE} {δ : Zh} {p : List Int} {k : Int} (ha : a δ = some (.fz (Zg p), δ)) (hp : p.length ≤ 1000) (hb : b δ = some (.fz (.int k), δ)) (hk : k ∈ p) : Zk4 a b δ = some (.fz (.int (p.idxOf k : Nat)), δ) := by
  unfold Zk4
  rw [ha, Option.bind_some, OT.data_fz]
  unfold Zg
  dsimp only
  rw [Zgo, Option.bind_some, if_pos (by omega), hb, Option.bind_some, OT.data_fz]
  dsimp only
  rw [if_pos hk]
noncomputable def flip (w : List Int) : List Int := w.take 1 ++ (w.drop 1).reverse
theorem Zkz (a : Int) (t : List Int) : flip (a :: t) = a :: t.reverse := rfl
theorem Zp8 (w : List Int) : (flip w).Perm w := by
  cases w with
  | nil => exact .nil
  | cons a t => rw [Zkz]; exact (List.reverse_perm t).cons a
theorem Zrx {w : List Int} (h : 2 ≤ w.length) : (flip w).getD 0 0 = w.getD 0 0 ∧ (flip w).getD 1 0 = w.getD (w.length - 1) 0 ∧ (flip w).getD (w.length - 1) 0 = w.getD 1 0 := by
  match w, h with
  | a :: b :: t, _ =>
    rw [Zkz]
    simp only [List.getD_eq_getElem?_getD, List.length_cons]
    refine ⟨rfl, ?_, ?_⟩
    · rw [List.getElem?_cons_succ, List.getElem?_reverse (by simp)]
      simp only [List.length_cons, Nat.add_sub_cancel, Nat.sub_zero]
      rw [List.getElem?_cons_succ (l := b :: t)]
    · rw [show t.length + 1 + 1 - 1 = t.length + 1 by omega, List.getElem?_cons_succ, List.getElem?_reverse (by simp)]
      simp
theorem Zs1 {e : FE} {δ : Zh} {r p : List Int} {lo hi : FO} {l h : Option Int} (he : EvV e δ (Zg r)) (hl : EvO lo δ l) (hh : EvO hi δ h) (hp : Zsj r l h = p) : EvV (fSl e lo hi) δ (Zg p) := hp ▸ (Z4x (ds := r.map PyData.int) he hl hh).cast (by rw [Ztq]; rfl)
theorem Zqg {a b : FE} {δ : Zh} {p q : List Int} (ha : EvV a δ (Zg p)) (hb : EvV b δ (Zg q)) (h : p.length ≤ 1000) (k : q.length ≤ 1000) : EvV (Yd Ze8 a b) δ (Zg (p ++ q)) := (Zpa (ds := p.map PyData.int) (es := q.map PyData.int) ha hb (by rw [List.length_map, List.length_map]; omega)).cast (by rw [← List.map_append]; rfl)
theorem Zmo {e : FE} {δ : Zh} {x : Int} (h : EvV e δ (.int x)) : EvV (Zbe (Zb e Zm)) δ (Zg [x]) := Zgr (Zc h Zj) (show 1 ≤ 1000 by decide)
theorem Zxs {e : FE} {δ : Zh} {r : List Int} {hi st : FO} (he : EvV e δ (Zg r)) (hh : EvO hi δ (some 0)) (hs : EvO st δ (some (-1))) : EvV (Ztj e oN hi st) δ (Zg ((r.drop 1).reverse)) := by
  obtain ⟨t, e1, d1⟩ := he
  unfold EvO at hh hs
  exact ⟨_, by rw [Zro, e1, Option.bind_some, Z4o, Option.bind_some, hh, Option.bind_some, hs, Option.bind_some, d1, Zo3, Option.bind_some], Zlr _⟩
theorem Zkn {n : Nat} {p : List Int} (h : Pm n p) (h3 : 3 ≤ n) (hn : n ≤ 10) : ∃ r, Told Wn [Zg p] (Zg r) ∧ Pm n r ∧ r.getD 0 0 = 0 ∧ r.getD 1 0 < r.getD (n - 1) 0 := by
  have hl := h.len
  have m0 : (0 : Int) ∈ p := h.mem_iff.mpr (Wz.mpr (by omega))
  have hk : p.idxOf 0 < p.length := List.idxOf_lt_length_of_mem m0
  obtain ⟨k, ek⟩ : ∃ k, p.idxOf 0 = k := ⟨_, rfl⟩
  obtain ⟨w, ew⟩ : ∃ w, p.drop k ++ p.take k = w := ⟨_, rfl⟩
  have hw : Pm n w := by
    unfold Pm
    rw [← ew]
    refine (List.perm_append_comm.trans ?_).trans h
    rw [List.take_append_drop]
  have wl := hw.len
  have w0 : w.getD 0 0 = 0 := by
    rw [← ew, List.getD_eq_getElem?_getD, List.getElem?_append_left (by rw [List.length_drop]; omega), List.getElem?_drop, Nat.add_zero, List.getElem?_eq_getElem (by omega)]
    subst ek
    exact List.getElem_idxOf hk
  have e1 : ∀ {δ : Zh}, δ[0]? = some (some (.fz (Zg p))) → EvV (Zk4 (Zd 0) (fC (.int 0))) δ (.int k) := fun h0 => ⟨_, by rw [Ztn (p := p) (k := 0) (by rw [Zhy, h0, Zig]) (by omega) rfl m0, ek], OT.data_fz _⟩
  have e2 : ∀ {δ : Zh}, δ[0]? = some (some (.fz (Zg p))) → δ[1]? = some (some (.fz (.int k))) → EvV (Yd Ze8 (fSl (Zd 0) (oI (Zd 1)) oN) (fSl (Zd 0) oN (oI (Zd 1)))) δ (Zg w) := fun h0 h1 => ew ▸ Zqg (Zs1 (Za h0) (Zzo (Za h1)) Z4d (Zoc (by omega))) (Zs1 (Za h0) Z4d (Zzo (Za h1)) (Zop (by omega))) (by rw [List.length_drop]; omega) (by rw [List.length_take]; omega)
  have e3 : ∀ {δ : Zh} {b : Bool}, decide (w.getD (n - 1) 0 < w.getD 1 0) = b → δ[2]? = some (some (.fz (Zg w))) → EvT (tAn (tV (Zf gGt (Zau Zam (Zb (Zd 2) Zm)) (fC (.int 2)))) (tV (Zf gGt (Yd gIx (Zd 2) (fC (.int 1))) (Yd gIx (Zd 2) (fUn Zns (fC (.int 1))))))) δ b := fun hb h2 => Zjk (Za6 (Zz4 (Yt (Za h2)) Z0 (decide_eq_true (by omega)))) (Za6 (Zz4 (Jo (Za h2) Z0 (by decide) (by omega)) (Zaf (Za h2) (Zm4 Z0) (Zix (by omega))) (by rw [wl]; exact hb)))
  by_cases c : w.getD (n - 1) 0 < w.getD 1 0
  · obtain ⟨g0, g1, g2⟩ := Zrx (w := w) (by omega)
    rw [wl] at g1 g2
    exact ⟨flip w, Yi rfl <| Zw (Zn (e1 rfl)) <| Zw (Zn (e2 rfl rfl)) <| Zw (W9 (e3 (decide_eq_true c) rfl) (Zn (Zqg (Zs1 Za Z4d (Zzo Z0) (Zop (k := 1) (by omega))) (Zxs Za rfl rfl) (by rw [List.length_take]; omega) (by rw [List.length_reverse, List.length_drop]; omega)))) (Y8 Za), (Zp8 w).trans hw, by rw [g0, w0], by rw [g1, g2]; exact c⟩
  · refine ⟨w, Yi rfl <| Zw (Zn (e1 rfl)) <| Zw (Zn (e2 rfl rfl)) <| Zw (Z3 (e3 (decide_eq_false c) rfl) rfl) (Y8 Za), hw, w0, ?_⟩
    have : w.getD 1 0 ≠ w.getD (n - 1) 0 := fun e => by
      have := hw.ne (by omega) (by omega) e
      omega
    omega
theorem Zdv {α β : Type} (f : α → β) : ∀ (l : List α) (j : Nat), (l.map f).eraseIdx j = (l.eraseIdx j).map f
  | [], _ => rfl
  | _ :: _, 0 => rfl
  | a :: l, j + 1 => by
    show f a :: (l.map f).eraseIdx j = f a :: (l.eraseIdx j).map f
    rw [Zdv f l j]
theorem Zhb : ∀ (l : List Int) (j : Nat), j < l.length → (l.getD j 0 :: l.eraseIdx j).Perm l
  | [], _, h => by simp at h
  | a :: l, 0, _ => .refl _
  | a :: l, j + 1, h => by
    have := Zhb l j (by simpa using h)
    show (l.getD j 0 :: a :: l.eraseIdx j).Perm (a :: l)
    exact (List.Perm.swap _ _ _).trans (this.cons a)
theorem Zzz {i : Nat} {a : FE} {δ : Zh} {l : List Int} {j : Nat} (hi : δ[i]? = some (some (.nd (l.map fun x => .fz (.int x))))) (ha : a δ = some (.fz (.int j), δ)) (hj : j < l.length) (hl : l.length ≤ 1000) :
    Zsk i a δ = some (.fz (.int (l.getD j 0)), δ.set i (some (.nd ((l.eraseIdx j).map fun x => .fz (.int x))))) := by
  have e1 : (l.map fun x => OT.fz (.int x))[j]? = some (.fz (.int (l.getD j 0))) := by
    rw [List.getElem?_map, List.getD_eq_getElem?_getD, List.getElem?_eq_getElem hj]; rfl
  unfold Zsk
  rw [hi]
  dsimp only
  rw [ha, Option.bind_some]
  dsimp only
  rw [hi]
  dsimp only
  rw [OT.data_fz]
  dsimp only
  rw [Zky (by rw [List.length_map]; exact hj)]
  dsimp only
  rw [e1]
  dsimp only
  rw [if_pos (by rw [List.length_map, sizeLine_eq]; omega)]
  refine congrArg some (congrArg (Prod.mk _) (congrArg (δ.set i) (congrArg some (congrArg OT.nd ?_))))
  rw [Zdv]
theorem Zlg (c : Int) {n : Nat} (h3 : 3 ≤ n) (hn : n ≤ 10) : ∃ r, Told Wk [.int c, .int n] (Zg r) ∧ Pm n r ∧ r.getD 0 0 = 0 ∧ r.getD 1 0 < r.getD (n - 1) 0 := by
  obtain ⟨vs, e0, hv⟩ := Zhe c n (by omega)
  have e1 : ∀ {δ : Zh}, δ[1]? = some (some (.fz (.int n))) → (Zwt (Zb (Zd 1) Zm)) δ = some (.nd ((Jd n).map fun x => OT.fz (.int x)), δ) := fun h1 => by
    rw [Zov, Zct, Zhy, h1, Zig, Option.bind_some, Zh8, Option.bind_some, Option.bind_some, J1, Za8, OT.data_fz, Zvp, if_pos ⟨Zfu (by omega) (by omega), by rw [sizeLine_eq]; omega⟩]
    refine congrArg some (congrArg (fun t => (t, _)) (congrArg OT.nd ?_))
    unfold Zb3 Jd
    rw [List.map_map, List.map_map]
    refine List.map_congr_left fun i _ => ?_
    show OT.fz (.int (0 + (i : Int))) = OT.fz (.int (i : Int))
    rw [Int.zero_add]
  have key : ∃ d, Told Wk [.int c, .int n] d ∧ ∃ r, d = Zg r ∧ Pm n r ∧ r.getD 0 0 = 0 ∧ r.getD 1 0 < r.getD (n - 1) 0 := by
    refine Zif rfl <| Wo (Zn (Zq (Zc Za (Zc Za Zj)) e0)) <| Wo (Za3 (e1 rfl)) <| Wo Zji <| Zgn (ds := Zb3 0 n) (fun i δ => ∃ (l r : List Int) (z : Option OT), δ = [some (.fz (.int c)), some (.fz (.int n)), some (.fz (Zg vs)), some (.nd (l.map fun x => .fz (.int x))), some (.nd (r.map fun x => .fz (.int x))), z] ∧ (r ++ l).Perm (Jd n) ∧ r.length = i) (Zdx (Zc Za Zj) (by omega)) ⟨Jd n, [], none, rfl, .refl _, rfl⟩ (fun i d δ hd q => ?_) fun δ' q => ?_
    · obtain ⟨l, r, z, rfl, hp, hr⟩ := q
      obtain ⟨hi, rfl⟩ := W6 hd
      rw [Int.zero_add]
      have hl := hp.length_eq
      rw [List.length_append, Zcp] at hl
      obtain ⟨j, ej, hj⟩ := Zcf (vs.getD i 0) (n := l.length) (by omega)
      have ep : EvV (Zf Zal (Yd gIx (Zd 2) (Zd 5)) (Zau Zam (Zb (Jz 3) Zm))) [some (.fz (.int c)), some (.fz (.int n)), some (.fz (Zg vs)), some (.nd (l.map fun x => .fz (.int x))), some (.nd (r.map fun x => .fz (.int x))), some (.fz (.int i))] (.int j) := EvV.cast (Wb (j := l.length) (Jo (p := vs) (i := (i : Int)) Za Za (by omega) (by omega)) (Yt (Zf3 rfl (Zcr l))) (by omega)) (congrArg _ ej)
      obtain ⟨t, e2, d2⟩ := ep
      rw [Zfl d2] at e2
      refine ⟨_, _, rfl, .inl (Zpw (vs := r) (Zzz (l := l) (j := j) rfl e2 hj (by omega)) rfl rfl (by omega)), l.eraseIdx j, r ++ [l.getD j 0], some (.fz (.int i)), rfl, ?_, by rw [List.length_append, hr]; rfl⟩
      rw [List.append_assoc]
      exact (List.Perm.append_left r (Zhb l j hj)).trans hp
    · obtain ⟨l, r, z, rfl, hp, hr⟩ := q
      rw [Wx] at hr
      have hl := hp.length_eq
      rw [List.length_append, Zcp] at hl
      have hl : l = [] := List.length_eq_zero_iff.mp (by omega)
      subst hl
      rw [List.append_nil] at hp
      obtain ⟨q, e1, h1⟩ := Zkn hp h3 hn
      exact Zp0 rfl (Zm2 (Zq (Zc (Za (d := Zg r) (by rw [Zcr]; rfl)) Zj) e1) ⟨q, rfl, h1⟩)
  obtain ⟨d, h, r, rfl, hr⟩ := key
  exact ⟨r, h, hr⟩
noncomputable def twP (n : Nat) (D : Nat → Nat → Int) (a c : Nat) : Int := D a c + D (a + 1) ((c + 1) % n) - D a ((c + 1) % n) - D (a + 1) c
theorem Zkd {e : FE} {δ : Zh} {i : Nat} {ts rs : List OT} {ds : List PyData} (h : e δ = some (.nd rs, δ)) (hd : OT.datas rs = ds) (hi : δ[i]? = some (some (.nd ts))) (hl : ts.length + ds.length ≤ 1000000) : Zb9 i e δ = .nx (δ.set i (some (.nd (ts ++ ds.map OT.fz)))) := by
  unfold Zb9
  rw [hi]
  dsimp only
  rw [Zdr, h, We, hi]
  dsimp only
  have lr : rs.length = ds.length := by rw [← hd, Zdy]
  rw [if_pos (by rw [sizeLine_eq, lr]; omega), hd]
theorem Zqs {α : Type} {caps : List Nat} {it : FI} {me : FE} {cs : Zh} {δ : Zh} (xs : List α) (mk f : α → PyData) (hi : EvI it δ (xs.map mk)) (hz : xs.length ≤ 1000000) (hb : blk 1 caps δ = none :: cs) (h : ∀ x ∈ xs, EvV me (some (.fz (mk x)) :: cs) (f x)) : ∃ rs, Y7 1 caps it (gNm 0) Zet me δ = some (.nd rs, δ) ∧ OT.datas rs = xs.map f := by
  obtain ⟨t, e1, e2⟩ := Zdc xs mk f hi hz hb h
  cases t with
  | fz d =>
    unfold Y7 at e1
    unfold EvI at hi
    rw [hi, Option.bind_some] at e1
    split at e1
    · obtain ⟨z, h1, h2⟩ := bs e1
      cases h2
    · cases e1
  | tp ts => rw [OT.data_tp] at e2; cases e2
  | dc _ _ _ => rw [OT.data_dc] at e2; cases e2
  | nd rs =>
    rw [OT.data_nd, ← datas_map] at e2
    injection e2 with e2
    exact ⟨rs, e1, e2⟩
theorem Zod (n : Nat) (hn : n ≤ 20) : Told Wh [.int n] (.list ((Jw n).map ptD)) := by
  refine Yi rfl <| Zw Zji ?_
  refine Zra (ds := Zb3 0 n) (fun i δ => ∃ z, δ = [some (.fz (.int n)), some (.nd (((Zjo n i).map ptD).map OT.fz)), z]) (Zdx (Zc Za Zj) (by omega)) ⟨none, rfl⟩ (fun i d δ hd q => ?_) fun δ' q => ?_
  · obtain ⟨z, rfl⟩ := q
    obtain ⟨hi, rfl⟩ := W6 hd
    rw [Int.zero_add]
    have lp := Zko n i
    have : i * n ≤ 20 * 20 := Nat.mul_le_mul (by omega) hn
    obtain ⟨rs, e1, e2⟩ := Zqs (δ := [some (.fz (.int n)), some (.nd (((Zjo n i).map ptD).map OT.fz)), some (.fz (.int i))]) (caps := [2]) (cs := [some (.fz (.int i))]) (me := Zn6 (Zb (Zd 1) (Zb (Zd 0) Zm))) (it := iRb (Zb (Zf Jp (Zd 2) (fC (.int 1))) (Zb (Zd 0) Zm))) (List.range (n - (i + 1))) (fun j : Nat => PyData.int (((i + 1 : Nat) : Int) + (j : Int))) (fun j => ptD (i, i + 1 + j)) (Zse (m := i + 1) (Zc ((Yq Za Z0).cast (by rw [Int.natCast_add]; rfl)) (Zc Za Zj)) (by omega) (by omega)) (by rw [List.length_range]; omega) rfl fun j _ => (Zma (Zc Za (Zc Za Zj)) (show 2 ≤ 1000 by decide)).cast (by
      show PyData.tuple [.int (i : Int), .int (((i + 1 : Nat) : Int) + (j : Int))] = .tuple [.int (i : Int), .int ((i + 1 + j : Nat) : Int)]
      rw [Int.natCast_add (i + 1) j])
    refine ⟨_, _, rfl, .inl (Zkd e1 e2 rfl (by rw [List.length_map, List.length_map, List.length_map, List.length_range]; omega)), some (.fz (.int i)), ?_⟩
    have em : (List.range (n - (i + 1))).map (fun j => ptD (i, i + 1 + j)) = ((List.range (n - (i + 1))).map fun j => (i, i + 1 + j)).map ptD := by rw [List.map_map]; rfl
    rw [Zn2, List.map_append, List.map_append, em]; rfl
  · obtain ⟨z, rfl⟩ := q
    rw [Wx]
    exact Z5m rfl (by rw [OT.data_nd, OT.map_fz]; rfl)
theorem Zd5 (neg : Bool) (x : Int) (p : List Int) : Zm7 neg (.int x) (Zg p) = some (.bool (if neg then !decide (x ∈ p) else decide (x ∈ p))) := by
  have e : memS (.int x) (p.map PyData.int) = decide (x ∈ p) := by
    unfold memS
    rw [List.any_map]
    rw [Bool.eq_iff_iff, List.any_eq_true, decide_eq_true_eq]
    constructor
    · rintro ⟨y, hy, h⟩
      have : (y == x) = true := h
      rw [← eq_of_beq this]; exact hy
    · intro h
      exact ⟨x, h, (show (x == x) = true from beq_self_eq_true x)⟩
  have s : (p.map PyData.int).all scD = true := by
    rw [List.all_eq_true]
    intro d hd
    obtain ⟨y, _, rfl⟩ := List.mem_map.mp hd
    rfl
  show (if (scD (.int x) && (p.map PyData.int).all scD) = true then some (PyData.bool (if neg then !memS (.int x) (p.map PyData.int) else memS (.int x) (p.map PyData.int))) else none) = _
  rw [s, e]; rfl
theorem Zof (x y : Bool) : gNe (.bool x) (.bool y) = some (.bool (x != y)) := by
  cases x <;> cases y <;> rfl
noncomputable def sd (p : List Int) (q : Nat × Nat) : List Int := (p.drop (q.1 + 1)).take (q.2 - q.1)
theorem Zz6 {p : List Int} {q : Nat × Nat} (h1 : q.1 < q.2) (h2 : q.2 < p.length) : Zsj p (some ((q.1 : Int) + 1)) (some ((q.2 : Int) + 1)) = sd p q := by
  have e1 : (q.1 : Int) + 1 = ((q.1 + 1 : Nat) : Int) := by omega
  have e2 : (q.2 : Int) + 1 = ((q.2 + 1 : Nat) : Int) := by omega
  have f : ∀ k d : Nat, k ≤ p.length → HT.sIx p.length d (some (k : Int)) = k := fun k d hk => by
    show (if (k : Int) < 0 then ((k : Int) + (p.length : Int)).toNat else min (k : Int).toNat p.length) = k
    rw [if_neg (by omega)]
    omega
  unfold Zsj sd
  rw [e1, e2, f _ _ (by omega), f _ _ (by omega), show q.2 + 1 - (q.1 + 1) = q.2 - q.1 by omega]
theorem Pm.at {n : Nat} {p : List Int} (h : Pm n p) {i : Nat} (hi : i < n) : ∃ u, u < n ∧ p.getD u 0 = (i : Int) := by
  have m : (i : Int) ∈ p := h.mem_iff.mpr (Wz.mpr ⟨by omega, by omega⟩)
  obtain ⟨u, hu⟩ := List.getElem?_of_mem m
  exact ⟨u, by rw [← h.len]; exact (List.getElem?_eq_some_iff.mp hu).1, by rw [List.getD_eq_getElem?_getD, hu]; rfl⟩
theorem list_range {α β : Type} (p : List α) (d : α) (f : α → β) : p.map f = (List.range p.length).map fun i => f (p.getD i d) := by
  refine List.ext_getElem? fun i => ?_
  rw [List.getElem?_map, List.getElem?_map]
  by_cases c : i < p.length
  · rw [List.getElem?_range c, List.getElem?_eq_getElem c]
    simp [List.getD_eq_getElem?_getD, List.getElem?_eq_getElem c]
  · rw [List.getElem?_eq_none (by omega), List.getElem?_eq_none (by simp; omega)]; rfl
theorem Zxw {n : Nat} {base : Int} {L : List (List Int)} (h : Dr n base L) : PyData.list ((L.map Zba).map OT.data) = Wq n (fnL L) ∧ ∀ i j, i < n → j < n → 0 ≤ fnL L i j ∧ fnL L i j < base := by
  refine ⟨?_, fun i j hi hj => ?_⟩
  · unfold Wq
    refine congrArg PyData.list ?_
    rw [List.map_map, list_range L [], h.1]
    refine List.map_congr_left fun i hi => ?_
    have hi : i < n := by simpa using hi
    have hr : (L.getD i []).length = n := by
      refine (h.2 _ ?_).1
      rw [List.getD_eq_getElem?_getD, List.getElem?_eq_getElem (by rw [h.1]; exact hi)]
      exact List.getElem_mem _
    show (OT.nd _).data = Zu6 n _
    rw [OT.data_nd]
    unfold Zu6
    refine congrArg PyData.list ?_
    rw [List.map_map, list_range (L.getD i []) 0, hr]
    rfl
  · have m1 : L.getD i [] ∈ L := by
      rw [List.getD_eq_getElem?_getD, List.getElem?_eq_getElem (by rw [h.1]; exact hi)]
      exact List.getElem_mem _
    obtain ⟨h1, h2⟩ := h.2 _ m1
    exact h2 _ (getD_mem (by omega))
theorem ix3 {x y z : PyData} {v : Int} (h0 : 0 ≤ v) (h1 : v < 3) : ∃ d, gIx (.list [x, y, z]) (.int v) = some (.fz d) ∧ (d = x ∨ d = y ∨ d = z) := by
  obtain ⟨n, rfl⟩ : ∃ n : Nat, v = n := ⟨v.toNat, by omega⟩
  match n with
  | 0 => exact ⟨x, rfl, .inl rfl⟩
  | 1 => exact ⟨y, rfl, .inr (.inl rfl)⟩
  | 2 => exact ⟨z, rfl, .inr (.inr rfl)⟩
  | n + 3 => exact absurd h1 (by omega)
theorem ix4 {x y z w : PyData} {v : Int} (h0 : 0 ≤ v) (h1 : v < 4) : ∃ d, gIx (.list [x, y, z, w]) (.int v) = some (.fz d) ∧ (d = x ∨ d = y ∨ d = z ∨ d = w) := by
  obtain ⟨n, rfl⟩ : ∃ n : Nat, v = n := ⟨v.toNat, by omega⟩
  match n with
  | 0 => exact ⟨x, rfl, .inl rfl⟩
  | 1 => exact ⟨y, rfl, .inr (.inl rfl)⟩
  | 2 => exact ⟨z, rfl, .inr (.inr (.inl rfl))⟩
  | 3 => exact ⟨w, rfl, .inr (.inr (.inr rfl))⟩
  | n + 4 => exact absurd h1 (by omega)
theorem Zo1 (c : Int) : ∃ b, Told Wm [.int c] (.int b) ∧ 0 < b ∧ Bt 300 b := by
  obtain ⟨d, e, h⟩ := ix4 (x := .int 1) (y := .int 2) (z := .int 6) (w := .int (1000000000000000 + 37)) (v := (c.fdiv 3).fmod 4) (Zak (by decide)) (Zad (by decide))
  have key : ∀ b : Int, d = .int b → 0 < b → Bt 300 b → ∃ b, Told Wm [.int c] (.int b) ∧ 0 < b ∧ Bt 300 b := fun b hd h1 h2 => ⟨b, Yi rfl (Y8 (hd ▸ Zaf (Zgr (Zc Z0 (Zc Z0 (Zc Z0 (Zc (Yq (Zy Z0 Z0 Z8v) Z0) Zj)))) (show 4 ≤ 1000 by decide)) (Wb (Jh Za Z0) Z0 (by decide)) e)), h1, h2⟩
  rcases h with h | h | h | h
  · exact key _ h (by decide) (btc (by decide +kernel) (by decide +kernel))
  · exact key _ h (by decide) (btc (by decide +kernel) (by decide +kernel))
  · exact key _ h (by decide) (btc (by decide +kernel) (by decide +kernel))
  · exact key _ h (by decide) (btc (by decide +kernel) (by decide +kernel))
noncomputable def B20 : Int := 100000000000000000000
noncomputable def wtB (cnt : FE) : FS := (Zu (wE (Yd gIx (Zbe (Zb (fC (.int 3)) (Zb (fC (.int 12)) (Zb (Zf Zmn (fC (.int 10)) (fC (.int 20))) Zm)))) (Zf Zal (Zd 3) (fC (.int 3)))) (Yh 4))
    (Zu (wE (Zbe Zm) (Ja 5))
    (Zu (Za2 (iRa (Zb cnt Zm)) (gNm 6)
    (Zu (wE (Zt Zr (Zb (Zd 3) (Zb (Zf Jp (fC (.int 50)) (Zd 6)) Zm))) (Yh 7))
    (Zu (Ww (tV (Zf gLt (Zf Jp (Zd 1) (Zd 6)) (Zau Zam (Zb (Zd 0) Zm))))
    (wE (Yd gIx (Zd 0) (Zf Jp (Zd 1) (Zd 6))) (Yh 7))
    fNx)
    (Wl 5 (Zf Zal (Zd 7) (Zd 4))))))
    (J9 5))))
theorem Zy4 (ns : List Int) (st : Nat) (x c : Int) {cnt : FE} {m : Nat} (hm : m ≤ 1000) (hc : ∀ {δ : Zh}, δ[2]? = some (some (.fz (.int x))) → EvV cnt δ (.int m)) : ∃ vs : List Int, Told (J3 4 8 (wtB cnt)) [Zg ns, .int st, .int x, .int c] (Zg vs) ∧ vs.length = m ∧ ∀ v ∈ vs, 0 ≤ v ∧ v < B20 := by
  obtain ⟨d, e, h⟩ := ix3 (x := .int 3) (y := .int 12) (z := .int B20) (v := c.fmod 3) (Zak (by decide)) (Zad (by decide))
  obtain ⟨b, rfl, b0, b1⟩ : ∃ b : Int, d = .int b ∧ 0 < b ∧ b ≤ B20 := by
    unfold B20 at h ⊢
    rcases h with h | h | h <;> exact ⟨_, h, by decide, by decide⟩
  have key : ∃ d, Told (J3 4 8 (wtB cnt)) [Zg ns, .int st, .int x, .int c] d ∧ ∃ vs : List Int, d = Zg vs ∧ vs.length = m ∧ ∀ v ∈ vs, 0 ≤ v ∧ v < B20 := by
    refine Zif rfl <| Wo (Zn (Zaf (Zgr (Zc Z0 (Zc Z0 (Zc (Zy Z0 Z0 Z6m) Zj))) (show 3 ≤ 1000 by decide)) (Wb Za Z0 (by decide)) e)) <| Wo Zji <| Zgn (ds := Zb3 0 m) (fun i δ => ∃ (vs : List Int) (z6 z7 : Option OT), δ = [some (.fz (Zg ns)), some (.fz (.int st)), some (.fz (.int x)), some (.fz (.int c)), some (.fz (.int b)), some (.nd (vs.map fun v => .fz (.int v))), z6, z7] ∧ vs.length = i ∧ ∀ v ∈ vs, 0 ≤ v ∧ v < B20) (Zdx (Zc (hc rfl) Zj) (by omega)) ⟨[], none, none, rfl, rfl, fun _ h => nomatch h⟩ (fun i d δ hd q => ?_) fun δ' q => ?_
    · obtain ⟨vs, z6, z7, rfl, hl, hv⟩ := q
      obtain ⟨hi, rfl⟩ := W6 hd
      rw [Int.zero_add]
      obtain ⟨v, ev⟩ := Zc6 c (50 + (i : Int))
      obtain ⟨w, e3⟩ : ∃ w, Ww (tV (Zf gLt (Zf Jp (Zd 1) (Zd 6)) (Zau Zam (Zb (Zd 0) Zm)))) (wE (Yd gIx (Zd 0) (Zf Jp (Zd 1) (Zd 6))) (Yh 7)) fNx [some (.fz (Zg ns)), some (.fz (.int st)), some (.fz (.int x)), some (.fz (.int c)), some (.fz (.int b)), some (.nd (vs.map fun v => .fz (.int v))), some (.fz (.int i)), some (.fz (.int v))] = .nx [some (.fz (Zg ns)), some (.fz (.int st)), some (.fz (.int x)), some (.fz (.int c)), some (.fz (.int b)), some (.nd (vs.map fun v => .fz (.int v))), some (.fz (.int i)), some (.fz (.int w))] := by
        by_cases q : (st : Int) + (i : Int) < ns.length
        · exact ⟨_, W9 (Za6 (Zes (Yq Za Za) (Yt Za) (decide_eq_true q))) (Zn (Jo Za (Yq Za Za) (by omega) q))⟩
        · exact ⟨v, Z3 (Za6 (Zes (Yq Za Za) (Yt Za) (decide_eq_false q))) rfl⟩
      refine ⟨_, _, rfl, .inl (Yb (Zn (Zq (Zc Za (Zc (Yq Z0 Za) Zj)) ev)) <| Yb e3 (Zij (vs := vs) (Wb Za Za (by omega)) rfl (by omega))), vs ++ [w.fmod b], _, _, rfl, by rw [List.length_append, hl]; rfl, fun u hu => ?_⟩
      rcases List.mem_append.mp hu with q | q
      · exact hv u q
      · rw [List.mem_singleton.mp q]
        exact ⟨Zak b0, Int.lt_of_lt_of_le (Zad b0) b1⟩
    · obtain ⟨vs, z6, z7, rfl, hl, hv⟩ := q
      rw [Wx] at hl
      exact Zz8 rfl ⟨vs, Zcr vs, hl, hv⟩
  obtain ⟨d, h, vs, rfl, r⟩ := key
  exact ⟨vs, h, r⟩
theorem Zng (ns : List Int) (st : Nat) (m : Nat) (c : Int) (hm : m ≤ 1000) : ∃ vs : List Int, Told Ye [Zg ns, .int st, .int m, .int c] (Zg vs) ∧ vs.length = m ∧ ∀ v ∈ vs, 0 ≤ v ∧ v < B20 := Zy4 ns st m c (cnt := Zd 2) hm fun h => Za h
theorem Zft (ns : List Int) (st n : Nat) (c : Int) (hn : n ≤ 10) : ∃ vs : List Int, Told Yk [Zg ns, .int st, .int n, .int c] (Zg vs) ∧ vs.length = n * (n - 1) / 2 ∧ ∀ v ∈ vs, 0 ≤ v ∧ v < B20 := by
  refine Zy4 ns st n c (m := n * (n - 1) / 2) ?_ fun h => (Jh (Zbj (Za h) (Za7 (Za h) Z0) (by omega)) Z0).cast (congrArg PyData.int ?_)
  · have : n * (n - 1) ≤ 10 * 10 := Nat.mul_le_mul hn (by omega)
    omega
  · cases n with
    | zero => rfl
    | succ k =>
      rw [Wj (by decide), show ((k + 1 : Nat) : Int) - 1 = (k : Int) by omega, ← Int.natCast_mul]
      rfl
noncomputable def lO (L : List (List Int)) : OT := .nd ((L.map Zg).map OT.fz)
theorem Zgq (L : List (List Int)) : (lO L).data = .list (L.map Zg) := by unfold lO; rw [OT.data_nd, OT.map_fz]
theorem Zpf (L : List (List Int)) (x : List Int) : lO (L ++ [x]) = .nd ((L.map Zg).map OT.fz ++ [OT.fz (Zg x)]) := by
  unfold lO
  rw [List.map_append, List.map_append]; rfl
theorem Zmb (L : List (List Int)) : OT.datas ((L.map Zg).map OT.fz) = L.map Zg := by
  have := Zgq L
  unfold lO at this
  rw [OT.data_nd] at this
  rw [OT.datas_map]
  exact PyData.list.inj this
theorem Z3f (L : List (List Int)) : Zk6 ((L.map Zg).map OT.fz) = true := by
  induction L with
  | nil => rfl
  | cons x L ih => exact ih
theorem Zpi {δ : Zh} {i : Nat} {L : List (List Int)} (h : δ[i]? = some (some (lO L))) : Z1c δ[i]? = some ((L.map Zg).map OT.fz) := by
  rw [h]
  show (if Zk6 ((L.map Zg).map OT.fz) = true then some ((L.map Zg).map OT.fz) else none) = _
  rw [if_pos (Z3f L)]
theorem Zsa {δ : Zh} {i : Nat} {L : List (List Int)} (h : δ[i]? = some (some (lO L))) : Zl8 i δ = some (lO L, δ) := by
  unfold Zl8
  rw [Zpi h, Option.bind_some, Zmb]; rfl
theorem Z5o {i : Nat} {a : FE} {δ : Zh} {l : List (List Int)} {j : Nat} (hi : δ[i]? = some (some (lO l))) (ha : EvV a δ (.int j)) (hj : j < l.length) (hl : l.length ≤ 1000) :
    Zsk i a δ = some (.fz (Zg (l.getD j [])), δ.set i (some (lO (l.eraseIdx j)))) := by
  obtain ⟨t, e0, d0⟩ := ha
  rw [Zfl d0] at e0
  have e1 : ((l.map Zg).map OT.fz)[j]? = some (.fz (Zg (l.getD j []))) := by
    rw [List.getElem?_map, List.getElem?_map, List.getD_eq_getElem?_getD, List.getElem?_eq_getElem hj]; rfl
  unfold lO at hi ⊢
  unfold Zsk
  rw [hi]
  dsimp only
  rw [e0, Option.bind_some]
  dsimp only
  rw [hi]
  dsimp only
  rw [OT.data_fz]
  dsimp only
  rw [Zky (by rw [List.length_map, List.length_map]; exact hj)]
  dsimp only
  rw [e1]
  dsimp only
  rw [if_pos (by rw [List.length_map, List.length_map, sizeLine_eq]; omega), Zdv, Zdv]
theorem popS {e : FE} {δ δ' : Zh} {o : OT} {i : Nat} (h : e δ = some (o, δ')) : wE e (Yh i) δ = .nx (δ'.set i (some (.fz o.data))) := by
  rw [Zdr, h, We, Zqo]
theorem Zta {δ : Zh} {i : Nat} {L : List (List Int)} {x : List Int} (h : δ[i]? = some (some (lO (L ++ [x])))) : EvV (Z2y i (fUn Zns (fC (.int 1)))) δ (Zg x) := by
  obtain ⟨t, e, d⟩ := Zm4 (Z0 (δ := δ) (d := .int 1))
  refine ⟨.fz (Zg x), ?_, OT.data_fz _⟩
  unfold Z2y
  rw [Zpi h, Option.bind_some, e, Option.bind_some]
  dsimp only
  rw [d, Zmb, List.map_append]
  dsimp only
  rw [show atI (L.map Zg ++ [x].map Zg) (-1) = some (Zg x) from Zml _ _]; rfl
noncomputable def sL (l : List (List Int)) : Nat := (l.map List.length).sum
theorem Zh1 : ∀ (l : List (List Int)) (j : Nat), j < l.length → sL (l.eraseIdx j) + (l.getD j []).length = sL l
  | [], _, h => by simp at h
  | a :: l, 0, _ => by unfold sL; rw [List.map_cons, List.sum_cons]; exact Nat.add_comm _ _
  | a :: l, j + 1, h => by
    have := Zh1 l j (by simpa using h)
    unfold sL at this ⊢
    rw [List.map_cons, List.sum_cons, ← this]
    show (a.length + _) + _ = _
    exact Nat.add_assoc _ _ _
theorem Zlu (c : Int) {n : Nat} (h3 : 3 ≤ n) (hn : n ≤ 10) : ∃ Ls : List (List Int), Told Z2 [.int c, .int n] (.list (Ls.map Zg)) ∧ Ls.length ≤ 20 := by
  obtain ⟨vs, e0, hv⟩ := Zhe c (2 * n) (by omega)
  have s0 : EvV (Zf Ze2 (fC (.int 2)) (Zd 1)) (Zbt 8 [.int c, .int n]) (.int (2 * n : Nat)) := (Zbj Z0 Za (by decide)).cast (congrArg PyData.int (by omega))
  have e1 : Zrs (Y7 1 [] (iRb (Zb (fC (.int 1)) (Zb (Zd 1) Zm))) (gNm 0) Zet (Zbe (Zb (Zd 0) Zm))) [some (.fz (.int c)), some (.fz (.int n)), some (.fz (Zg vs)), none, none, none, none, none] = some (lO ((List.range (n - 1)).map fun i : Nat => [1 + (i : Int)]), [some (.fz (.int c)), some (.fz (.int n)), some (.fz (Zg vs)), none, none, none, none, none]) := by
    obtain ⟨rs, h1, h2⟩ := Zqs (caps := []) (it := iRb (Zb (fC (.int 1)) (Zb (Zd 1) Zm))) (me := Zbe (Zb (Zd 0) Zm)) (cs := []) (δ := [some (.fz (.int c)), some (.fz (.int n)), some (.fz (Zg vs)), none, none, none, none, none]) (List.range (n - 1)) (fun i : Nat => PyData.int (1 + (i : Int))) (fun i : Nat => Zg [1 + (i : Int)]) (Zse (m := 1) (n := n) (Zc Z0 (Zc Za Zj)) (by decide) (by omega)) (by rw [List.length_range]; omega) rfl fun i _ => Zmo Za
    unfold Zrs
    rw [h1, Option.bind_some]
    dsimp only
    rw [h2]
    unfold lO
    rw [List.map_map, List.map_map, List.map_map]; rfl
  have key : ∃ d, Told Z2 [.int c, .int n] d ∧ ∃ Ls : List (List Int), d = .list (Ls.map Zg) ∧ Ls.length ≤ 20 := by
    refine Zif rfl <| Wo (Zn (Zq (Zc Za (Zc s0 Zj)) e0)) <| Wo (Za3 e1) <| Wo (Za3 (Zsa (i := 3) rfl)) <| Zgn (ds := Zb3 0 (n - 2)) (fun i δ => ∃ (l f : List (List Int)) (z5 z6 z7 : Option OT), δ = [some (.fz (.int c)), some (.fz (.int n)), some (.fz (Zg vs)), some (lO l), some (lO f), z5, z6, z7] ∧ l.length + i = n - 1 ∧ sL l = n - 1 ∧ f.length = n - 1 + i) (Zdx (n := n - 2) (Zc ((Za7 Za Z0).cast (congrArg PyData.int (by omega))) Zj) (by omega)) ⟨(List.range (n - 1)).map fun i : Nat => [1 + (i : Int)], (List.range (n - 1)).map fun i : Nat => [1 + (i : Int)], _, _, _, rfl, by rw [List.length_map, List.length_range]; rfl, ?_, by rw [List.length_map, List.length_range]; rfl⟩ (fun i d δ hd q => ?_) fun δ' q => ?_
    · unfold sL
      rw [List.map_map]
      generalize n - 1 = k
      induction k with
      | zero => rfl
      | succ k ih => rw [List.range_succ, List.map_append, List.sum_append, ih]; rfl
    · obtain ⟨l, f, z5, z6, z7, rfl, ll, sl, lf⟩ := q
      obtain ⟨hi, rfl⟩ := W6 hd
      rw [Int.zero_add]
      obtain ⟨j, ej, hj⟩ := Zcf (vs.getD (2 * i) 0) (n := l.length) (by omega)
      have l1 : (l.eraseIdx j).length = l.length - 1 := List.length_eraseIdx_of_lt hj
      obtain ⟨j2, ej2, hj2⟩ := Zcf (vs.getD (2 * i + 1) 0) (n := (l.eraseIdx j).length) (by omega)
      have l2 : ((l.eraseIdx j).eraseIdx j2).length = l.length - 2 := by rw [List.length_eraseIdx_of_lt hj2, l1]; omega
      have x1 := Zh1 l j hj
      have x2 := Zh1 (l.eraseIdx j) j2 hj2
      have p1 : EvV (Zf Zal (Yd gIx (Zd 2) (Zf Ze2 (fC (.int 2)) (Zd 5))) (Zau Zam (Zb (Jz 3) Zm))) [some (.fz (.int c)), some (.fz (.int n)), some (.fz (Zg vs)), some (lO l), some (lO f), some (.fz (.int i)), z6, z7] (.int j) := (Wb (j := l.length) ((Jo (p := vs) (i := 2 * (i : Int)) Za (Zbj Z0 Za (by decide)) (by omega) (by omega)).cast (by rw [show (2 * (i : Int)).toNat = 2 * i by omega])) ((Zl7 (Zf3 rfl (Zgq l))).cast (by rw [List.length_map])) (by omega)).cast (congrArg _ ej)
      have p2 : EvV (Zf Zal (Yd gIx (Zd 2) (Zf Jp (Zf Ze2 (fC (.int 2)) (Zd 5)) (fC (.int 1)))) (Zau Zam (Zb (Jz 3) Zm))) [some (.fz (.int c)), some (.fz (.int n)), some (.fz (Zg vs)), some (lO (l.eraseIdx j)), some (lO f), some (.fz (.int i)), some (.fz (Zg (l.getD j []))), z7] (.int j2) := (Wb (j := (l.eraseIdx j).length) ((Jo (p := vs) (i := 2 * (i : Int) + 1) Za (Yq (Zbj Z0 Za (by decide)) Z0) (by omega) (by omega)).cast (by rw [show (2 * (i : Int) + 1).toNat = 2 * i + 1 by omega])) ((Zl7 (Zf3 rfl (Zgq _))).cast (by rw [List.length_map])) (by omega)).cast (congrArg _ ej2)
      obtain ⟨y, hy⟩ : ∃ y, y = Zd2 (l.getD j [] ++ (l.eraseIdx j).getD j2 []) := ⟨_, rfl⟩
      have ly : y.length = (l.getD j []).length + ((l.eraseIdx j).getD j2 []).length := by rw [hy, (Zcq _).length_eq, List.length_append]
      refine ⟨_, _, rfl, .inl (Yb (popS (i := 6) (Z5o (i := 3) rfl p1 hj (by omega))) <| Yb (popS (i := 7) (Z5o (i := 3) rfl p2 hj2 (by omega))) <| Yb (δ' := [some (.fz (.int c)), some (.fz (.int n)), some (.fz (Zg vs)), some (lO ((l.eraseIdx j).eraseIdx j2 ++ [y])), some (lO f), some (.fz (.int i)), some (.fz (Zg (l.getD j []))), some (.fz (Zg ((l.eraseIdx j).getD j2 [])))]) ?_ ?_), (l.eraseIdx j).eraseIdx j2 ++ [y], f ++ [y], some (.fz (.int i)), some (.fz (Zg (l.getD j []))), some (.fz (Zg ((l.eraseIdx j).getD j2 []))), rfl, by rw [List.length_append]; show _ + 1 + _ = _; omega, ?_, by rw [List.length_append]; show _ + 1 = _; omega⟩
      · refine (Zmt (ts := (((l.eraseIdx j).eraseIdx j2).map Zg).map OT.fz) (d := Zg y) ?_ rfl (by rw [List.length_map, List.length_map]; omega)).trans (by rw [Zpf]; rfl)
        rw [hy]
        exact Z0q (Zc (Zqg Za Za (by omega) (by omega)) Zj) (Zhc (by rw [List.length_append]; omega)) (Zlr _)
      · refine (Zmt (ts := (f.map Zg).map OT.fz) (d := Zg y) ?_ rfl (by rw [List.length_map, List.length_map]; omega)).trans (by rw [Zpf f y]; rfl)
        exact Zta rfl
      · unfold sL
        rw [List.map_append, List.sum_append]
        show sL _ + (y.length + 0) = _
        omega
    · obtain ⟨l, f, z5, z6, z7, rfl, ll, sl, lf⟩ := q
      rw [Wx] at lf
      exact Zz8 (o := lO f) rfl ⟨f, Zgq f, by omega⟩
  obtain ⟨d, h, Ls, rfl, r⟩ := key
  exact ⟨Ls, h, r⟩
theorem Zrb {np n : Nat} {S : FS} {xs : List PyData} {o : OT} {δ' : Zh} (hl : xs.length = np) (k : S (Zbt n xs) = .rt o δ') : J3 np n S xs = .ok o := by rw [Zpy hl, k, Zlj]
theorem Zq3 {δ : Zh} {i : Nat} {o : OT} (h : δ[i]? = some (some o)) : J9 i δ = .rt o (δ.set i none) := by rw [Zmi, h, Zvs]
noncomputable def B25 : Int := 10000000000000000000000000
noncomputable def sep (s : List Int) (x y : Nat) : Bool := decide ((x : Int) ∈ s) != decide ((y : Int) ∈ s)
theorem Dr.len {n : Nat} {base : Int} {L : List (List Int)} (h : Dr n base L) {k : Nat} (hk : k < n) : (L.getD k []).length = n := by
  refine (h.2 _ ?_).1
  rw [List.getD_eq_getElem?_getD, List.getElem?_eq_getElem (by rw [h.1]; exact hk)]
  exact List.getElem_mem _
theorem Zqk {δ : Zh} {a b : FE} {i x y : Nat} {n : Nat} {base : Int} {L : List (List Int)} (h : Dr n base L) (hi : δ[i]? = some (some (.nd (L.map Zba)))) (ha : EvV a δ (.int x)) (hx : x < n) (hb : EvV b δ (.int y)) (hy : y < n) : EvV (Yd gIx (Yd gIx (Jz i) a) b) δ (.int (fnL L x y)) := by
  have e1 : EvV (Jz i) δ (.list (L.map Zg)) := Zf3 hi (by
    rw [OT.data_nd, List.map_map]
    exact congrArg PyData.list (List.map_congr_left fun r _ => Zcr r))
  have e2 : EvV (Yd gIx (Jz i) a) δ (Zg (L.getD x [])) := Zt5 e1 ha (Zx4 (by rw [List.getElem?_map, List.getD_eq_getElem?_getD, List.getElem?_eq_getElem (by rw [h.1]; exact hx)]; rfl))
  exact (Jo e2 hb (by omega) (by rw [h.len hx]; omega)).cast (by rw [show (y : Int).toNat = y by omega]; rfl)
noncomputable def rE (n : Nat) (A B : PyData) (L : List (List Int)) (s : List Int) (w : Int) (z6 z7 : Option OT) : Zh := [some (.fz (.int n)), some (.fz A), some (.fz B), some (.nd (L.map Zba)), some (.fz (Zg s)), some (.fz (.int w)), z6, z7]
noncomputable def Znm : FS := Ww (tV (Zf gNe (Zf (Zm7 false) (Zd 6) (Zd 4)) (Zf (Zm7 false) (Zd 7) (Zd 4))))
    (Zgt 3 (Zf Jp (Yd gIx (Yd gIx (Jz 3) (Zd 6)) (Zd 7)) (Zd 5)) (Zd 6) (Zd 7))
    fNx
structure Up (n : Nat) (L0 : List (List Int)) (s : List Int) (w : Int) (P : Nat → Nat → Prop) (L : List (List Int)) : Prop where
  dr : Dr n B25 L
  yes : ∀ x y, x < n → y < n → P x y → fnL L x y = fnL L0 x y + (if sep s x y = true then w else 0)
  no : ∀ x y, x < n → y < n → ¬ P x y → fnL L x y = fnL L0 x y
theorem Up.mono {n : Nat} {L0 L : List (List Int)} {s : List Int} {w : Int} {P Q : Nat → Nat → Prop} (h : Up n L0 s w P L) (e : ∀ x y, x < n → y < n → (P x y ↔ Q x y)) : Up n L0 s w Q L := ⟨h.dr, fun x y hx hy q => h.yes x y hx hy ((e x y hx hy).mpr q), fun x y hx hy q => h.no x y hx hy fun z => q ((e x y hx hy).mp z)⟩
theorem Zv7 {n : Nat} {A B : PyData} {L0 L : List (List Int)} {s : List Int} {w : Int} {P : Nat → Nat → Prop} {i j : Nat} (hi : i < n) (hj : j < n) (U : Up n L0 s w P L) (np : ¬ P i j) (lo : 0 ≤ fnL L0 i j) (w0 : 0 ≤ w) (hb : fnL L0 i j + w < B25) :
    ∃ L', Znm (rE n A B L s w (some (.fz (.int i))) (some (.fz (.int j)))) = .nx (rE n A B L' s w (some (.fz (.int i))) (some (.fz (.int j)))) ∧ Up n L0 s w (fun x y => P x y ∨ (x = i ∧ y = j)) L' := by
  have t := Za6 (Zy (g := gNe) (δ := rE n A B L s w (some (.fz (.int i))) (some (.fz (.int j)))) (Zy (Za (i := 6) rfl) (Za (i := 4) rfl) (Zd5 false (i : Int) s)) (Zy (Za (i := 7) rfl) (Za (i := 4) rfl) (Zd5 false (j : Int) s)) (Zof _ _))
  have t : EvT _ _ (sep s i j) := t
  cases c : sep s i j with
  | false =>
    rw [c] at t
    refine ⟨L, Z3 t rfl, U.dr, fun x y hx hy q => ?_, fun x y hx hy q => U.no x y hx hy fun z => q (.inl z)⟩
    rcases q with q | ⟨rfl, rfl⟩
    · exact U.yes x y hx hy q
    · rw [U.no x y hx hy np, c, if_neg Bool.false_ne_true, Int.add_zero]
  | true =>
    rw [c] at t
    have f := Zfy (L := L) (a := i) (b := j) (v := fnL L i j + w) (by rw [U.dr.1]; exact hi) (by rw [U.dr.len hi]; exact hj)
    have e := U.no i j hi hj np
    refine ⟨_, W9 t (Zf9 (L := L) (a := i) (b := j) (d := fnL L i j + w) (Yq (Zqk U.dr rfl (Za rfl) hi (Za rfl) hj) (Za rfl)) rfl (Za rfl) (by rw [U.dr.1]; exact hi) (Za rfl) (by rw [U.dr.len hi]; exact hj)), U.dr.put (by rw [e]; omega) (by rw [e]; exact hb) i j, fun x y hx hy q => ?_, fun x y hx hy q => ?_⟩
    · rw [f]
      by_cases z : x = i ∧ y = j
      · obtain ⟨rfl, rfl⟩ := z
        rw [if_pos ⟨rfl, rfl⟩, e, c, if_pos rfl]
      · rw [if_neg z]
        exact U.yes x y hx hy (q.resolve_right z)
    · rw [f, if_neg fun z => q (.inr z)]
      exact U.no x y hx hy fun z => q (.inl z)
theorem Zte {n : Nat} {A B : PyData} {L0 L : List (List Int)} {s : List Int} {w : Int} {i : Nat} {z7 : Option OT} (n10 : n ≤ 10) (hi : i < n) (U : Up n L0 s w (fun x _ => x < i) L) (lo : ∀ x y, x < n → y < n → 0 ≤ fnL L0 x y) (w0 : 0 ≤ w) (hb : ∀ x y, x < n → y < n → fnL L0 x y + w < B25) :
    ∃ L' z7', Za2 (iRa (Zb (Zd 0) Zm)) (gNm 7) Znm (rE n A B L s w (some (.fz (.int i))) z7) = .nx (rE n A B L' s w (some (.fz (.int i))) z7') ∧ Up n L0 s w (fun x _ => x < i + 1) L' := by
  obtain ⟨δ', e, L', z7', rfl, U'⟩ := Zgs (S := Znm) (g := gNm 7) (it := iRa (Zb (Zd 0) Zm)) (δ := rE n A B L s w (some (.fz (.int i))) z7) (ds := Zb3 0 n) (fun j δ => ∃ L' z7', δ = rE n A B L' s w (some (.fz (.int i))) z7' ∧ Up n L0 s w (fun x y => x < i ∨ (x = i ∧ y < j)) L') (Zdx (Zc (Za rfl) Zj) (by omega)) ⟨L, z7, rfl, U.mono fun x y _ _ => by omega⟩ fun j d δ hd q => by
    obtain ⟨L', z7', rfl, U'⟩ := q
    obtain ⟨hj, rfl⟩ := W6 hd
    rw [Int.zero_add]
    obtain ⟨L2, e2, U2⟩ := Zv7 (A := A) (B := B) hi hj U' (by omega) (lo i j hi hj) w0 (hb i j hi hj)
    exact ⟨_, _, rfl, .inl e2, L2, _, rfl, U2.mono fun x y _ _ => by omega⟩
  rw [Wx] at U'
  exact ⟨L', z7', e, U'.mono fun x y _ hy => by omega⟩
theorem Zt1 {n : Nat} {A B : PyData} {L0 : List (List Int)} {s : List Int} {w : Int} {z6 z7 : Option OT} (n10 : n ≤ 10) (D : Dr n B25 L0) (lo : ∀ x y, x < n → y < n → 0 ≤ fnL L0 x y) (w0 : 0 ≤ w) (hb : ∀ x y, x < n → y < n → fnL L0 x y + w < B25) :
    ∃ L' z6' z7', Za2 (iRa (Zb (Zd 0) Zm)) (gNm 6) (Za2 (iRa (Zb (Zd 0) Zm)) (gNm 7) Znm) (rE n A B L0 s w z6 z7) = .nx (rE n A B L' s w z6' z7') ∧ Dr n B25 L' ∧ ∀ x y, x < n → y < n → fnL L' x y = fnL L0 x y + (if sep s x y = true then w else 0) := by
  obtain ⟨δ', e, L', z6', z7', rfl, U'⟩ := Zgs (S := Za2 (iRa (Zb (Zd 0) Zm)) (gNm 7) Znm) (g := gNm 6) (it := iRa (Zb (Zd 0) Zm)) (δ := rE n A B L0 s w z6 z7) (ds := Zb3 0 n) (fun i δ => ∃ L' z6' z7', δ = rE n A B L' s w z6' z7' ∧ Up n L0 s w (fun x _ => x < i) L') (Zdx (Zc (Za rfl) Zj) (by omega)) ⟨L0, z6, z7, rfl, D, fun _ _ _ _ z => absurd z (Nat.not_lt_zero _), fun _ _ _ _ _ => rfl⟩ fun i d δ hd q => by
    obtain ⟨L', z6', z7', rfl, U'⟩ := q
    obtain ⟨hi, rfl⟩ := W6 hd
    rw [Int.zero_add]
    obtain ⟨L2, z, e2, U2⟩ := Zte (A := A) (B := B) (z7 := z7') n10 hi U' lo w0 hb
    exact ⟨_, _, rfl, .inl e2, L2, _, z, rfl, U2⟩
  rw [Wx] at U'
  exact ⟨L', z6', z7', e, U'.dr, fun x y hx hy => U'.yes x y hx hy hx⟩
theorem Zry (s : List Int) (x y : Nat) : sep s x y = sep s y x := by unfold sep; cases decide ((x : Int) ∈ s) <;> cases decide ((y : Int) ∈ s) <;> rfl
theorem Zsd (s : List Int) (x : Nat) : sep s x x = false := by unfold sep; cases decide ((x : Int) ∈ s) <;> rfl
theorem Zs2 {n : Nat} : Dr n B25 ((List.range n).map fun _ => List.replicate n 0) ∧ ∀ x y, x < n → y < n → fnL ((List.range n).map fun _ => List.replicate n 0) x y = 0 := by
  refine ⟨⟨by rw [List.length_map, List.length_range], fun r hr => ?_⟩, fun i j hi hj => ?_⟩
  · obtain ⟨_, _, rfl⟩ := List.mem_map.mp hr
    exact ⟨List.length_replicate, fun x hx => by rw [List.eq_of_mem_replicate hx]; decide⟩
  · unfold fnL
    rw [List.getD_eq_getElem?_getD (l := List.map _ _), List.getElem?_map, List.getElem?_range hi]
    show (List.replicate n (0 : Int)).getD j 0 = 0
    rw [List.getD_eq_getElem?_getD, List.getElem?_replicate, if_pos hj]; rfl
theorem Zqn {n : Nat} (n10 : n ≤ 10) {Ls : List (List Int)} {vs : List Int} (hl : Ls.length ≤ 60) (hv : ∀ v ∈ vs, 0 ≤ v ∧ v < B20) : ∃ L, Yc [.int n, .list (Ls.map Zg), Zg vs] = .ok (.nd (L.map Zba)) ∧ Dr n B25 L ∧ Sy n L ∧ ∀ x y, x < n → y < n → 0 ≤ fnL L x y ∧ fnL L x y ≤ 60 * B20 := by
  obtain ⟨D0, f0⟩ := Zs2 (n := n)
  have s1 : wE (Y7 1 [0] (iRa (Zb (Zd 0) Zm)) (gNm 0) Zet (Zri (fC (.int 0)) (Zd 1))) (Ja 3) (Zbt 8 [.int n, .list (Ls.map Zg), Zg vs]) = .nx [some (.fz (.int n)), some (.fz (.list (Ls.map Zg))), some (.fz (Zg vs)), some (.nd (((List.range n).map fun _ => List.replicate n 0).map Zba)), none, none, none, none] := by
    refine (Za3 (Ziw (cs := [some (.fz (.int n))]) (List.range n) (fun i : Nat => PyData.int (0 + (i : Int))) (fun _ => Zba (List.replicate n 0)) (Zdx (Zc (Za rfl) Zj) (by omega)) (by rw [List.length_range, sizeLine_eq]; omega) rfl fun x _ => ?_)).trans (by rw [List.map_map]; rfl)
    unfold Zba
    rw [List.map_replicate]
    exact Zuk (by omega)
  obtain ⟨δ', e, L, z4, z5, z6, z7, rfl, D, sy, bd⟩ := Zgs (S := Za2 (iRa (Zb (Zd 0) Zm)) (gNm 6) (Za2 (iRa (Zb (Zd 0) Zm)) (gNm 7) Znm)) (g := gTp 2 (gCn (gNm 4) (gCn (gNm 5) gNl))) (it := Zeg (Zb (Zd 1) (Zb (Zd 2) Zm))) (δ := [some (.fz (.int n)), some (.fz (.list (Ls.map Zg))), some (.fz (Zg vs)), some (.nd (((List.range n).map fun _ => List.replicate n 0).map Zba)), none, none, none, none]) (ds := Zin (Ls.map Zg) (vs.map PyData.int)) (fun k δ => ∃ (L : List (List Int)) (z4 z5 z6 z7 : Option OT), δ = [some (.fz (.int n)), some (.fz (.list (Ls.map Zg))), some (.fz (Zg vs)), some (.nd (L.map Zba)), z4, z5, z6, z7] ∧ Dr n B25 L ∧ Sy n L ∧ ∀ x y, x < n → y < n → 0 ≤ fnL L x y ∧ fnL L x y ≤ k * B20) (Zlw (Za rfl) (Za (d := Zg vs) rfl) rfl) ⟨_, _, _, _, _, rfl, D0, fun i j hi hj => ⟨by rw [f0 i j hi hj, f0 j i hj hi], f0 i i hi hi⟩, fun x y hx hy => by rw [f0 x y hx hy]; exact ⟨Int.le_refl _, Int.le_of_eq (by rw [Int.natCast_zero, Int.zero_mul])⟩⟩ fun k d δ hd q => by
    obtain ⟨L, z4, z5, z6, z7, rfl, D, sy, bd⟩ := q
    obtain ⟨a, b, ha, hb, rfl⟩ := Zja hd
    rw [List.getElem?_map] at ha hb
    obtain ⟨s, hs, rfl⟩ := Option.map_eq_some_iff.mp ha
    obtain ⟨w, hw, rfl⟩ := Option.map_eq_some_iff.mp hb
    have k60 : k < 60 := Nat.lt_of_lt_of_le (List.getElem?_eq_some_iff.mp hs).1 hl
    obtain ⟨w0, w1⟩ := hv w (List.mem_of_getElem? hw)
    have kB : (k : Int) * B20 ≤ 60 * B20 := Int.mul_le_mul_of_nonneg_right (by omega) (by decide)
    obtain ⟨L', y6, y7, e, D', f⟩ := Zt1 (A := .list (Ls.map Zg)) (B := Zg vs) (s := s) (z6 := z6) (z7 := z7) n10 D (fun x y hx hy => (bd x y hx hy).1) w0 fun x y hx hy => by
      have := (bd x y hx hy).2
      have : B25 = 100000 * B20 := by decide
      omega
    refine ⟨_, _, rfl, .inl e, L', _, _, y6, y7, rfl, D', fun i j hi hj => ⟨?_, ?_⟩, fun x y hx hy => ?_⟩
    · rw [f i j hi hj, f j i hj hi, Zry, (sy i j hi hj).1]
    · rw [f i i hi hi, Zsd, if_neg Bool.false_ne_true, (sy i i hi hi).2]; rfl
    · have := bd x y hx hy
      rw [f x y hx hy, Int.natCast_succ, Int.add_mul, Int.one_mul]
      split <;> omega
  refine ⟨L, ?_, D, sy, fun x y hx hy => ⟨(bd x y hx hy).1, ?_⟩⟩
  · exact Zrb rfl (Yb s1 (Yb e (Zq3 (i := 3) rfl)))
  · have kl : (Zin (Ls.map Zg) (vs.map PyData.int)).length ≤ 60 := by
      unfold Zin
      rw [List.length_map, List.length_zip, List.length_map]
      exact Nat.le_trans (Nat.min_le_left _ _) hl
    exact Int.le_trans (bd x y hx hy).2 (Int.mul_le_mul_of_nonneg_right (by omega) (by decide))
theorem Zs8 {F : FD} {as : FA} {δ : Zh} {ds : List PyData} {o : OT} (h : EvA as δ ds) (hF : F ds = .ok o) : Zt F as δ = some (o, δ) := by
  obtain ⟨ts, e1, d1⟩ := h
  rw [Zl9, e1, Option.bind_some]
  dsimp only
  rw [d1, hF]; rfl
theorem Zww {e : FE} {δ : Zh} {d : PyData} (h : EvV e δ d) (hf : Zay d = true) : EvV (Zpv e) δ d := by
  obtain ⟨t, e1, d1⟩ := h
  exact ⟨_, by rw [Ztw, e1, Option.bind_some, d1, if_pos hf], OT.data_fz _⟩
noncomputable def B30 : Int := 1000000000000000000000000000000
theorem Dr.wide {n : Nat} {a b : Int} {L : List (List Int)} (h : Dr n a L) (l : a ≤ b) : Dr n b L := ⟨h.1, fun r hr => ⟨(h.2 r hr).1, fun x hx => ⟨((h.2 r hr).2 x hx).1, Int.lt_of_lt_of_le ((h.2 r hr).2 x hx).2 l⟩⟩⟩
theorem Zm3 (L : List (List Int)) : (OT.nd (L.map Zba)).data = .list (L.map Zg) := by
  rw [OT.data_nd, List.map_map]
  exact congrArg PyData.list (List.map_congr_left fun r _ => Zcr r)
theorem Z35 {α : Type} {g : FG} {t : FT} {me : FE} {cs : Zh} (x1 x2 : α → PyData) (p : α → Bool) (f : α → OT) : ∀ (xs : List α) (z0 z1 : Option OT), (∀ x ∈ xs, ∀ z0 z1, g (.tuple [x1 x, x2 x]) (z0 :: z1 :: cs) = some (some (.fz (x1 x)) :: some (.fz (x2 x)) :: cs)) → (∀ x ∈ xs, t (some (.fz (x1 x)) :: some (.fz (x2 x)) :: cs) = some (p x, some (.fz (x1 x)) :: some (.fz (x2 x)) :: cs)) → (∀ x ∈ xs, p x = true → me (some (.fz (x1 x)) :: some (.fz (x2 x)) :: cs) = some (f x, some (.fz (x1 x)) :: some (.fz (x2 x)) :: cs)) →
    ∃ z0' z1', compLoop g t me (xs.map fun x => .tuple [x1 x, x2 x]) (z0 :: z1 :: cs) = some ((xs.filter p).map f, z0' :: z1' :: cs) := by
  intro xs
  induction xs with
  | nil => exact fun z0 z1 _ _ _ => ⟨z0, z1, rfl⟩
  | cons x xs ih =>
    intro z0 z1 hg ht hm
    obtain ⟨y0, y1, e⟩ := ih (some (.fz (x1 x))) (some (.fz (x2 x))) (fun y hy => hg y (.tail _ hy)) (fun y hy => ht y (.tail _ hy)) fun y hy => hm y (.tail _ hy)
    refine ⟨y0, y1, ?_⟩
    rw [List.map_cons, compLoop, hg x (.head _), Option.bind_some, ht x (.head _), Option.bind_some]
    dsimp only
    cases hp : p x with
    | true => rw [if_pos rfl, hm x (.head _) hp, Option.bind_some, List.filter_cons_of_pos hp, List.map_cons]; dsimp only; rw [e]; rfl
    | false => rw [if_neg Bool.false_ne_true, List.filter_cons_of_neg (by rw [hp]; exact Bool.false_ne_true)]; exact e
theorem Zoy {α : Type} {caps : List Nat} {it : FI} {g : FG} {t : FT} {me : FE} {cs δ : Zh} (xs : List α) (x1 x2 : α → PyData) (p : α → Bool) (f : α → OT) (hi : EvI it δ (xs.map fun x => .tuple [x1 x, x2 x])) (hz : xs.length ≤ 1000000) (hb : blk 2 caps δ = none :: none :: cs)
    (hg : ∀ x ∈ xs, ∀ z0 z1, g (.tuple [x1 x, x2 x]) (z0 :: z1 :: cs) = some (some (.fz (x1 x)) :: some (.fz (x2 x)) :: cs)) (ht : ∀ x ∈ xs, t (some (.fz (x1 x)) :: some (.fz (x2 x)) :: cs) = some (p x, some (.fz (x1 x)) :: some (.fz (x2 x)) :: cs)) (hm : ∀ x ∈ xs, p x = true → me (some (.fz (x1 x)) :: some (.fz (x2 x)) :: cs) = some (f x, some (.fz (x1 x)) :: some (.fz (x2 x)) :: cs)) :
    Y7 2 caps it g t me δ = some (.nd ((xs.filter p).map f), δ) := by
  obtain ⟨z0, z1, e⟩ := Z35 x1 x2 p f xs none none hg ht hm
  unfold EvI at hi
  unfold Y7
  rw [hi, Option.bind_some]
  dsimp only
  rw [if_pos (by rw [sizeLine_eq, List.length_map]; omega), hb, e]; rfl
noncomputable def Zqz (L M : List (List Int)) : List (List Int) := (L.zip M).map fun x => (x.1.zip x.2).map fun q => q.1 + q.2
theorem Zmv {α β : Type} (f : α → PyData) (g : β → PyData) (r : List α) (s : List β) : Zin (r.map f) (s.map g) = (r.zip s).map fun q => .tuple [f q.1, g q.2] := by
  unfold Zin
  rw [List.zip_map, List.map_map]; rfl
theorem Zlq {n : Nat} {base : Int} {L : List (List Int)} (h : Dr n base L) {i j : Nat} (hi : i < n) (hj : j < n) : ∃ r, L[i]? = some r ∧ r[j]? = some (fnL L i j) ∧ r.length = n := by
  have l1 : i < L.length := by rw [h.1]; exact hi
  have l2 := (h.2 _ (List.getElem_mem l1)).1
  refine ⟨L[i], List.getElem?_eq_getElem l1, ?_, l2⟩
  unfold fnL
  rw [List.getD_eq_getElem?_getD (l := L), List.getElem?_eq_getElem l1]
  show L[i][j]? = some (L[i].getD j 0)
  rw [List.getD_eq_getElem?_getD, List.getElem?_eq_getElem (by rw [l2]; exact hj)]; rfl
theorem Zlm {n : Nat} {a b : Int} {L M : List (List Int)} (h : Dr n a L) (k : Dr n b M) {i j : Nat} (hi : i < n) (hj : j < n) : fnL (Zqz L M) i j = fnL L i j + fnL M i j := by
  obtain ⟨r, r1, r2, _⟩ := Zlq h hi hj
  obtain ⟨s, s1, s2, _⟩ := Zlq k hi hj
  have e : (Zqz L M)[i]? = some ((r.zip s).map fun q => q.1 + q.2) := by
    unfold Zqz
    rw [List.getElem?_map, (List.getElem?_zip_eq_some (z := (r, s))).mpr ⟨r1, s1⟩]; rfl
  have e2 : ((r.zip s).map fun q => q.1 + q.2)[j]? = some (fnL L i j + fnL M i j) := by
    rw [List.getElem?_map, (List.getElem?_zip_eq_some (z := (fnL L i j, fnL M i j))).mpr ⟨r2, s2⟩]; rfl
  show ((Zqz L M).getD i []).getD j 0 = _
  rw [List.getD_eq_getElem?_getD (l := Zqz L M), e]
  show (List.map _ _).getD j 0 = _
  rw [List.getD_eq_getElem?_getD, e2]; rfl
theorem Dr.sum {n : Nat} {a b : Int} {L M : List (List Int)} (h : Dr n a L) (k : Dr n b M) : Dr n (a + b) (Zqz L M) := by
  refine ⟨?_, fun r hr => ?_⟩
  · unfold Zqz
    rw [List.length_map, List.length_zip, h.1, k.1, Nat.min_self]
  · obtain ⟨⟨x, y⟩, hx, rfl⟩ := List.mem_map.mp hr
    obtain ⟨h1, h2⟩ := List.of_mem_zip hx
    refine ⟨by rw [List.length_map, List.length_zip, (h.2 x h1).1, (k.2 y h2).1, Nat.min_self], fun v hv => ?_⟩
    obtain ⟨⟨p, q⟩, hp, rfl⟩ := List.mem_map.mp hv
    obtain ⟨g1, g2⟩ := List.of_mem_zip hp
    have := (h.2 x h1).2 p g1
    have := (k.2 y h2).2 q g2
    show 0 ≤ p + q ∧ p + q < a + b
    omega
theorem Z02 {n : Nat} {a b : Int} {L M : List (List Int)} (hn : n ≤ 10) (h : Dr n a L) (k : Dr n b M) {δ : Zh} {i j : Nat} (hi : δ[i]? = some (some (.fz (.list (L.map Zg))))) (hj : δ[j]? = some (some (.fz (.list (M.map Zg))))) (hb : blk 2 [] δ = [none, none]) :
    Y7 2 [] (Zeg (Zb (Zd i) (Zb (Zd j) Zm))) (gTp 2 (gCn (gNm 0) (gCn (gNm 1) gNl))) Zet (Y7 2 [] (Zeg (Zb (Zd 0) (Zb (Zd 1) Zm))) (gTp 2 (gCn (gNm 0) (gCn (gNm 1) gNl))) Zet (Zf Jp (Zd 0) (Zd 1))) δ = some (.nd ((Zqz L M).map Zba), δ) := by
  have g : ∀ x y : PyData, ∀ z0 z1 : Option OT, gTp 2 (gCn (gNm 0) (gCn (gNm 1) gNl)) (.tuple [x, y]) [z0, z1] = some [some (.fz x), some (.fz y)] := fun _ _ _ _ => rfl
  have lz : (L.zip M).length ≤ 10 := by rw [List.length_zip, h.1]; omega
  refine (Zoy (cs := []) (L.zip M) (fun x => Zg x.1) (fun x => Zg x.2) (fun _ => true) (fun x => Zba ((x.1.zip x.2).map fun q => q.1 + q.2)) ?_ (by omega) hb (fun x _ z0 z1 => g _ _ _ _) (fun x _ => rfl) fun x hx _ => ?_).trans ?_
  · rw [← Zmv]
    exact Zlw (Za hi) (Za hj) rfl
  · obtain ⟨h1, _⟩ := List.of_mem_zip hx
    have lx : (x.1.zip x.2).length ≤ 10 := by rw [List.length_zip, (h.2 _ h1).1]; omega
    refine (Zoy (cs := []) (x.1.zip x.2) (fun q => .int q.1) (fun q => .int q.2) (fun _ => true) (fun q => .fz (.int (q.1 + q.2))) ?_ (by omega) rfl (fun q _ z0 z1 => g _ _ _ _) (fun q _ => rfl) fun q _ _ => ?_).trans ?_
    · rw [← Zmv]
      exact Zlw (Za (d := Zg x.1) rfl) (Za (d := Zg x.2) rfl) rfl
    · obtain ⟨t, e, d⟩ := Yq (Za (δ := [some (.fz (.int q.1)), some (.fz (.int q.2))]) (i := 0) (d := .int q.1) rfl) (Za (i := 1) (d := .int q.2) rfl)
      rw [e, Zfl d]
    · rw [List.filter_eq_self.mpr fun _ _ => rfl]
      unfold Zba
      rw [List.map_map]; rfl
  · rw [List.filter_eq_self.mpr fun _ _ => rfl]
    unfold Zqz
    rw [List.map_map]; rfl
noncomputable def GoodR (n : Nat) (d : PyData) : Prop := ∃ L, d = (OT.nd (L.map Zba)).data ∧ Dr n B30 L ∧ Sy n L
noncomputable def bE (ns : List Int) (n : Nat) (c w : Int) (o5 o6 o7 o8 o9 oa : Option OT) : Zh := [some (.fz (Zg ns)), some (.fz (.int 3)), some (.fz (.int n)), some (.fz (.int c)), some (.fz (.int w)), o5, o6, o7, o8, o9, oa]
theorem Zjz (ns : List Int) {n : Nat} (h3 : 3 ≤ n) (hn : n ≤ 10) (c x : Int) (st : Nat) : ∃ (Ls : List (List Int)) (vs : List Int) (L : List (List Int)), Told Z2 [.int x, .int n] (.list (Ls.map Zg)) ∧ Told Ye [Zg ns, .int st, .int Ls.length, .int c] (Zg vs) ∧ Yc [.int n, .list (Ls.map Zg), Zg vs] = .ok (.nd (L.map Zba)) ∧ Dr n B25 L ∧ Sy n L := by
  obtain ⟨Ls, T1, l1⟩ := Zlu x h3 hn
  obtain ⟨vs, T2, _, hv⟩ := Zng ns st Ls.length c (by omega)
  obtain ⟨L, e, D, sy, _⟩ := Zqn hn (Ls := Ls) (by omega) hv
  exact ⟨Ls, vs, L, T1, T2, e, D, sy⟩
theorem Sy.sum {n : Nat} {a b : Int} {L M : List (List Int)} (h : Dr n a L) (k : Dr n b M) (s : Sy n L) (t : Sy n M) : Sy n (Zqz L M) := fun i j hi hj => by
  rw [Zlm h k hi hj, Zlm h k hj hi, Zlm h k hi hi, (s i j hi hj).1, (t i j hi hj).1, (s i i hi hi).2, (t i i hi hi).2]
  exact ⟨rfl, rfl⟩
theorem Sy.two {n : Nat} {base v : Int} {L : List (List Int)} (D : Dr n base L) (s : Sy n L) (h0 : 0 ≤ v) (h1 : v < base) {i j : Nat} (hi : i < n) (hj : j < n) (ne : i ≠ j) : Dr n base ((L.set i ((L.getD i []).set j v)).set j (((L.set i ((L.getD i []).set j v)).getD j []).set i v)) ∧ Sy n ((L.set i ((L.getD i []).set j v)).set j (((L.set i ((L.getD i []).set j v)).getD j []).set i v)) ∧ fnL (L.set i ((L.getD i []).set j v)) i j = v := by
  have D1 := D.put h0 h1 i j
  have f1 := Zfy (L := L) (a := i) (b := j) (v := v) (by rw [D.1]; exact hi) (by rw [D.len hi]; exact hj)
  have f2 := Zfy (L := L.set i ((L.getD i []).set j v)) (a := j) (b := i) (v := v) (by rw [D1.1]; exact hj) (by rw [D1.len hj]; exact hi)
  refine ⟨D1.put h0 h1 j i, fun x y hx hy => ?_, by rw [f1, if_pos ⟨rfl, rfl⟩]⟩
  rw [f2, f2, f2, f1, f1, f1]
  obtain ⟨s1, s2⟩ := s x y hx hy
  refine ⟨?_, by rw [if_neg (by omega), if_neg (by omega)]; exact s2⟩
  by_cases c1 : x = j ∧ y = i
  · rw [if_pos c1, if_neg (by omega), if_pos ⟨c1.2, c1.1⟩]
  · rw [if_neg c1]
    by_cases c2 : x = i ∧ y = j
    · rw [if_pos c2, if_pos ⟨c2.2, c2.1⟩]
    · rw [if_neg c2, if_neg (by omega), if_neg (by omega)]; exact s1
noncomputable def Z8u : FS := Ww (tO (tV (Zf gEq (Zd 4) (fC (.int 1)))) (tV (Zf gEq (Zd 4) (fC (.int 3)))))
    (Zu (wE (Zf Zal (Zt Zr (Zb (Zd 3) (Zb (fC (.int 41)) Zm))) (Zd 2)) (Yh 8))
    (Zu (wE (Zf Zal (Zt Zr (Zb (Zd 3) (Zb (fC (.int 42)) Zm))) (Zd 2)) (Yh 9))
    (Zu (wE (Yd gIx (Zbe (Zb (fC (.int 1)) (Zb (Zf Ze2 (fC (.int 2)) (Zd 4)) (Zb (Zf Zmn (fC (.int 10)) (fC (.int 21))) Zm)))) (Zf Zal (Zt Zr (Zb (Zd 3) (Zb (fC (.int 43)) Zm))) (fC (.int 3)))) (Yh 10))
    (Ww (tV (Zf gNe (Zd 8) (Zd 9)))
    (Zu (Zgt 6 (Zau Z0b (Zb (fC (.int 0)) (Zb (Zf Jp (Yd gIx (Yd gIx (Jz 6) (Zd 8)) (Zd 9)) (Zf Ze2 (Zf gSb (fC (.int 2)) (Zd 4)) (Zd 10))) Zm))) (Zd 8) (Zd 9))
    (Zgt 6 (Zpv (Yd gIx (Yd gIx (Jz 6) (Zd 8)) (Zd 9))) (Zd 9) (Zd 8)))
    fNx))))
    fNx
theorem Z8q : Zmn (.int 10) (.int 21) = some (.int 1000000000000000000000) := rfl
theorem Zzq {ns : List Int} {n : Nat} (n1 : 1 ≤ n) {c w : Int} (w0 : 0 ≤ w) (w5 : w < 5) {o5 o7 o8 o9 oa : Option OT} {L : List (List Int)} (D : Dr n (2 * B25) L) (sy : Sy n L) :
    ∃ L' o8' o9' oa', Z8u (bE ns n c w o5 (some (.nd (L.map Zba))) o7 o8 o9 oa) = .nx (bE ns n c w o5 (some (.nd (L'.map Zba))) o7 o8' o9' oa') ∧ Dr n B30 L' ∧ Sy n L' := by
  have wide : (2 * B25) ≤ B30 := by decide
  obtain ⟨b, T⟩ : ∃ b, EvT (tO (tV (Zf gEq (Zd 4) (fC (.int 1)))) (tV (Zf gEq (Zd 4) (fC (.int 3))))) (bE ns n c w o5 (some (.nd (L.map Zba))) o7 o8 o9 oa) b := by
    have t1 := Za6 (Zfd (δ := bE ns n c w o5 (some (.nd (L.map Zba))) o7 o8 o9 oa) (Za (i := 4) (d := .int w) rfl) (Z0 (d := .int 1)) rfl)
    have t2 := Za6 (Zfd (δ := bE ns n c w o5 (some (.nd (L.map Zba))) o7 o8 o9 oa) (Za (i := 4) (d := .int w) rfl) (Z0 (d := .int 3)) rfl)
    cases e : decide (w = 1) with
    | true => rw [e] at t1; exact ⟨_, Z09 t1⟩
    | false => rw [e] at t1; exact ⟨_, Z51 t1 t2⟩
  cases b with
  | false => exact ⟨L, _, _, _, Z3 T rfl, D.wide wide, sy⟩
  | true =>
    obtain ⟨v1, T1⟩ := Zc6 c 41
    obtain ⟨v2, T2⟩ := Zc6 c 42
    obtain ⟨v3, T3⟩ := Zc6 c 43
    obtain ⟨i, ei, li⟩ := Zcf v1 (n := n) n1
    obtain ⟨j, ej, lj⟩ := Zcf v2 (n := n) n1
    obtain ⟨d, eb, hd⟩ := ix3 (x := .int 1) (y := .int (2 * w)) (z := .int 1000000000000000000000) (v := v3.fmod 3) (Zak (by decide)) (Zad (by decide))
    obtain ⟨b, rfl, b0, b1⟩ : ∃ b : Int, d = .int b ∧ 0 ≤ b ∧ b ≤ 1000000000000000000000 := by
      rcases hd with h | h | h <;> exact ⟨_, h, by omega, by omega⟩
    have n0 : (n : Int) ≠ 0 := by omega
    have s1 : ∀ {S : FS} {R : RS}, S (bE ns n c w o5 (some (.nd (L.map Zba))) o7 (some (.fz (.int i))) (some (.fz (.int j))) (some (.fz (.int b)))) = R → Zu _ (Zu _ (Zu _ S)) (bE ns n c w o5 (some (.nd (L.map Zba))) o7 o8 o9 oa) = R := fun h =>
      Yb (δ' := bE ns n c w o5 (some (.nd (L.map Zba))) o7 (some (.fz (.int i))) o9 oa) ((Zn (d := .int i) ((Wb (Zq (Zc (Za (i := 3) rfl) (Zc (Z0 (d := .int 41)) Zj)) T1) (Za (i := 2) rfl) n0).cast (congrArg PyData.int ei)) (i := 8)).trans rfl) <|
      Yb (δ' := bE ns n c w o5 (some (.nd (L.map Zba))) o7 (some (.fz (.int i))) (some (.fz (.int j))) oa) ((Zn (d := .int j) ((Wb (Zq (Zc (Za (i := 3) rfl) (Zc (Z0 (d := .int 42)) Zj)) T2) (Za (i := 2) rfl) n0).cast (congrArg PyData.int ej)) (i := 9)).trans rfl) <|
      Yb (δ' := bE ns n c w o5 (some (.nd (L.map Zba))) o7 (some (.fz (.int i))) (some (.fz (.int j))) (some (.fz (.int b)))) ((Zn (d := .int b) (Zaf (Zgr (Zc (Z0 (d := .int 1)) (Zc (Zbj (Z0 (d := .int 2)) (Za (i := 4) rfl) (by decide)) (Zc (Zy (Z0 (d := .int 10)) (Z0 (d := .int 21)) Z8q) Zj))) (show 3 ≤ 1000 by decide)) (Wb (Zq (Zc (Za (i := 3) rfl) (Zc (Z0 (d := .int 43)) Zj)) T3) (Z0 (d := .int 3)) (by decide)) eb) (i := 10)).trans rfl) h
    by_cases ne : i = j
    · exact ⟨L, _, _, _, W9 T (s1 (Z3 (Za6 (Zq0 (Za (i := 8) (d := .int i) rfl) (Za (i := 9) (d := .int j) rfl) (by rw [decide_eq_true (congrArg Nat.cast ne)]; rfl))) rfl)), D.wide wide, sy⟩
    · obtain ⟨v, hv⟩ : ∃ v : Int, v = if fnL L i j + (2 - w) * b > 0 then fnL L i j + (2 - w) * b else 0 := ⟨_, rfl⟩
      have D' := D.wide wide
      obtain ⟨r, r1, r2, _⟩ := Zlq D li lj
      have fb := (D.2 r (List.mem_of_getElem? r1)).2 _ (List.mem_of_getElem? r2)
      have mb : (2 - w) * b ≤ 2 * 1000000000000000000000 := Int.le_trans (Int.mul_le_mul_of_nonneg_right (show 2 - w ≤ 2 by omega) b0) (Int.mul_le_mul_of_nonneg_left b1 (by decide))
      have v0 : 0 ≤ v := by rw [hv]; split <;> omega
      have v1' : v < B30 := by
        have : (2 * B25) + 2 * 1000000000000000000000 < B30 := by decide
        have : 0 < B30 := by decide
        rw [hv]; split <;> omega
      obtain ⟨D2, sy2, fv⟩ := Sy.two D' sy v0 v1' li lj ne
      have D1 := D'.put v0 v1' i j
      refine ⟨_, _, _, _, W9 T (s1 (W9 (Za6 (Zq0 (Za (i := 8) (d := .int i) rfl) (Za (i := 9) (d := .int j) rfl) (by rw [decide_eq_false (show ¬ (i : Int) = j from fun z => ne (Int.ofNat.inj z))]; rfl))) (Yb (δ' := bE ns n c w o5 (some (.nd ((L.set i ((L.getD i []).set j v)).map Zba))) o7 (some (.fz (.int i))) (some (.fz (.int j))) (some (.fz (.int b)))) ((Zf9 (L := L) (a := i) (b := j) (d := v) ?_ rfl (Za rfl) (by rw [D.1]; exact li) (Za rfl) (by rw [D.len li]; exact lj)).trans rfl) ((Zf9 (L := L.set i ((L.getD i []).set j v)) (a := j) (b := i) (d := v) (Zww ((Zqk D1 rfl (Za rfl) li (Za rfl) lj).cast (by rw [fv])) (by rw [Zay])) rfl (Za rfl) (by rw [D1.1]; exact lj) (Za rfl) (by rw [D1.len lj]; exact li)).trans rfl)))), D2, sy2⟩
      rw [hv]
      exact Zbw (Zc Z0 (Zc (Yq (Zqk D rfl (Za rfl) li (Za rfl) lj) (Zy (Za7 Z0 (Za rfl)) (Za rfl) (Zkr (Zub (by omega))))) Zj)) (Zzt _ _)
theorem Zrr (ns : List Int) {n : Nat} (h3 : 3 ≤ n) (hn : n ≤ 10) (c : Int) : ∃ d, Told Jt [Zg ns, .int 3, .int n, .int c] d ∧ GoodR n d := by
  obtain ⟨w, hw⟩ : ∃ w, w = (c.fdiv 12).fmod 5 := ⟨_, rfl⟩
  have w0 : 0 ≤ w := hw ▸ Zak (by decide)
  have w5 : w < 5 := hw ▸ Zad (by decide)
  have s1 : wE (Zf Zal (Zf Jc (Zd 3) (fC (.int 12))) (fC (.int 5))) (Yh 4) (Zbt 11 [Zg ns, .int 3, .int n, .int c]) = .nx (bE ns n c w none none none none none none) := (Zn (d := .int w) (hw ▸ Wb (Jh Za Z0) Z0 (by decide))).trans rfl
  by_cases w4 : w = 4
  · obtain ⟨d, e, hd⟩ := ix4 (x := .int 2) (y := .int 3) (z := .int 5) (w := .int B20) (v := (c.fdiv 60).fmod 4) (Zak (by decide)) (Zad (by decide))
    obtain ⟨b, rfl, b0, b1⟩ : ∃ b : Int, d = .int b ∧ 0 < b ∧ b ≤ B20 := by
      unfold B20 at hd ⊢
      rcases hd with h | h | h | h <;> exact ⟨_, h, by decide, by decide⟩
    obtain ⟨L, T, D, sy⟩ := Zs7 ns n hn b0 c
    exact Zif rfl <| Wo s1 <| Zsr (Zxf (Za6 (Zfd (Za rfl) Z0 (decide_eq_true w4))) (Zm2 (Zq (Zc (Za rfl) (Zc (Za rfl) (Zc (Za rfl) (Zc (Zaf (Zgr (Zc Z0 (Zc Z0 (Zc Z0 (Zc (Zy Z0 Z0 Z6m) Zj)))) (show 4 ≤ 1000 by decide)) (Wb (Jh (Za rfl) Z0) Z0 (by decide)) e) (Zc (Za rfl) Zj))))) T) ⟨L, rfl, D.wide (Int.le_trans b1 (by decide)), sy⟩))
  obtain ⟨Ls, vs, L, T1, T2, e1, D1, sy1⟩ := Zjz ns h3 hn c (c.fdiv 60) 3
  have len : ∀ {δ : Zh} {Ls : List (List Int)}, δ[5]? = some (some (.fz (.list (Ls.map Zg)))) → EvV (Zau Zam (Zb (Zd 5) Zm)) δ (.int Ls.length) := fun h => (Zl7 (Za h)).cast (by rw [List.length_map])
  refine Zif rfl <| Wo s1 <| Wo (Z3 (Za6 (Zfd (Za rfl) Z0 (decide_eq_false w4))) rfl) <| Wo (Zn (Zq (Zc (Jh (Za rfl) Z0) (Zc (Za rfl) Zj)) T1)) <|
    Wo (δ' := bE ns n c w (some (.fz (.list (Ls.map Zg)))) (some (.nd (L.map Zba))) none none none none) ((Za3 (Zs8 (Zc (Za rfl) (Zc (Za rfl) (Zc (Zq (Zc (Za rfl) (Zc (Za rfl) (Zc (len rfl) (Zc (Za rfl) Zj)))) T2) Zj))) e1)).trans rfl) ?_
  obtain ⟨L2, o5, o7, D2, sy2, s2⟩ : ∃ L2 o5 o7, Dr n (2 * B25) L2 ∧ Sy n L2 ∧ (Ww (tV (Zf gEq (Zd 4) (fC (.int 2))))
    (Zu (wE (Zt Z2 (Zb (Zt Zr (Zb (Zd 3) (Zb (fC (.int 40)) Zm))) (Zb (Zd 2) Zm))) (Yh 5))
    (Zu (wE (Zt Yc (Zb (Zd 2) (Zb (Zd 5) (Zb (Zt Ye (Zb (Zd 0) (Zb (Zf Jp (Zd 1) (fC (.int 9))) (Zb (Zau Zam (Zb (Zd 5) Zm)) (Zb (Zd 3) Zm))))) Zm)))) (Yh 7))
    (Zbh 6 (wE (Y7 2 [] (Zeg (Zb (Zd 6) (Zb (Zd 7) Zm))) (gTp 2 (gCn (gNm 0) (gCn (gNm 1) gNl))) Zet (Y7 2 [] (Zeg (Zb (Zd 0) (Zb (Zd 1) Zm))) (gTp 2 (gCn (gNm 0) (gCn (gNm 1) gNl))) Zet (Zf Jp (Zd 0) (Zd 1)))) (Ja 6)))))
    fNx) (bE ns n c w (some (.fz (.list (Ls.map Zg)))) (some (.nd (L.map Zba))) none none none none) = .nx (bE ns n c w o5 (some (.nd (L2.map Zba))) o7 none none none) := by
    by_cases w2 : w = 2
    · obtain ⟨x, Tx⟩ := Zc6 c 40
      obtain ⟨Ms, us, M, U1, U2, e2, E1, ty⟩ := Zjz ns h3 hn c x 12
      refine ⟨Zqz L M, some (.fz (.list (Ms.map Zg))), some (.fz (.list (M.map Zg))), (D1.sum E1).wide (Int.le_of_eq (by omega)), sy1.sum D1 E1 ty, W9 (Za6 (Zfd (Za rfl) Z0 (decide_eq_true w2))) <| Yb (Zn (Zq (Zc (Zq (Zc (Za rfl) (Zc Z0 Zj)) Tx) (Zc (Za rfl) Zj)) U1)) <| Yb (Zn (d := .list (M.map Zg)) (Zq (Zc (Za rfl) (Zc (Za rfl) (Zc (Zq (Zc (Za rfl) (Zc ((Yq (Za rfl) Z0).cast (show PyData.int (3 + 9) = _ from rfl)) (Zc (len rfl) (Zc (Za rfl) Zj)))) U2) Zj))) ⟨_, e2, Zm3 M⟩)) <| Zfq (o := .nd (L.map Zba)) rfl ?_⟩
      rw [Zm3]
      exact (Za3 (Z02 hn D1 E1 (i := 6) (j := 7) rfl rfl rfl)).trans rfl
    · exact ⟨L, _, _, D1.wide (by decide), sy1, Z3 (Za6 (Zfd (Za rfl) Z0 (decide_eq_false w2))) rfl⟩
  obtain ⟨L3, o8, o9, oa, s3, D3, sy3⟩ := Zzq (ns := ns) (c := c) (o5 := o5) (o7 := o7) (o8 := none) (o9 := none) (oa := none) (by omega : 1 ≤ n) w0 w5 D2 sy2
  exact Wo s2 <| Wo s3 <| Zz8 rfl ⟨L3, rfl, D3, sy3⟩
theorem Zrd : ∀ m ≤ 10, (Jw m).length ≤ 60 := by decide
theorem Ztl {n : Nat} {r : List Int} (hr : r.length = n) (hn : n ≤ 10) : ∃ Ls : List (List Int), Told Ws [Zg r] (.list (Ls.map Zg)) ∧ Ls.length ≤ 60 := by
  refine ⟨(Jw n).map fun q => Zd2 (sd r q), Yi rfl (Y8 ⟨_, Zoy (cs := [some (.fz (Zg r))]) (Jw n) (fun q => .int (q.1 : Int)) (fun q => .int (q.2 : Int)) (fun _ => true) (fun q => .nd (((Zd2 (sd r q)).map PyData.int).map OT.fz)) (Zb2 (Zq (Zc ((Yt Za).cast (by rw [hr])) Zj) (Zod n (by omega)))) (Nat.le_trans (Zrd n hn) (by decide)) rfl (fun q _ z0 z1 => rfl) (fun q _ => rfl) fun q hq _ => ?_, ?_⟩), by rw [List.length_map]; exact Zrd n hn⟩
  · obtain ⟨l1, l2⟩ := Zcs hq
    have ls : (sd r q).length < 64 := by
      unfold sd
      rw [List.length_take, List.length_drop]; omega
    obtain ⟨ts, e1, d1⟩ := Zc (Zs1 (e := Zd 2) (δ := [some (.fz (.int (q.1 : Int))), some (.fz (.int (q.2 : Int))), some (.fz (Zg r))]) (r := r) Za (Zzo (Yq (Za (i := 0) (d := .int (q.1 : Int)) rfl) (Z0 (d := .int 1)))) (Zzo (Yq (Za (i := 1) (d := .int (q.2 : Int)) rfl) (Z0 (d := .int 1)))) (Zz6 l1 (by omega))) Zj
    rw [Zt3, e1, Option.bind_some]
    dsimp only
    rw [d1, Zhc ls]; rfl
  · rw [List.filter_eq_self.mpr fun _ _ => rfl, OT.data_nd, List.map_map, List.map_map]
    exact congrArg PyData.list (List.map_congr_left fun q _ => Zlr _)
theorem Zjg {n : Nat} (hn : n ≤ 10) (R : Nat → Nat → Int) {b : Int} (hb : 0 < b) (bb : Bt 300 b) : Told Jr [Wq n R, .int b] (tbD (Zew n R b)) := by
  have e : tbD (Zew n R b) = .list ((List.range n).map fun i => .list ((List.range n).map fun j => frD (Rat.divInt (R i j) b))) := by
    unfold tbD Zew
    rw [List.map_map]
    refine congrArg PyData.list (List.map_congr_left fun i _ => ?_)
    show Zg0 _ = _
    unfold Zg0
    rw [List.map_map]; rfl
  rw [e]
  exact Yi rfl <| Y8 <| Zdc (cs := [some (.fz (.int b))]) (List.range n) (fun i => Zu6 n (R i)) (fun i => .list ((List.range n).map fun j => frD (Rat.divInt (R i j) b))) (Zb2 Za) (by rw [List.length_range]; omega) rfl fun i _ =>
    Zdc (cs := [some (.fz (.int b))]) (List.range n) (fun j => .int (R i j)) (fun j => frD (Rat.divInt (R i j) b)) (Zb2 Za) (by rw [List.length_range]; omega) rfl fun j _ => Zq (Zc Za (Zc Za Zj)) (Znx hb bb)
structure Rw (n : Nat) (R : Nat → Nat → Int) : Prop where
  sy : ∀ i j, i < n → j < n → R i j = R j i ∧ R i i = 0
  bt : ∀ i j, i < n → j < n → Bt 300 (R i j)
theorem GoodR.rows {n : Nat} {d : PyData} (h : GoodR n d) : ∃ R, d = Wq n R ∧ Rw n R := by
  obtain ⟨L, rfl, D, sy⟩ := h
  obtain ⟨e, f⟩ := Zxw D
  refine ⟨fnL L, by rw [OT.data_nd, e], sy, fun i j hi hj => ?_⟩
  have := f i j hi hj
  refine Bt.of_lt ?_ ?_
  · have : (0 : Int) < 2 ^ 300 := by decide +kernel
    omega
  · have : B30 < 2 ^ 300 := by decide +kernel
    omega
theorem Zy8 : ∀ {a b c : List Int}, ltI a b = true → ltI b c = true → ltI a c = true := by
  intro a
  induction a with
  | nil =>
    intro b c h1 h2
    cases b with
    | nil => cases h1
    | cons y b => cases c with
      | nil => cases h2
      | cons z c => rfl
  | cons x a ih =>
    intro b c h1 h2
    cases b with
    | nil => cases h1
    | cons y b => cases c with
      | nil => cases h2
      | cons z c =>
        unfold ltI at h1 h2 ⊢
        by_cases e1 : x = y
        · subst e1
          rw [if_pos rfl] at h1
          by_cases e2 : x = z
          · rw [if_pos e2] at h2 ⊢; exact ih h1 h2
          · rw [if_neg e2] at h2 ⊢; exact h2
        · rw [if_neg e1] at h1
          have l1 := of_decide_eq_true h1
          by_cases e2 : y = z
          · subst e2
            rw [if_neg e1]; exact h1
          · rw [if_neg e2] at h2
            have l2 := of_decide_eq_true h2
            rw [if_neg (by omega)]
            exact decide_eq_true (by omega)
theorem Zwb : ∀ a : List Int, ltI a a = false := by
  intro a
  induction a with
  | nil => rfl
  | cons x a ih => unfold ltI; rw [if_pos rfl]; exact ih
theorem Zi4 {α : Type} {g : FG} {u : FS} (mk : α → PyData) (P : α → Bool) (I : List α → Zh → Prop) (W : α → OT → Prop) (all : List α) (t : ∀ x done rest, done ++ x :: rest = all → ∀ δ, I done δ → ∃ δ1, g (mk x) δ = some δ1 ∧ (P x = false → ∃ δ2, u δ1 = .nx δ2 ∧ I (done ++ [x]) δ2) ∧ (P x = true → ∃ o δ', u δ1 = .rt o δ' ∧ W x o)) : ∀ (xs done : List α), done ++ xs = all → ∀ (δ : Zh), I done δ →
    (xs.find? P = none → ∃ δ2, forLoop g u (xs.map mk) δ = .nx δ2 ∧ I all δ2) ∧ ∀ x, xs.find? P = some x → ∃ o δ', forLoop g u (xs.map mk) δ = .rt o δ' ∧ W x o := by
  intro xs
  induction xs with
  | nil => exact fun done e δ h => ⟨fun _ => ⟨δ, rfl, by rw [List.append_nil] at e; exact e ▸ h⟩, fun x z => nomatch z⟩
  | cons x xs ih =>
    intro done ea δ h
    obtain ⟨δ1, e1, a, b⟩ := t x done xs ea δ h
    cases c : P x with
    | true =>
      rw [List.find?_cons_of_pos c]
      refine ⟨fun z => (nomatch z), fun y hy => ?_⟩
      cases hy
      obtain ⟨o, δ2, e2, d⟩ := b c
      refine ⟨o, δ2, ?_, d⟩
      rw [List.map_cons, forLoop, e1]
      dsimp only
      rw [e2]
    | false =>
      rw [List.find?_cons_of_neg (by rw [c]; exact Bool.false_ne_true)]
      obtain ⟨δ2, e2, h2⟩ := a c
      have e : forLoop g u ((x :: xs).map mk) δ = forLoop g u (xs.map mk) δ2 := by
        rw [List.map_cons, forLoop, e1]
        dsimp only
        rw [e2]
      have := ih (done ++ [x]) (by rw [List.append_assoc]; exact ea) δ2 h2
      rw [e]
      exact this
noncomputable def tq (n : Nat) (R : Nat → Nat → Int) (p : List Int) (q : Nat × Nat) : Int := twP n (fun u v => R (pn p u) (pn p v)) q.1 q.2
noncomputable def Zjc (n : Nat) (R : Nat → Nat → Int) (p : List Int) : Option (Nat × Nat) := (Jw n).find? fun q => decide (tq n R p q < 0)
noncomputable def twS (n : Nat) (S : Nat → Nat → Int) (p : List Int) (a b : Nat) : Int := tw S (pn p a) (pn p (a + 1)) (pn p b) (pn p ((b + 1) % n))
noncomputable def Ent (n : Nat) (p : List Int) : Prop := ∀ x ∈ p, 0 ≤ x ∧ x < (n : Int)
theorem Ent.at {n : Nat} {p : List Int} (h : Ent n p) {i : Nat} (hi : i < p.length) : gIx (Zg p) (.int (i : Int)) = some (.fz (.int (pn p i : Nat))) ∧ pn p i < n := by
  obtain ⟨a, b⟩ := h _ (getD_mem hi)
  rw [Zd4 (by omega) (by omega), Int.toNat_natCast]
  unfold pn
  rw [Int.toNat_of_nonneg a]
  exact ⟨rfl, by omega⟩
theorem Zvl {n a b : Nat} {S : Nat → Nat → Int} {p : List Int} (h : Ent n p) (hab : a < b) (hb : b < p.length) (hc : (b + 1) % n < p.length) (hn : 0 < n) : Told Yo [Wq n S, Zg p, .int a, .int b] (.int (twS n S p a b)) := by
  obtain ⟨e1, l1⟩ := h.at (i := a) (by omega)
  obtain ⟨e2, l2⟩ := h.at (i := a + 1) (by omega)
  obtain ⟨e3, l3⟩ := h.at hb
  obtain ⟨e4, l4⟩ := h.at hc
  exact Yi rfl <| Zw (Zn (Zaf Za Za e1)) <| Zw (Zn (Zaf Za (Yq Za Z0) e2)) <| Zw (Zn (Zaf Za Za e3)) <|
    Zw (Zn (Zaf Za (Zy (Yq Za Z0) (Zbw (Zc Za Zj) (Zds n S)) (Zsb hn)) e4)) <|
    Y8 (Za7 (Za7 (Yq (Ze1 l1 l3 rfl rfl rfl) (Ze1 l2 l4 rfl rfl rfl)) (Ze1 l1 l4 rfl rfl rfl)) (Ze1 l2 l3 rfl rfl rfl))
noncomputable def fits (n : Nat) (S : Nat → Nat → Int) (p : List Int) (b : Nat) : Bool := ((List.range b).find? fun a => decide (twS n S p a b < 0)).isNone
theorem Zfg {n : Nat} {S : Nat → Nat → Int} {p : List Int} {b : Nat} : fits n S p b = true ↔ ∀ a < b, 0 ≤ twS n S p a b := by
  unfold fits
  rw [Option.isNone_iff_eq_none, List.find?_eq_none]
  exact ⟨fun h a ha => Int.not_lt.mp fun z => h a (List.mem_range.mpr ha) (decide_eq_true z), fun h a ha z => Int.not_lt.mpr (h a (List.mem_range.mp ha)) (of_decide_eq_true z)⟩
theorem Zp5 {n b : Nat} {S : Nat → Nat → Int} {p : List Int} (h : Ent n p) (hb : b < p.length) (hc : (b + 1) % n < p.length) (hn : 0 < n) (b10 : b ≤ 100) : Told Z9 [Wq n S, Zg p, .int b] (.bool (fits n S p b)) := by
  have key := Zi4 (g := gNm 3) (u := Ww (tV (Zf gLt (Zt Yo (Zb (Zd 0) (Zb (Zd 1) (Zb (Zd 3) (Zb (Zd 2) Zm))))) (fC (.int 0)))) (wE (fC (.bool false)) Jj) fNx) (fun a : Nat => PyData.int (0 + (a : Int))) (fun a => decide (twS n S p a b < 0)) (fun _ δ => ∃ z, δ = [some (.fz (Wq n S)), some (.fz (Zg p)), some (.fz (.int b)), z]) (fun _ o => o.data = .bool false) (List.range b) (fun a done rest ea δ hI => ?_) (List.range b) [] rfl [some (.fz (Wq n S)), some (.fz (Zg p)), some (.fz (.int b)), none] ⟨_, rfl⟩
  · have hi : EvI (iRa (Zb (Zd 2) Zm)) [some (.fz (Wq n S)), some (.fz (Zg p)), some (.fz (.int b)), none] ((List.range b).map fun a : Nat => PyData.int (0 + (a : Int))) := Zdx (n := b) (Zc (Za rfl) Zj) (by omega)
    unfold fits
    cases c : (List.range b).find? fun a => decide (twS n S p a b < 0) with
    | none =>
      obtain ⟨δ', e, z, rfl⟩ := key.1 c
      exact Yi rfl (Zw (Zc4 hi e) (Y8 Z0))
    | some a =>
      obtain ⟨o, δ', e, d⟩ := key.2 a c
      exact Yi rfl (Zbm ⟨o, δ', Zc4 hi e, d⟩)
  · obtain ⟨z, rfl⟩ := hI
    have ha : a < b := List.mem_range.mp (by rw [← ea]; exact List.mem_append_right _ (.head _))
    have ev : EvV (Zt Yo (Zb (Zd 0) (Zb (Zd 1) (Zb (Zd 3) (Zb (Zd 2) Zm))))) [some (.fz (Wq n S)), some (.fz (Zg p)), some (.fz (.int b)), some (.fz (.int (0 + (a : Int))))] (.int (twS n S p a b)) := Zq (Zc (Za rfl) (Zc (Za rfl) (Zc ((Za (d := .int (0 + (a : Int))) rfl).cast (by rw [Int.zero_add])) (Zc (Za rfl) Zj)))) (Zvl h ha hb hc hn)
    exact ⟨_, rfl, fun c => ⟨_, Z3 (Za6 (Zes ev Z0 c)) rfl, _, rfl⟩, fun c => Zdp (Za6 (Zes ev Z0 c)) (Y8 Z0)⟩
structure OKr (n : Nat) (S : Nat → Nat → Int) (r : List Int) : Prop where
  pm : Pm n r
  z : r.getD 0 0 = 0
  lt : r.getD 1 0 < r.getD (n - 1) 0
  ok : ∀ b < n, fits n S r b = true
theorem Zo5 : ∀ (p : List Int) {x y : Int} {s t : List Int}, x < y → ltI (p ++ x :: s) (p ++ y :: t) = true
  | [], x, y, s, t, h => by
    rw [List.nil_append, List.nil_append, ltI, if_neg (by omega)]
    exact decide_eq_true h
  | a :: p, x, y, s, t, h => by
    rw [List.cons_append, List.cons_append, ltI, if_pos rfl]
    exact Zo5 p h
noncomputable def opD (o : Option (List Int)) : PyData := match o with | none => .none | some r => Zg r
structure Zlh (n : Nat) (S : Nat → Nat → Int) (p : List Int) (o : Option (List Int)) : Prop where
  ok : ∀ r, o = some r → OKr n S r ∧ p <+: r
  first : ∀ r', OKr n S r' → p <+: r' → ∃ r, o = some r ∧ (r = r' ∨ ltI r r' = true)
structure Beg (n : Nat) (S : Nat → Nat → Int) (p : List Int) : Prop where
  ent : Ent n p
  nd : p.Nodup
  z : ∃ t, p = 0 :: t
  ok : ∀ b, b + 1 < p.length → fits n S p b = true
theorem Znc {p r : List Int} (h : p <+: r) {i : Nat} (hi : i < p.length) : pn p i = pn r i := by
  obtain ⟨t, rfl⟩ := h
  unfold pn
  rw [List.getD_eq_getElem?_getD, List.getD_eq_getElem?_getD, List.getElem?_append_left hi]
theorem Zl1 {n b : Nat} {S : Nat → Nat → Int} {p r : List Int} (h : p <+: r) (hb : b + 1 < p.length) (hn : p.length ≤ n) : fits n S p b = fits n S r b := by
  have e : ∀ a < b, twS n S p a b = twS n S r a b := fun a ha => by
    unfold twS
    rw [Nat.mod_eq_of_lt (by omega), Znc h (by omega), Znc h (by omega), Znc h (by omega), Znc h hb]
  rw [Bool.eq_iff_iff, Zfg, Zfg]
  exact ⟨fun q a ha => e a ha ▸ q a ha, fun q a ha => (e a ha).symm ▸ q a ha⟩
theorem Pm.of {n : Nat} {p : List Int} (h : Ent n p) (nd : p.Nodup) (l : p.length = n) : Pm n p := by
  refine (List.perm_ext_iff_of_nodup nd (Ze0 n)).mpr fun x => ⟨fun hx => Wz.mpr (h x hx), fun hx => Classical.byContradiction fun c => ?_⟩
  have nd2 : (x :: p).Nodup := List.nodup_cons.mpr ⟨c, nd⟩
  have := nd2.length_le_of_subset (l₂ := Jd n) fun y hy => (List.mem_cons.mp hy).elim (fun e => e ▸ hx) fun m => Wz.mpr (h y m)
  rw [Zcp, List.length_cons] at this
  omega
noncomputable def cnd (n : Nat) (S : Nat → Nat → Int) (p : List Int) (x : Int) : Bool := !decide (x ∈ p) && fits n S (p ++ [x]) (p.length - 1)
theorem Beg.add {n : Nat} {S : Nat → Nat → Int} {p : List Int} (B : Beg n S p) (l : p.length < n) {x : Int} (h0 : 0 ≤ x) (h1 : x < n) (c : cnd n S p x = true) : Beg n S (p ++ [x]) := by
  unfold cnd at c
  rw [Bool.and_eq_true] at c
  obtain ⟨c1, c2⟩ := c
  have c1 : x ∉ p := fun m => by rw [decide_eq_true m] at c1; cases c1
  obtain ⟨t, ht⟩ := B.z
  refine ⟨fun y hy => ?_, ?_, ⟨t ++ [x], by rw [ht]; rfl⟩, fun b hb => ?_⟩
  · rcases List.mem_append.mp hy with q | q
    · exact B.ent y q
    · rw [List.mem_singleton.mp q]; exact ⟨h0, h1⟩
  · exact List.nodup_append.mpr ⟨B.nd, List.nodup_cons.mpr ⟨(fun z => nomatch z), .nil⟩, fun a ha b hb e => c1 (by rw [← List.mem_singleton.mp hb, ← e]; exact ha)⟩
  · rw [List.length_append] at hb
    have hb : b + 1 < p.length + 1 := hb
    by_cases q : b + 1 < p.length
    · rw [← Zl1 (p := p) ⟨[x], rfl⟩ q (by omega)]
      exact B.ok b q
    · rw [show b = p.length - 1 by omega]; exact c2
theorem Zlc {n : Nat} {S : Nat → Nat → Int} {p : List Int} (B : Beg n S p) (l : p.length < n) {g : Nat → Option (List Int)} (hg : ∀ i, i < n - 1 → (cnd n S p (1 + (i : Int)) = true → Zlh n S (p ++ [1 + (i : Int)]) (g i)) ∧ (cnd n S p (1 + (i : Int)) = false → g i = none)) : Zlh n S p (((List.range (n - 1)).find? fun i => (g i).isSome).bind g) := by
  have lead : ∀ r', OKr n S r' → p <+: r' → ∃ j r t, j < n - 1 ∧ g j = some r ∧ r' = p ++ (1 + (j : Int)) :: t ∧ (r = r' ∨ ltI r r' = true) := fun r' h hp => by
    obtain ⟨t, rfl⟩ := hp
    have len := h.pm.len
    rw [List.length_append] at len
    cases t with
    | nil => rw [List.length_nil] at len; omega
    | cons y t =>
      have ym : y ∈ p ++ y :: t := List.mem_append_right _ (.head _)
      obtain ⟨y0, y1⟩ := Wz.mp (h.pm.mem_iff.mp ym)
      obtain ⟨_, _, dj⟩ := List.nodup_append.mp h.pm.nodup
      have yn : y ∉ p := fun m => dj y m y (.head _) rfl
      obtain ⟨s, hs⟩ := B.z
      have yz : y ≠ 0 := fun e => yn (by rw [e, hs]; exact .head _)
      have ey : 1 + ((y.toNat - 1 : Nat) : Int) = y := by omega
      have pre : p ++ [y] <+: p ++ y :: t := ⟨t, by rw [List.append_assoc]; rfl⟩
      have pl : 0 < p.length := by rw [hs]; exact Nat.succ_pos _
      have c : cnd n S p y = true := by
        unfold cnd
        rw [decide_eq_false yn, Zl1 pre (by rw [List.length_append, List.length_singleton]; omega) (by rw [List.length_append, List.length_singleton]; omega), h.ok _ (by omega)]; rfl
      have G := (hg (y.toNat - 1) (by omega)).1
      rw [ey] at G
      obtain ⟨r, hr, lr⟩ := (G c).first _ h pre
      exact ⟨y.toNat - 1, r, t, by omega, hr, by rw [ey], lr⟩
  have okx : ∀ i r, i < n - 1 → g i = some r → OKr n S r ∧ p ++ [1 + (i : Int)] <+: r := fun i r hi hr => by
    cases c : cnd n S p (1 + (i : Int)) with
    | false => rw [(hg i hi).2 c] at hr; cases hr
    | true => exact ((hg i hi).1 c).ok r hr
  cases c : (List.range (n - 1)).find? fun i => (g i).isSome with
  | none =>
    refine ⟨fun r z => (nomatch z), fun r' h hp => ?_⟩
    obtain ⟨j, r, t, hj, e, _⟩ := lead r' h hp
    exact absurd (by rw [e]; rfl) (List.find?_eq_none.mp c j (List.mem_range.mpr hj))
  | some i =>
    obtain ⟨s, hi, bef⟩ := List.find?_range_eq_some.mp c
    have hi := List.mem_range.mp hi
    obtain ⟨r, er⟩ := Option.isSome_iff_exists.mp s
    obtain ⟨o1, o2⟩ := okx i r hi er
    show Zlh n S p (g i)
    rw [er]
    refine ⟨fun r2 z => ?_, fun r' h hp => ?_⟩
    · cases z
      exact ⟨o1, (List.prefix_append _ _).trans o2⟩
    · obtain ⟨j, r2, t, hj, e, et, lr⟩ := lead r' h hp
      refine ⟨r, rfl, ?_⟩
      rcases Nat.lt_trichotomy i j with q | q | q
      · obtain ⟨u, hu⟩ := o2
        rw [List.append_assoc] at hu
        refine .inr ?_
        rw [← hu, et]
        exact Zo5 p (by omega)
      · subst q
        rw [er] at e
        cases e
        exact lr
      · have := bef j q
        rw [e] at this
        cases this
theorem Zp1 (k : Nat) (i : Int) : Told (Zo (k + 1)) [.int i, .int i] (.bool true) :=
  show Told (J3 2 4 (Wu (Zo k))) [.int i, .int i] (.bool true) from Yi rfl <| Zbm <| Zdp (Z6b (Zgp Za) rfl) <| Y8 (Zh2 (Zqh Za rfl) (Zh2 (Zy1 (Zgp Za) rfl) (Zfd Za Za (decide_eq_true rfl))))
theorem Zrc {k : Nat} {x : PyData} {ds : List PyData} (hx : x = .list ds ∨ x = .tuple ds) (h : ∀ d ∈ ds, Told (Zo k) [d, d] (.bool true)) : Told (Zo (k + 1)) [x, x] (.bool true) := by
  have key : Zmq "int" x = false → Zmq "str" x = false → Zgi x = false → Zam [x] = some (.int ds.length) → Zyc [x, x] = some (Zin ds ds) → Told (Zo (k + 1)) [x, x] (.bool true) := fun h1 h2 hf hl hz =>
    show Told (J3 2 4 (Wu (Zo k))) [x, x] (.bool true) from Yi rfl <| Zw (Z3 (Zjl (Zqh Za h1 hf)) rfl) <| Zw (Z3 (Zjl (Zqh Za h2 hf)) rfl) <|
      Zw (Z3 (Z51 (Za6 (Zy (Zgp Za hf) (Zgp Za hf) ((Zof _ _).trans (by rw [bne_self_eq_false])))) (Za6 (Zy (Zgp Za hf) (Zgp Za hf) ((Zof _ _).trans (by rw [bne_self_eq_false]))))) rfl) <|
      Zw (Z3 (Za6 (Zq0 (Zbw (Zc Za Zj) hl) (Zbw (Zc Za Zj) hl) (by rw [decide_eq_true rfl]; rfl))) rfl) <|
      Zra (ds := Zin ds ds) (fun i δ => ∃ z1 z2, δ = [some (.fz x), some (.fz x), z1, z2]) (Zq4 (Zc Za (Zc Za Zj)) hz) ⟨none, none, rfl⟩ (fun i d δ hd q => by
        obtain ⟨z1, z2, rfl⟩ := q
        obtain ⟨a, b, ha, hb, rfl⟩ := Zja hd
        rw [ha] at hb
        cases hb
        exact ⟨_, _, rfl, .inl (Z3 (Zz7 (p := true) (Zjl (Zq (Zc Za (Zc Za Zj)) (h a (List.mem_of_getElem? ha))))) rfl), _, _, rfl⟩) fun δ' _ => Y8 Z0
  rcases hx with rfl | rfl
  · exact key rfl rfl rfl (Zmu ds) rfl
  · exact key rfl rfl rfl (Z0h ds) rfl
theorem Zor {n b : Nat} {p : List Int} (h : p.length = n) (hb : b < n) : (p ++ p).getD (b + 1) 0 = p.getD ((b + 1) % n) 0 := by
  rw [List.getD_eq_getElem?_getD, List.getD_eq_getElem?_getD]
  by_cases c : b + 1 < n
  · rw [List.getElem?_append_left (by omega), Nat.mod_eq_of_lt c]
  · have : b + 1 = n := by omega
    rw [List.getElem?_append_right (by omega), this, h, Nat.mod_self, Nat.sub_self]
theorem Zj0 {n a b : Nat} {S : Nat → Nat → Int} {p : List Int} (h : InR n p) (hn : n ≤ 1000) (hab : a < b) (hb : b < n) : Yj [Wq n S, Zg p, .int a, .int b] = .ok (.fz (.int (tw S (pn p a) (pn p (a + 1)) (pn p b) (pn p ((b + 1) % n))))) := by
  have hm : (b + 1) % n < n := Nat.mod_lt _ (by omega)
  obtain ⟨e1, l1⟩ := h.at (i := a) (by omega)
  obtain ⟨e2, l2⟩ := h.at (i := a + 1) (by omega)
  obtain ⟨e3, l3⟩ := h.at hb
  obtain ⟨_, l4⟩ := h.at hm
  have hl := h.1
  have e4 : gIx (.list (p.map PyData.int ++ p.map PyData.int)) (.int ((b : Int) + 1)) = some (.fz (.int (pn p ((b + 1) % n) : Nat))) := by
    rw [← List.map_append]
    show gIx (Zg (p ++ p)) _ = _
    rw [Zd4 (by omega) (by rw [List.length_append]; omega), show ((b : Int) + 1).toNat = b + 1 by omega, Zor hl hb]
    unfold pn
    rw [Int.toNat_of_nonneg (h.2 _ hm).1]
  have v : ∀ δ : Zh, δ[1]? = some (some (.fz (Zg p))) → EvV (Zd 1) δ (.list (p.map PyData.int)) := fun δ h => Za h
  exact Told.int <| Yi rfl <| Zw (Zn (Zaf Za Za e1)) <| Zw (Zn (Zaf Za (Yq Za Z0) e2)) <| Zw (Zn (Zaf Za Za e3)) <|
    Zw (Zn (Zaf (Zpa (v _ rfl) (v _ rfl) (by rw [List.length_map]; omega)) (Yq Za Z0) e4)) <|
    Zw (Zn (Yq (Ze1 l1 l3 rfl rfl rfl) (Ze1 l2 l4 rfl rfl rfl))) <|
    Y8 (Za7 (Za7 Za (Ze1 l1 l4 rfl rfl rfl)) (Ze1 l2 l3 rfl rfl rfl))
noncomputable def nI (p : List Int) : OT := .nd ((p.map PyData.int).map OT.fz)
theorem Zej (p : List Int) : (nI p).data = Zg p := by unfold nI; rw [OT.data_nd, OT.map_fz]; rfl
theorem Zwf (l : List Int) : Zed (nI l) = true := by
  unfold nI
  rw [Zed]
  induction l with
  | nil => rfl
  | cons a l ih =>
    show Zf8 (OT.fz (.int a) :: (l.map PyData.int).map OT.fz) = true
    rw [Zf8, ih, Zed]; rfl
theorem Zsq {δ : Zh} {i : Nat} {p : List Int} (h : δ[i]? = some (some (nI p))) : EvV (Jz i) δ (Zg p) := Zf3 h (Zej p)
theorem Z6k {a b : FE} {δ : Zh} {p q : List Int} (ha : EvV a δ (Zg p)) (hb : EvV b δ (Zg q)) (h : p.length ≤ 1000) (k : q.length ≤ 1000) : Yd Ze8 a b δ = some (nI (p ++ q), δ) := by
  obtain ⟨_, e1, d1⟩ := ha
  obtain ⟨_, e2, d2⟩ := hb
  rw [Zog, e1, Option.bind_some, e2, Option.bind_some, d1, d2, show Ze8 (Zg p) (Zg q) = _ from Zt8 (by rw [sizeLine_eq, List.length_map, List.length_map]; omega), Option.bind_some, ← List.map_append]; rfl
theorem Z3x {a : FE} {δ : Zh} {p : List Int} (h : a δ = some (nI p, δ)) : Zhj a δ = some (nI p, δ) := by
  rw [Zpz, h, Option.bind_some, if_pos (Zwf p)]
theorem Z80 {e : FE} {δ : Zh} {x : Int} (h : e δ = some (.fz (.int x), δ)) : Zbe (Zb e Zm) δ = some (nI [x], δ) := by
  rw [Zlk, Zct, h, Option.bind_some, Zh8, Option.bind_some, Option.bind_some, if_pos (by rw [sizeLine_eq]; exact (by decide : 1 ≤ 16777216))]; rfl
noncomputable def RtE (S : FS) (δ : Zh) (o : OT) : Prop := ∃ δ', S δ = .rt o δ'
section
variable {S S' : FS} {δ δ' : Zh} {o : OT} {t : FT}
theorem Zhf (h : S δ = .nx δ') (k : RtE S' δ' o) : RtE (Zu S S') δ o := k.imp fun _ e => Yb h e
theorem Zm8 (k : RtE S δ o) : RtE (Zu S S') δ o := k.imp fun _ e => Zjy e
theorem Zie (h : EvT t δ true) (k : RtE S δ o) : RtE (Ww t S S') δ o := k.imp fun _ e => W9 h e
theorem Zou (h : EvT t δ false) (k : RtE S' δ o) : RtE (Ww t S S') δ o := k.imp fun _ e => Z3 h e
theorem Z6t {i : Nat} (h : δ[i]? = some (some o)) : RtE (J9 i) δ o := ⟨_, Zq3 h⟩
theorem Z2e {e : FE} (h : e δ = some (o, δ)) : RtE (wE e Jj) δ o := ⟨δ, by rw [Zdr, h, We, Zo9]⟩
end
theorem Zvb {np n : Nat} {S : FS} {ts : List OT} {o : OT} (hl : ts.length = np) (k : RtE S (startM n ts) o) : Zu4 np n S ts = .ok o := by
  obtain ⟨δ', e⟩ := k
  unfold Zu4
  rw [if_pos hl, e, Zlj]
theorem Z43 {np n : Nat} {S : FS} {ts : List PyData} {o : OT} (hl : ts.length = np) (k : RtE S (Zbt n ts) o) : J3 np n S ts = .ok o := by
  obtain ⟨δ', e⟩ := k
  exact Zrb hl e
theorem Zz0 {F : FM} {as : FA} {δ : Zh} {ts : List OT} {o : OT} (h : as δ = some (ts, δ)) (hF : F ts = .ok o) : Zgj F as δ = some (o, δ) := by
  unfold Zgj
  rw [h, Option.bind_some]
  dsimp only
  rw [hF]
theorem Z17 {a b : FE} {δ : Zh} {s t : OT} (ha : a δ = some (s, δ)) (hb : b δ = some (t, δ)) : Zb a (Zb b Zm) δ = some ([s, t], δ) := by
  rw [Zct, ha, Option.bind_some, Zct, hb, Option.bind_some, Zh8, Option.bind_some, Option.bind_some]
noncomputable def opO (o : Option (List Int)) : OT := match o with | none => .fz .none | some r => nI r
theorem Zm6 (o : Option (List Int)) : (opO o).data = opD o := by
  cases o with
  | none => exact OT.data_fz _
  | some r => exact Zej r
noncomputable def gE (n : Nat) (S : Nat → Nat → Int) (p : List Int) (z3 z4 : Option OT) : Zh := [some (.fz (Wq n S)), some (nI p), some (.fz (.int n)), z3, z4]
theorem Zq7 {n : Nat} (h3 : 3 ≤ n) (hn : n ≤ 10) {S : Nat → Nat → Int} {F : FM} {p : List Int} (B : Beg n S p) (l : p.length = n) : ∃ o, Zu4 2 5 (Wf F) [.fz (Wq n S), nI p] = .ok (opO o) ∧ Zlh n S p o := by
  obtain ⟨t, ht⟩ := B.z
  have pz : p.getD 0 0 = 0 := by rw [ht]; rfl
  have st : ∀ {o : OT}, RtE (Ww (tAn (tV (Zf gLt (Yd gIx (Jz 1) (fC (.int 1))) (Yd gIx (Jz 1) (fUn Zns (fC (.int 1)))))) (tD (Zt Z9 (Zb (Zd 0) (Zb (Jz 1) (Zb (Zf gSb (Zd 2) (fC (.int 1))) Zm)))))) (J9 1) (wE (fC .none) Jj)) (gE n S p none none) o → Zu4 2 5 (Wf F) [.fz (Wq n S), nI p] = .ok o := fun h => Zvb rfl <| Zhf (δ' := gE n S p none none) (Zn (Zbw (Zc Za Zj) (Zds n S))) <| Zm8 <| Zie (Za6 (Zfd (Yt (Zsq (i := 1) rfl)) (Za (i := 2) rfl) (decide_eq_true (congrArg Nat.cast l)))) h
  have t1 : EvT (tV (Zf gLt (Yd gIx (Jz 1) (fC (.int 1))) (Yd gIx (Jz 1) (fUn Zns (fC (.int 1)))))) (gE n S p none none) (decide (p.getD 1 0 < p.getD (n - 1) 0)) := Za6 (Zes (Zaf (Zsq (i := 1) rfl) (Z0 (d := .int 1)) (Zd4 (p := p) (i := 1) (by decide) (by omega))) (Zaf (Zsq (i := 1) rfl) (Zm4 (Z0 (d := .int 1))) (Zix (p := p) (by omega))) (by rw [l]; rfl))
  have t2 : EvT (tD (Zt Z9 (Zb (Zd 0) (Zb (Jz 1) (Zb (Zf gSb (Zd 2) (fC (.int 1))) Zm))))) (gE n S p none none) (fits n S p (n - 1)) := Zjl (Zq (Zc (Za rfl) (Zc (Zsq rfl) (Zc ((Za7 (Za (i := 2) (d := .int n) rfl) (Z0 (d := .int 1))).cast (congrArg PyData.int (by omega : (n : Int) - 1 = ((n - 1 : Nat) : Int)))) Zj))) (Zp5 B.ent (by omega) (by rw [show n - 1 + 1 = n by omega, Nat.mod_self]; omega) (by omega) (by omega)))
  have no : (OKr n S p → False) → Zlh n S p none := fun q => ⟨fun r z => (nomatch z), fun r' h hp => by
    have e := hp.eq_of_length (by rw [l, h.pm.len])
    exact (q (e ▸ h)).elim⟩
  cases c1 : decide (p.getD 1 0 < p.getD (n - 1) 0) with
  | false =>
    rw [c1] at t1
    exact ⟨none, st (Zou (Zlv t1) (Z2e rfl)), no fun h => of_decide_eq_false c1 h.lt⟩
  | true =>
    rw [c1] at t1
    cases c2 : fits n S p (n - 1) with
    | false =>
      rw [c2] at t2
      exact ⟨none, st (Zou (Zjk t1 t2) (Z2e rfl)), no fun h => by have := h.ok (n - 1) (by omega); rw [c2] at this; cases this⟩
    | true =>
      rw [c2] at t2
      have ok : OKr n S p := ⟨.of B.ent B.nd l, pz, of_decide_eq_true c1, fun b hb => by
        by_cases q : b + 1 < n
        · exact B.ok b (by omega)
        · rw [show b = n - 1 by omega]; exact c2⟩
      refine ⟨some p, st (Zie (Zjk t1 t2) (Z6t rfl)), fun r hr => ?_, fun r' h hp => ⟨p, rfl, .inl (hp.eq_of_length (by rw [l, h.pm.len]))⟩⟩
      cases hr
      exact ⟨ok, List.prefix_refl _⟩
theorem Zzg (o : Option (List Int)) : Zfm (opD o) .none = some (.bool o.isSome) := by cases o <;> rfl
theorem Zts {n : Nat} (h3 : 3 ≤ n) (hn : n ≤ 10) {S : Nat → Nat → Int} : ∀ (k : Nat) (p : List Int), Beg n S p → p.length ≤ n → n < p.length + k → ∃ o, Zx k [.fz (Wq n S), nI p] = .ok (opO o) ∧ Zlh n S p o := by
  intro k
  induction k with
  | zero => exact fun p _ a b => absurd b (by omega)
  | succ k ih =>
    intro p B l1 l2
    by_cases l : p.length = n
    · exact Zq7 h3 hn B l
    have ll : p.length < n := by omega
    have l0 : 0 < p.length := by obtain ⟨t, ht⟩ := B.z; rw [ht]; exact Nat.succ_pos _
    have ex : ∀ i : Nat, ∃ o, i < n - 1 → (cnd n S p (1 + (i : Int)) = true → Zx k [.fz (Wq n S), nI (p ++ [1 + (i : Int)])] = .ok (opO o) ∧ Zlh n S (p ++ [1 + (i : Int)]) o) ∧ (cnd n S p (1 + (i : Int)) = false → o = none) := fun i => by
      by_cases q : i < n - 1 ∧ cnd n S p (1 + (i : Int)) = true
      · obtain ⟨o, h1, h2⟩ := ih (p ++ [1 + (i : Int)]) (B.add ll (by omega) (by omega) q.2) (by rw [List.length_append]; exact ll) (by rw [List.length_append, List.length_singleton]; omega)
        exact ⟨o, fun _ => ⟨fun _ => ⟨h1, h2⟩, fun z => by rw [q.2] at z; cases z⟩⟩
      · exact ⟨none, fun hi => ⟨fun c => absurd ⟨hi, c⟩ q, fun _ => rfl⟩⟩
    obtain ⟨g, hg⟩ := Classical.axiomOfChoice ex
    refine ⟨_, ?_, Zlc B ll fun i hi => ⟨fun c => ((hg i hi).1 c).2, (hg i hi).2⟩⟩
    have key := Zi4 (g := gNm 3) (u := Ww (tAn (tV (Zf (Zm7 true) (Zd 3) (Jz 1))) (tD (Zt Z9 (Zb (Zd 0) (Zb (Yd Ze8 (Jz 1) (Zbe (Zb (Zd 3) Zm))) (Zb (Zf gSb (Zau Zam (Zb (Jz 1) Zm)) (fC (.int 1))) Zm))))))
    (Zu (wE (Zgj (Zx k) (Zb (Zd 0) (Zb (Zhj (Yd Ze8 (Jz 1) (Zbe (Zb (Zd 3) Zm)))) Zm))) (Ja 4))
    (Ww (tV (Zf Zfm (Jz 4) (fC .none)))
    (J9 4)
    fNx))
    fNx) (fun i : Nat => PyData.int (1 + (i : Int))) (fun i => (g i).isSome) (fun _ δ => ∃ z3 z4, δ = gE n S p z3 z4) (fun i o => o = opO (g i)) (List.range (n - 1)) (fun i done rest ea δ hI => ?_) (List.range (n - 1)) [] rfl (gE n S p none none) ⟨_, _, rfl⟩
    · have hi : EvI (iRb (Zb (fC (.int 1)) (Zb (Zd 2) Zm))) (gE n S p none none) ((List.range (n - 1)).map fun i : Nat => PyData.int (1 + (i : Int))) := Zse (m := 1) (n := n) (Zc Z0 (Zc (Za rfl) Zj)) (by decide) (by omega)
      have st : ∀ {S' S2 : FS} {d : OT}, RtE S' (gE n S p none none) d → RtE (Zu (wE (Zau Zam (Zb (Zd 0) Zm)) (Yh 2)) (Zu (Ww (tV (Zf gEq (Zau Zam (Zb (Jz 1) Zm)) (Zd 2))) S2 fNx) S')) (startM 5 [.fz (Wq n S), nI p]) d := fun q => Zhf (δ' := gE n S p none none) (Zn (Zbw (Zc Za Zj) (Zds n S))) <| Zhf (Z3 (Za6 (Zfd (Yt (Zsq (i := 1) rfl)) (Za (i := 2) rfl) (decide_eq_false fun z => l (Int.ofNat.inj z)))) rfl) q
      cases c : (List.range (n - 1)).find? fun i => (g i).isSome with
      | none =>
        obtain ⟨δ', e, z3, z4, rfl⟩ := key.1 c
        exact Zvb rfl (st (Zhf (Zc4 hi e) (Z2e rfl)))
      | some i =>
        obtain ⟨o, δ', e, rfl⟩ := key.2 i c
        exact Zvb rfl (st (Zm8 ⟨δ', Zc4 hi e⟩))
    · obtain ⟨z3, z4, rfl⟩ := hI
      have hi : i < n - 1 := List.mem_range.mp (by rw [← ea]; exact List.mem_append_right _ (.head _))
      obtain ⟨g1, g2⟩ := hg i hi
      have e3 : ∀ z, (gE n S p (some (.fz (.int (1 + (i : Int))))) z)[3]? = some (some (.fz (.int (1 + (i : Int))))) := fun z => rfl
      have t1 : EvT (tV (Zf (Zm7 true) (Zd 3) (Jz 1))) (gE n S p (some (.fz (.int (1 + (i : Int))))) z4) (!decide (1 + (i : Int) ∈ p)) := Za6 (Zy (Za rfl) (Zsq rfl) (Zd5 true _ _))
      have cat : Yd Ze8 (Jz 1) (Zbe (Zb (Zd 3) Zm)) (gE n S p (some (.fz (.int (1 + (i : Int))))) z4) = some (nI (p ++ [1 + (i : Int)]), gE n S p (some (.fz (.int (1 + (i : Int))))) z4) := Z6k (Zsq rfl) (Zmo (Za rfl)) (by omega) (show 1 ≤ 1000 by decide)
      by_cases m : 1 + (i : Int) ∈ p
      · rw [decide_eq_true m] at t1
        have gn := g2 (by unfold cnd; rw [decide_eq_true m]; rfl)
        exact ⟨_, rfl, fun _ => ⟨_, Z3 (Zlv t1) rfl, _, _, rfl⟩, fun z => by rw [gn] at z; cases z⟩
      rw [decide_eq_false m] at t1
      have ent : Ent n (p ++ [1 + (i : Int)]) := fun y hy => by
        rcases List.mem_append.mp hy with q | q
        · exact B.ent y q
        · rw [List.mem_singleton.mp q]; exact ⟨by omega, by omega⟩
      have t2 : EvT (tD (Zt Z9 (Zb (Zd 0) (Zb (Yd Ze8 (Jz 1) (Zbe (Zb (Zd 3) Zm))) (Zb (Zf gSb (Zau Zam (Zb (Jz 1) Zm)) (fC (.int 1))) Zm))))) (gE n S p (some (.fz (.int (1 + (i : Int))))) z4) (fits n S (p ++ [1 + (i : Int)]) (p.length - 1)) := Zjl (Zq (Zc (Za rfl) (Zc ⟨_, cat, Zej _⟩ (Zc ((Za7 (Yt (p := p) (Zsq rfl)) Z0).cast (congrArg PyData.int (by omega : (p.length : Int) - 1 = ((p.length - 1 : Nat) : Int)))) Zj))) (Zp5 ent (by rw [List.length_append]; omega) (by rw [show p.length - 1 + 1 = p.length by omega, Nat.mod_eq_of_lt ll, List.length_append]; exact Nat.lt_succ_self _) (by omega) (by omega)))
      cases c : fits n S (p ++ [1 + (i : Int)]) (p.length - 1) with
      | false =>
        rw [c] at t2
        have gn := g2 (by unfold cnd; rw [c, Bool.and_false])
        exact ⟨_, rfl, fun _ => ⟨_, Z3 (Zjk t1 t2) rfl, _, _, rfl⟩, fun z => by rw [gn] at z; cases z⟩
      | true =>
        rw [c] at t2
        have T := (g1 (by unfold cnd; rw [c, decide_eq_false m]; rfl)).1
        have s4 : wE (Zgj (Zx k) (Zb (Zd 0) (Zb (Zhj (Yd Ze8 (Jz 1) (Zbe (Zb (Zd 3) Zm)))) Zm))) (Ja 4) (gE n S p (some (.fz (.int (1 + (i : Int))))) z4) = .nx (gE n S p (some (.fz (.int (1 + (i : Int))))) (some (opO (g i)))) := (Za3 (Zz0 (Z17 (s := .fz (Wq n S)) rfl (Z3x cat)) T)).trans rfl
        have t4 : EvT (tV (Zf Zfm (Jz 4) (fC .none))) (gE n S p (some (.fz (.int (1 + (i : Int))))) (some (opO (g i)))) (g i).isSome := Za6 (Zy (Zf3 rfl (Zm6 _)) Z0 (Zzg _))
        refine ⟨_, rfl, fun z => ?_, fun z => ?_⟩
        · have z : (g i).isSome = false := z
          rw [z] at t4
          exact ⟨_, W9 (Zjk t1 t2) (Yb s4 (Z3 t4 rfl)), _, _, rfl⟩
        · have z : (g i).isSome = true := z
          rw [z] at t4
          obtain ⟨δ', e⟩ := Zie (Zjk t1 t2) (Zhf s4 (Zie (S' := fNx) t4 (Z6t (i := 4) (o := opO (g i)) rfl)))
          exact ⟨_, δ', e, rfl⟩
theorem Zdq {n : Nat} {R : Nat → Nat → Int} {b : Int} (h3 : 3 ≤ n) (hn : n ≤ 6) (hb : 0 < b) (bb : Bt 300 b) (W : Rw n R) : ∃ o, Y4 [tbD (Zew n R b)] = .ok (opO o) ∧ (∀ r, o = some r → Pm n r ∧ r.getD 0 0 = 0 ∧ r.getD 1 0 < r.getD (n - 1) 0 ∧ Zjc n R r = none) ∧ ∀ r, Pm n r → r.getD 0 0 = 0 → r.getD 1 0 < r.getD (n - 1) 0 → Zjc n R r = none → ∃ r1, o = some r1 ∧ (r1 = r ∨ ltI r1 r = true) := by
  obtain ⟨m, k, S, e1, eS, m0, k0, rfl, bm, sc⟩ := Zzl (by omega : n < 64) hb bb W.bt
  have hle : Zam [tbD (Zew n R (m * k))] = some (.int n) := by rw [Zw1, Zhr]
  have kv : ∀ r, Pm n r → ∀ q ∈ Jw n, k * twS n S r q.1 q.2 = tq n R r q := fun r h q hq => by
    have hI := h.inR
    obtain ⟨l1, l2⟩ := Zcs hq
    obtain ⟨_, a1⟩ := hI.at (i := q.1) (by omega)
    obtain ⟨_, a2⟩ := hI.at (i := q.1 + 1) (by omega)
    obtain ⟨_, a3⟩ := hI.at l2
    obtain ⟨_, a4⟩ := hI.at (Nat.mod_lt (q.2 + 1) (by omega : 0 < n))
    show k * (S _ _ + S _ _ - S _ _ - S _ _) = R _ _ + R _ _ - R _ _ - R _ _
    rw [Int.mul_sub, Int.mul_sub, Int.mul_add, sc _ _ a1 a3, sc _ _ a2 a4, sc _ _ a1 a4, sc _ _ a2 a3]
  have bar : ∀ r, Pm n r → (Zjc n R r = none ↔ ∀ b < n, fits n S r b = true) := fun r h => by
    unfold Zjc
    rw [List.find?_eq_none]
    constructor
    · intro q b hb
      refine Zfg.mpr fun a ha => Int.not_lt.mp fun z => ?_
      have hm : (a, b) ∈ Jw n := Znf ha hb
      refine q (a, b) hm (decide_eq_true ?_)
      rw [← kv r h _ hm]
      exact Int.mul_neg_of_pos_of_neg k0 z
    · intro q x hx z
      obtain ⟨l1, l2⟩ := Zcs hx
      have := Zfg.mp (q x.2 l2) x.1 l1
      have z := of_decide_eq_true z
      rw [← kv r h _ hx] at z
      exact Int.not_lt.mpr (Int.mul_nonneg (Int.le_of_lt k0) this) z
  have B0 : Beg n S [0] := ⟨fun x hx => by rw [List.mem_singleton.mp hx]; exact ⟨Int.le_refl _, by omega⟩, List.nodup_cons.mpr ⟨(fun z => nomatch z), .nil⟩, ⟨[], rfl⟩, fun b hb => absurd hb (by rw [List.length_singleton]; omega)⟩
  obtain ⟨o, T, G⟩ := Zts h3 (by omega) (S := S) 6 [0] B0 (by rw [List.length_singleton]; omega) (by rw [List.length_singleton]; omega)
  have fz : Z2w (Zt Y5 (Zb (Zt Z5 (Zb (Zd 0) Zm)) (Zb (Zd 0) Zm))) (Zbt 1 [tbD (Zew n R (m * k))]) = some (.fz (Wq n S), Zbt 1 [tbD (Zew n R (m * k))]) := by
    obtain ⟨o, h1, h2⟩ := Zq (Zc (Zq (Zc (Za (i := 0) (δ := Zbt 1 [tbD (Zew n R (m * k))]) rfl) Zj) e1) (Zc (Za (i := 0) rfl) Zj)) eS
    unfold Z2w
    rw [h1, Option.bind_some]
    dsimp only
    rw [h2]
  refine ⟨o, Z43 rfl <| Zhf (Z3 (Za6 (Zes (Zbw (Zc Za Zj) hle) Z0 (decide_eq_false (by omega)))) rfl) <| Z2e (Zz0 (Z17 fz (Z80 (Z1s _ _))) T), fun r hr => ?_, fun r h z l q => ?_⟩
  · obtain ⟨K, _⟩ := G.ok r hr
    exact ⟨K.pm, K.z, K.lt, (bar r K.pm).mpr K.ok⟩
  · refine G.first r ⟨h, z, l, (bar r h).mp q⟩ ?_
    have len := h.len
    cases r with
    | nil => rw [List.length_nil] at len; omega
    | cons x r =>
      have z : x = 0 := z
      exact ⟨r, by rw [z]; rfl⟩
noncomputable def Zje (n : Nat) (r : List Int) : List (List Int) := ((List.range (n - 1)).filter fun i : Nat => !decide (1 + (i : Int) ∈ r)).map fun i : Nat => r ++ [1 + (i : Int)]
noncomputable def Zap (n : Nat) : Nat → List (List Int)
  | 0 => [[0]]
  | k + 1 => (Zap n k).flatMap (Zje n)
noncomputable def rings (n : Nat) : List (List Int) := (Zap n (n - 1)).filter fun r => decide (r.getD 1 0 < r.getD (r.length - 1) 0)
theorem Zea : ∀ n ≤ 6, ∀ k ≤ 6, (Zap n k).length ≤ 1000 := by decide +kernel
theorem Ztt : ∀ n ≤ 6, (rings n).Pairwise (fun a b => ltI a b = true) := by decide +kernel
theorem Znn : ∀ n ≤ 6, 3 ≤ n → (rings n).head? = some (Jd n) := by decide +kernel
theorem Zmx {n : Nat} {r s : List Int} : s ∈ Zje n r ↔ ∃ x : Int, 1 ≤ x ∧ x < n ∧ x ∉ r ∧ s = r ++ [x] := by
  unfold Zje
  rw [List.mem_map]
  constructor
  · rintro ⟨i, hi, rfl⟩
    rw [List.mem_filter, List.mem_range] at hi
    refine ⟨1 + (i : Int), by omega, by omega, fun m => ?_, rfl⟩
    rw [decide_eq_true m] at hi
    exact absurd hi.2 (by decide)
  · rintro ⟨x, h1, h2, h3, rfl⟩
    refine ⟨x.toNat - 1, ?_, by rw [show 1 + ((x.toNat - 1 : Nat) : Int) = x by omega]⟩
    rw [List.mem_filter, List.mem_range, show 1 + ((x.toNat - 1 : Nat) : Int) = x by omega, decide_eq_false h3]
    exact ⟨by omega, rfl⟩
theorem Zd9 {n : Nat} (hn : 1 ≤ n) : ∀ (k : Nat) (r : List Int), r ∈ Zap n k → r.length = k + 1 ∧ Ent n r ∧ r.Nodup ∧ r.getD 0 0 = 0
  | 0, r, h => by
    rw [Zap, List.mem_singleton] at h
    subst h
    exact ⟨rfl, fun x hx => by rw [List.mem_singleton.mp hx]; omega, by decide, rfl⟩
  | k + 1, r, h => by
    rw [Zap, List.mem_flatMap] at h
    obtain ⟨s, hs, h⟩ := h
    obtain ⟨x, h1, h2, h3, rfl⟩ := Zmx.mp h
    obtain ⟨l, e, nd, z⟩ := Zd9 hn k s hs
    refine ⟨by rw [List.length_append, l]; rfl, fun y hy => ?_, ?_, ?_⟩
    · rcases List.mem_append.mp hy with q | q
      · exact e y q
      · rw [List.mem_singleton.mp q]; omega
    · exact List.nodup_append.mpr ⟨nd, List.nodup_cons.mpr ⟨(fun z => nomatch z), .nil⟩, fun a ha b hb e => h3 (by rw [← List.mem_singleton.mp hb, ← e]; exact ha)⟩
    · rw [List.getD_eq_getElem?_getD, List.getElem?_append_left (by omega), ← List.getD_eq_getElem?_getD, z]
theorem Zho {n : Nat} {r : List Int} (h : Pm n r) (z : r.getD 0 0 = 0) : ∀ k, k < n → r.take (k + 1) ∈ Zap n k
  | 0, hk => by
    have len := h.len
    cases r with
    | nil => rw [List.length_nil] at len; omega
    | cons x r =>
      have z : x = 0 := z
      subst z
      exact List.mem_singleton.mpr rfl
  | k + 1, hk => by
    have len := h.len
    rw [Zap, List.mem_flatMap]
    refine ⟨_, Zho h z k (by omega), Zmx.mpr ⟨r.getD (k + 1) 0, ?_, ?_, ?_, ?_⟩⟩
    · have m := Wz.mp (h.mem_iff.mp (getD_mem (p := r) (i := k + 1) (by omega)))
      have : r.getD (k + 1) 0 ≠ 0 := fun e => absurd (h.ne hk (by omega : 0 < n) (e.trans z.symm)) (by omega)
      omega
    · exact (Wz.mp (h.mem_iff.mp (getD_mem (p := r) (i := k + 1) (by omega)))).2
    · intro m
      obtain ⟨j, hj, e⟩ := List.getElem_of_mem m
      rw [List.length_take] at hj
      rw [List.getElem_take] at e
      have := h.ne (i := j) (j := k + 1) (by omega) hk (by rw [← e, List.getD_eq_getElem?_getD, List.getElem?_eq_getElem (by omega)]; rfl)
      omega
    · rw [List.take_add_one, List.getD_eq_getElem?_getD, List.getElem?_eq_getElem (by omega)]; rfl
theorem Zd6 {n : Nat} (h3 : 3 ≤ n) {r : List Int} : r ∈ rings n ↔ Pm n r ∧ r.getD 0 0 = 0 ∧ r.getD 1 0 < r.getD (n - 1) 0 := by
  unfold rings
  rw [List.mem_filter, decide_eq_true_eq]
  constructor
  · rintro ⟨h, l⟩
    obtain ⟨a, b, c, d⟩ := Zd9 (by omega) _ r h
    exact ⟨.of b c (by omega), d, by rw [show n - 1 = r.length - 1 by omega]; exact l⟩
  · rintro ⟨h, z, l⟩
    have len := h.len
    have := Zho h z (n - 1) (by omega)
    rw [show n - 1 + 1 = r.length by omega, List.take_length] at this
    exact ⟨this, by rw [len]; exact l⟩
theorem Zj9 {n : Nat} (h3 : 3 ≤ n) (hn : n ≤ 6) : Told Yz [.int n] (.list ((rings n).map Zg)) := by
  refine Yi rfl <| Zw (Zn (d := .list ((Zap n 0).map Zg)) (Zgr (Zc (Zmo Z0) Zj) (show 1 ≤ 1000 by decide))) <| Zra (ds := Zb3 0 (n - 1)) (fun i δ => ∃ z2 z3 z4, δ = [some (.fz (.int n)), some (.fz (.list ((Zap n i).map Zg))), z2, z3, z4]) (Zdx (n := n - 1) (Zc ((Za7 (Za (i := 0) (d := .int n) rfl) (Z0 (d := .int 1))).cast (congrArg PyData.int (by omega : (n : Int) - 1 = ((n - 1 : Nat) : Int)))) Zj) (by omega)) ⟨_, _, _, rfl⟩ (fun i d δ hd q => ?_) fun δ' q => ?_
  · obtain ⟨z2, z3, z4, rfl⟩ := q
    obtain ⟨hi, rfl⟩ := W6 hd
    have few := Zea n hn i (by omega)
    have few2 := Zea n hn (i + 1) (by omega)
    obtain ⟨rs, hrs⟩ : ∃ rs, rs = Zap n i := ⟨_, rfl⟩
    obtain ⟨E, hE⟩ : ∃ E : List (List Int) → Option OT → Zh, E = fun L z => [some (.fz (.int n)), some (.fz (.list (rs.map Zg))), some (.fz (.int (0 + (i : Int)))), some (lO L), z] := ⟨_, rfl⟩
    have key : ∃ δ', Za2 (Zfi (Zd 1)) (gNm 4) (Zb9 3 (Y7 1 [4] (iRb (Zb (fC (.int 1)) (Zb (Zd 0) Zm))) (gNm 0) (tV (Zf (Zm7 true) (Zd 0) (Zd 1))) (Yd Ze8 (Zd 1) (Zbe (Zb (Zd 0) Zm))))) (E [] z4) = .nx δ' ∧ ∃ z, δ' = E (rs.flatMap (Zje n)) z := by
      obtain ⟨δ', e, z, h⟩ := Zgs (ds := rs.map Zg) (it := Zfi (Zd 1)) (g := gNm 4) (S := Zb9 3 (Y7 1 [4] (iRb (Zb (fC (.int 1)) (Zb (Zd 0) Zm))) (gNm 0) (tV (Zf (Zm7 true) (Zd 0) (Zd 1))) (Yd Ze8 (Zd 1) (Zbe (Zb (Zd 0) Zm))))) (δ := E [] z4) (fun j δ => ∃ z, δ = E ((rs.take j).flatMap (Zje n)) z) (by rw [hE]; exact Zb2 (Za rfl)) ⟨z4, by rw [List.take_zero]; rfl⟩ (fun j d δ hd q => by
        obtain ⟨z, rfl⟩ := q
        rw [List.getElem?_map] at hd
        cases hr : rs[j]? with
        | none => rw [hr] at hd; cases hd
        | some r =>
          rw [hr] at hd
          cases hd
          have lr := (Zd9 (n := n) (by omega) i r (hrs ▸ List.mem_of_getElem? hr)).1
          have et : (rs.take (j + 1)).flatMap (Zje n) = (rs.take j).flatMap (Zje n) ++ Zje n r := by
            rw [List.take_add_one, hr, Option.toList_some, List.flatMap_append, List.flatMap_singleton]
          have lt : ((rs.take (j + 1)).flatMap (Zje n)).length ≤ (Zap n (i + 1)).length := by
            rw [Zap, ← hrs]
            conv => rhs; rw [← List.take_append_drop (j + 1) rs, List.flatMap_append, List.length_append]
            exact Nat.le_add_right _ _
          rw [et, List.length_append] at lt
          have ec : Y7 1 [4] (iRb (Zb (fC (.int 1)) (Zb (Zd 0) Zm))) (gNm 0) (tV (Zf (Zm7 true) (Zd 0) (Zd 1))) (Yd Ze8 (Zd 1) (Zbe (Zb (Zd 0) Zm))) (E ((rs.take j).flatMap (Zje n)) (some (.fz (Zg r)))) = some (.nd (((List.range (n - 1)).filter fun k : Nat => !decide (1 + (k : Int) ∈ r)).map fun k : Nat => nI (r ++ [1 + (k : Int)])), E ((rs.take j).flatMap (Zje n)) (some (.fz (Zg r)))) := by
            refine Zj1 (cs := [some (.fz (Zg r))]) (List.range (n - 1)) (fun k : Nat => PyData.int (1 + (k : Int))) _ _ (by rw [hE]; exact Zse (m := 1) (n := n) (Zc Z0 (Zc (Za rfl) Zj)) (by decide) (by omega)) (by rw [List.length_range, sizeLine_eq]; omega) (by rw [hE]; rfl) (fun k _ => Za6 (Zy (Za rfl) (Za rfl) (Zd5 true _ _))) fun k _ _ => Z6k (Za rfl) (Zmo (Za rfl)) (by omega) (show 1 ≤ 1000 by decide)
          refine ⟨E ((rs.take j).flatMap (Zje n)) (some (.fz (Zg r))), _, by rw [hE]; rfl, .inl (Zkd (ts := (((rs.take j).flatMap (Zje n)).map Zg).map OT.fz) (ds := (Zje n r).map Zg) ec ?_ (by rw [hE]; rfl) (by rw [List.length_map, List.length_map, List.length_map]; omega)), some (.fz (Zg r)), ?_⟩
          · rw [OT.datas_map, List.map_map]
            unfold Zje
            rw [List.map_map]
            exact List.map_congr_left fun k _ => Zej _
          · rw [et, hE, show lO = fun L => OT.nd ((L.map Zg).map OT.fz) from rfl, ← List.map_append, ← List.map_append]; rfl)
      refine ⟨δ', e, z, ?_⟩
      rw [List.length_map, List.take_length] at h
      exact h
    obtain ⟨δ', e, z, rfl⟩ := key
    refine ⟨_, _, rfl, .inl (Yb Zji (Yb (δ' := E (rs.flatMap (Zje n)) z) ?_ (Zfq (o := lO (rs.flatMap (Zje n))) (by rw [hE]; rfl) (Zn (d := .list ((rs.flatMap (Zje n)).map Zg)) (Za (by rw [hE, Zgq]; rfl)))))), ?_⟩
    · rw [← e, hE, ← hrs]; rfl
    · rw [hE, hrs]
      exact ⟨_, _, _, rfl⟩
  · obtain ⟨z2, z3, z4, rfl⟩ := q
    rw [show (Zb3 0 (n - 1)).length = n - 1 by unfold Zb3; rw [List.length_map, List.length_range]]
    refine Y8 (Ztp (cs := []) (Zap n (n - 1)) Zg (fun r => decide (r.getD 1 0 < r.getD (r.length - 1) 0)) (Zb2 (Za rfl)) (Nat.le_trans (Zea n hn (n - 1) (by omega)) (by decide)) rfl (fun r hr => ?_) fun r _ _ => rfl)
    have lr := (Zd9 (n := n) (by omega) (n - 1) r hr).1
    exact Za6 (Zes (Zaf (Za (i := 0) (d := Zg r) rfl) (Z0 (d := .int 1)) (Zd4 (p := r) (i := 1) (by decide) (by omega))) (Zaf (Za (i := 0) (d := Zg r) rfl) (Zm4 (Z0 (d := .int 1))) (Zix (p := r) (by omega))) rfl)
noncomputable def Zg7 (n : Nat) (R : Nat → Nat → Int) : Option (List Int) := (rings n).find? fun r => (Zjc n R r).isNone
theorem Zrv {α : Type} (l : List α) (P : α → Bool) : (l.all fun x => !P x) = (l.find? P).isNone := by
  rw [Bool.eq_iff_iff, List.all_eq_true, Option.isNone_iff_eq_none, List.find?_eq_none]
  exact ⟨fun h x hx z => (by have := h x hx; rw [z] at this; cases this), fun h x hx => by rw [Bool.eq_false_iff.mpr (h x hx)]; rfl⟩
theorem Zjm {n : Nat} (h3 : 3 ≤ n) (hn : n ≤ 6) (R : Nat → Nat → Int) : Told Jq [Wq n R] (opD (Zg7 n R)) := by
  obtain ⟨E, hE⟩ : ∃ E : Option OT → Option OT → Option OT → Option OT → Zh, E = fun z3 z4 z5 z6 => [some (.fz (Wq n R)), some (.fz (.int n)), some (.fz (.list ((Jw n).map ptD))), z3, z4, z5, z6] := ⟨_, rfl⟩
  have key := Zi4 (g := gNm 3) (u := (Zu (wE (fC (.bool true)) (Yh 4)) (Zu (Za2 (Zfi (Zd 2)) (gTp 2 (gCn (gNm 5) (gCn (gNm 6) gNl))) (Ww (tAn (tD (Zd 4)) (tV (Zf gLt (Zt Yj (Zb (Zd 0) (Zb (Zd 3) (Zb (Zd 5) (Zb (Zd 6) Zm))))) (fC (.int 0))))) (wE (fC (.bool false)) (Yh 4)) fNx)) (Ww (tD (Zd 4)) (wE (Zd 3) Jj) fNx)))) Zg (fun r => (Zjc n R r).isNone) (fun _ δ => ∃ z3 z4 z5 z6, δ = E z3 z4 z5 z6) (fun r o => o.data = Zg r) (rings n) (fun r done rest ea δ hI => ?_) (rings n) [] rfl (E none none none none) ⟨_, _, _, _, rfl⟩
  · have hi : EvI (Zfi (Zt Yz (Zb (Zd 1) Zm))) (E none none none none) ((rings n).map Zg) := by
      rw [hE]
      exact Zb2 (Zq (Zc (Za rfl) Zj) (Zj9 h3 hn))
    have st : ∀ {S' : FS} {d : PyData}, Znu S' (E none none none none) d → Told (J3 1 7 (Zu (wE (Zau Zam (Zb (Zd 0) Zm)) (Yh 1)) (Zu (wE (Zt Wh (Zb (Zd 1) Zm)) (Yh 2)) S'))) [Wq n R] d := fun q => Yi rfl <| Zw (Zn (Zbw (Zc Za Zj) (Zds n R))) <| Zw (Zn (Zq (Zc Za Zj) (Zod n (by omega)))) (by rw [hE] at q; exact q)
    refine st ?_
    unfold Zg7
    cases c : (rings n).find? fun r => (Zjc n R r).isNone with
    | none =>
      obtain ⟨δ', e, z3, z4, z5, z6, rfl⟩ := key.1 c
      exact Zw (Zc4 hi e) (Y8 Z0)
    | some r =>
      obtain ⟨o, δ', e, d⟩ := key.2 r c
      exact Zbm ⟨o, δ', Zc4 hi e, d⟩
  · obtain ⟨z3, z4, z5, z6, rfl⟩ := hI
    have hr : r ∈ rings n := by rw [← ea]; exact List.mem_append_right _ (.head _)
    obtain ⟨pm, _, _⟩ := (Zd6 h3).mp hr
    obtain ⟨δ', e, z5', z6', h⟩ := Zgs (ds := (Jw n).map ptD) (it := Zfi (Zd 2)) (g := gTp 2 (gCn (gNm 5) (gCn (gNm 6) gNl))) (S := Ww (tAn (tD (Zd 4)) (tV (Zf gLt (Zt Yj (Zb (Zd 0) (Zb (Zd 3) (Zb (Zd 5) (Zb (Zd 6) Zm))))) (fC (.int 0))))) (wE (fC (.bool false)) (Yh 4)) fNx) (δ := E (some (.fz (Zg r))) (some (.fz (.bool true))) z5 z6) (fun j δ => ∃ z5 z6, δ = E (some (.fz (Zg r))) (some (.fz (.bool (((Jw n).take j).all fun q => !decide (tq n R r q < 0))))) z5 z6) (by rw [hE]; exact Zb2 (Za rfl)) ⟨_, _, by rw [List.take_zero]; rfl⟩ (fun j d δ hd q => by
      obtain ⟨z5, z6, rfl⟩ := q
      rw [List.getElem?_map] at hd
      cases hq : (Jw n)[j]? with
      | none => rw [hq] at hd; cases hd
      | some q =>
        rw [hq] at hd
        cases hd
        obtain ⟨l1, l2⟩ := Zcs (List.mem_of_getElem? hq)
        obtain ⟨a, b⟩ := q
        rw [List.take_add_one, hq, Option.toList_some, List.all_append]
        obtain ⟨g, hg⟩ : ∃ g, g = ((Jw n).take j).all fun q => !decide (tq n R r q < 0) := ⟨_, rfl⟩
        rw [← hg]
        have tw : EvV (Zt Yj (Zb (Zd 0) (Zb (Zd 3) (Zb (Zd 5) (Zb (Zd 6) Zm))))) (E (some (.fz (Zg r))) (some (.fz (.bool g))) (some (.fz (.int a))) (some (.fz (.int b)))) (.int (tq n R r (a, b))) := by
          rw [hE]
          exact Zq (Zc (Za rfl) (Zc (Za rfl) (Zc (Za rfl) (Zc (Za rfl) Zj)))) (.of (Zj0 pm.inR (by omega) l1 l2) (OT.data_fz _))
        have tg : EvT (tD (Zd 4)) (E (some (.fz (Zg r))) (some (.fz (.bool g))) (some (.fz (.int a))) (some (.fz (.int b)))) g := Zjl (Za (by rw [hE]; rfl))
        refine ⟨E (some (.fz (Zg r))) (some (.fz (.bool g))) (some (.fz (.int a))) (some (.fz (.int b))), ?_⟩
        cases g with
        | false => exact ⟨_, by rw [hE]; rfl, .inl (Z3 (Zlv tg) rfl), _, _, by rw [Bool.false_and]⟩
        | true =>
          cases c : decide (tq n R r (a, b) < 0) with
          | false => exact ⟨_, by rw [hE]; rfl, .inl (Z3 (Zjk tg (Za6 (Zes tw Z0 c))) rfl), _, _, by rw [Bool.true_and, List.all_cons, List.all_nil, c]; rfl⟩
          | true => exact ⟨_, by rw [hE]; rfl, .inl (W9 (Zjk tg (Za6 (Zes tw Z0 c))) (Zn Z0)), some (.fz (.int a)), some (.fz (.int b)), by rw [hE, Bool.true_and, List.all_cons, List.all_nil, c]; rfl⟩)
    rw [List.length_map, List.take_length, Zrv] at h
    have s1 : Zu (wE (fC (.bool true)) (Yh 4)) (Zu (Za2 (Zfi (Zd 2)) (gTp 2 (gCn (gNm 5) (gCn (gNm 6) gNl))) (Ww (tAn (tD (Zd 4)) (tV (Zf gLt (Zt Yj (Zb (Zd 0) (Zb (Zd 3) (Zb (Zd 5) (Zb (Zd 6) Zm))))) (fC (.int 0))))) (wE (fC (.bool false)) (Yh 4)) fNx)) (Ww (tD (Zd 4)) (wE (Zd 3) Jj) fNx)) (E (some (.fz (Zg r))) z4 z5 z6) = (Ww (tD (Zd 4)) (wE (Zd 3) Jj) fNx) δ' := Yb (δ' := E (some (.fz (Zg r))) (some (.fz (.bool true))) z5 z6) ((Zn Z0).trans (by rw [hE]; rfl)) (Yb e rfl)
    subst h
    have tg : EvT (tD (Zd 4)) (E (some (.fz (Zg r))) (some (.fz (.bool (Zjc n R r).isNone))) z5' z6') (Zjc n R r).isNone := Zjl (Za (by rw [hE]; rfl))
    refine ⟨E (some (.fz (Zg r))) z4 z5 z6, by rw [hE]; rfl, fun c => ?_, fun c => ?_⟩
    · have c : (Zjc n R r).isNone = false := c
      rw [c] at tg
      exact ⟨_, s1.trans (Z3 (by unfold Zjc at c; rw [c]; exact tg) rfl), _, _, _, _, rfl⟩
    · have c : (Zjc n R r).isNone = true := c
      rw [c] at tg
      obtain ⟨o, δ2, e2, d2⟩ := Zdp (S' := fNx) tg (Y8 (Za (i := 3) (d := Zg r) (by rw [hE]; rfl)))
      exact ⟨o, δ2, s1.trans (by unfold Zjc at c; rw [c]; exact e2), d2⟩
theorem Zhp {n : Nat} {R : Nat → Nat → Int} (h3 : 3 ≤ n) (hn : n ≤ 6) {o : Option (List Int)} (ok : ∀ r, o = some r → Pm n r ∧ r.getD 0 0 = 0 ∧ r.getD 1 0 < r.getD (n - 1) 0 ∧ Zjc n R r = none) (first : ∀ r, Pm n r → r.getD 0 0 = 0 → r.getD 1 0 < r.getD (n - 1) 0 → Zjc n R r = none → ∃ r1, o = some r1 ∧ (r1 = r ∨ ltI r1 r = true)) : o = Zg7 n R := by
  unfold Zg7
  cases c : (rings n).find? fun r => (Zjc n R r).isNone with
  | none =>
    cases ho : o with
    | none => rfl
    | some r =>
      obtain ⟨a, b, d, e⟩ := ok r ho
      exact absurd (by rw [e]; rfl) (List.find?_eq_none.mp c r ((Zd6 h3).mpr ⟨a, b, d⟩))
  | some r0 =>
    obtain ⟨p0, as, bs, el, bef⟩ := List.find?_eq_some_iff_append.mp c
    have m0 : r0 ∈ rings n := by rw [el]; exact List.mem_append_right _ (.head _)
    obtain ⟨a, b, d⟩ := (Zd6 h3).mp m0
    obtain ⟨r1, ho, q⟩ := first r0 a b d (Option.isNone_iff_eq_none.mp p0)
    rw [ho]
    rcases q with q | q
    · rw [q]
    obtain ⟨a1, b1, d1, e1⟩ := ok r1 ho
    have m1 : r1 ∈ rings n := (Zd6 h3).mpr ⟨a1, b1, d1⟩
    rw [el] at m1
    rcases List.mem_append.mp m1 with m | m
    · have := bef r1 m
      rw [e1] at this
      cases this
    · rcases List.mem_cons.mp m with m | m
      · rw [m]
      · have up := Ztt n hn
        rw [el] at up
        have := (List.pairwise_cons.mp (List.pairwise_append.mp up).2.1).1 r1 m
        have z := Zy8 q this
        rw [Zwb] at z
        cases z
theorem Z1z (o : Option (List Int)) : gIs (opD o) .none = some (.bool o.isNone) := by cases o <;> rfl
theorem Z0f {δ : Zh} {i n : Nat} (h : δ[i]? = some (some (.fz (.int n)))) (hn : n ≤ 10) : EvV (Zwt (Zb (Zd i) Zm)) δ (Zg (Jd n)) := by
  refine ⟨.nd ((Zb3 0 n).map OT.fz), ?_, by rw [OT.data_nd, OT.map_fz]; exact Zru n⟩
  rw [Zov, Zct, Zhy, h, Zig, Option.bind_some, Zh8, Option.bind_some, Option.bind_some, J1, Za8, OT.data_fz, Zvp, if_pos ⟨Zfu (by omega) (by omega), by rw [sizeLine_eq]; omega⟩]; rfl
theorem Zem (k : Nat) (p : List Int) : Told (Zo (k + 2)) [Zg p, Zg p] (.bool true) := Zrc (ds := p.map PyData.int) (.inl rfl) fun d m => by
  obtain ⟨i, _, rfl⟩ := List.mem_map.mp m
  exact Zp1 k i
theorem Zkw {n : Nat} (h3 : 3 ≤ n) (hn : n ≤ 6) : Zg7 n (fun _ _ => 0) = some (Jd n) := by
  have hb : ∀ r, (Zjc n (fun _ _ => 0) r).isNone = true := fun r => by
    unfold Zjc
    rw [Option.isNone_iff_eq_none, List.find?_eq_none]
    intro q _ z
    exact absurd (of_decide_eq_true z) (by show ¬ (0 + 0 - 0 - 0 : Int) < 0; decide)
  have hd := Znn n hn h3
  unfold Zg7
  cases c : rings n with
  | nil => rw [c] at hd; cases hd
  | cons r l =>
    rw [c] at hd
    rw [List.find?_cons_of_pos (p := fun r => (Zjc n (fun _ _ => 0) r).isNone) (hb r)]
    exact hd
theorem Zn1 (n : Nat) : tbD (Zew n (fun _ _ => 0) 1) = .list ((List.range n).map fun _ => .list (List.replicate n (.tuple [.int 0, .int 1]))) := by
  unfold tbD Zew
  rw [List.map_map]
  congr 1
  refine List.map_congr_left fun i _ => ?_
  show Zg0 ((List.range n).map fun _ => Rat.divInt 0 1) = _
  unfold Zg0
  rw [List.map_map]
  congr 1
  rw [List.eq_replicate_iff]
  refine ⟨by rw [List.length_map, List.length_range], fun b hb => ?_⟩
  obtain ⟨_, _, rfl⟩ := List.mem_map.mp hb
  rfl
theorem Zvx {n : Nat} (hn : n ≤ 1000000) {v : Option OT} : (Zri (Zn6 (Zb (fC (.int 0)) (Zb (fC (.int 1)) Zm))) (Zd 1)) [v, some (.fz (.int n))] = some (.nd (List.replicate n (.fz (.tuple [.int 0, .int 1]))), [v, some (.fz (.int n))]) := by
  obtain ⟨_, e1, d1⟩ := Za (δ := [v, some (.fz (.int n))]) (i := 1) (d := .int n)
  obtain ⟨_, e0, d0⟩ := Zma (δ := [v, some (.fz (.int n))]) (Zc (Z0 (d := .int 0)) (Zc (Z0 (d := .int 1)) Zj)) (show 2 ≤ 1000 by decide)
  rw [Zqe, e0, Option.bind_some, e1, Option.bind_some, d1, Zlo, if_pos ⟨Zfu (by omega) (by omega), by rw [sizeLine_eq]; omega⟩, Int.toNat_natCast, d0]
noncomputable def lE (ns : List Int) (n : Nat) (c1 : Int) (o3 o4 o5 o6 o7 o8 o9 : Option OT) : Zh := [some (.fz (Zg ns)), some (.fz (.int n)), some (.fz (.int c1)), o3, o4, o5, o6, o7, o8, o9]
theorem Zsz (ns : List Int) (hl : ns.length ≤ 63) : Zev [.list (ns.map PyData.int)] = .ok (.fz (.bool true)) := by
  show Zev [Zg ns] = _
  obtain ⟨c0, e0⟩ := Zeu ns (k := 0) (by decide)
  obtain ⟨c1, e1⟩ := Zeu ns (k := 1) (by decide)
  obtain ⟨c2, e2⟩ := Zeu ns (k := 2) (by decide)
  obtain ⟨n, en, h3, hn⟩ : ∃ n : Nat, W0 [.int c0, .int 3, .int 5, .int 6] = .ok (.fz (.int n)) ∧ 3 ≤ n ∧ n ≤ 6 := by
    obtain ⟨m, e, h1, h2⟩ := Zx5 c0 (a := 3) (b := 5) (d := 6) (by decide) (by decide)
    exact ⟨m.toNat, by rw [e, Int.toNat_of_nonneg (by omega)], by omega, by omega⟩
  have n10 : n ≤ 10 := by omega
  obtain ⟨b, Tb, hb, bb⟩ := Zo1 c1
  obtain ⟨d1, T1, G1⟩ := Zrr ns h3 n10 c1
  obtain ⟨d2, z4, G2, s5⟩ : ∃ d2 z4, GoodR n d2 ∧ (Ww (tV (Zf gEq (Zf Zal (Zt Z1 (Zb (Zd 0) (Zb (fC (.int 2)) Zm))) (fC (.int 2))) (fC (.int 1)))) (Zu (wE (Zt Wk (Zb (Zf Jc (Zt Z1 (Zb (Zd 0) (Zb (fC (.int 2)) Zm))) (fC (.int 2))) (Zb (Zd 1) Zm))) (Yh 4)) (wE (Zt Yc (Zb (Zd 1) (Zb (Zt Ws (Zb (Zd 4) Zm)) (Zb (Zt Yk (Zb (Zd 0) (Zb (fC (.int 3)) (Zb (Zd 1) (Zb (Zd 2) Zm))))) Zm)))) (Yh 3))) fNx) (lE ns n c1 (some (.fz d1)) none none none none none none) = .nx (lE ns n c1 (some (.fz d2)) z4 none none none none none) := by
    have t := Za6 (Zfd (δ := lE ns n c1 (some (.fz d1)) none none none none none none) (Wb (Zq (Zc (Za (i := 0) rfl) (Zc Z0 Zj)) (.of e2 (OT.data_fz _))) (Z0 (d := .int 2)) (by decide)) (Z0 (d := .int 1)) rfl)
    cases c : decide (c2.fmod 2 = 1) with
    | false =>
      rw [c] at t
      exact ⟨d1, none, G1, Z3 t rfl⟩
    | true =>
      rw [c] at t
      obtain ⟨r, Tr, pr, _⟩ := Zlg (c2.fdiv 2) h3 n10
      obtain ⟨Ls, Ts, lL⟩ := Ztl pr.len n10
      obtain ⟨vs, Tv, _, hv⟩ := Zft ns 3 n c1 n10
      obtain ⟨L, eL, D, sy, _⟩ := Zqn n10 (Ls := Ls) lL hv
      exact ⟨_, some (.fz (Zg r)), ⟨L, rfl, D.wide (by decide), sy⟩, W9 t (Yb (δ' := lE ns n c1 (some (.fz d1)) (some (.fz (Zg r))) none none none none none) ((Zn (Zq (Zc (Jh (Zq (Zc (Za (i := 0) rfl) (Zc Z0 Zj)) (.of e2 (OT.data_fz _))) Z0) (Zc (Za (i := 1) rfl) Zj)) Tr)).trans rfl) ((Zn (Zq (Zc (Za (i := 1) rfl) (Zc (Zq (Zc (Za (i := 4) rfl) Zj) Ts) (Zc (Zq (Zc (Za (i := 0) rfl) (Zc (Z0 (d := .int 3)) (Zc (Za (i := 1) rfl) (Zc (Za (i := 2) rfl) Zj)))) Tv) Zj))) ⟨_, eL, rfl⟩)).trans rfl))⟩
  obtain ⟨R, rfl, W⟩ := G2.rows
  have Tt := Zjg n10 R hb bb
  obtain ⟨o, To, ok, first⟩ := Zdq h3 hn hb bb W
  have eo := Zhp h3 hn ok first
  have Tf := Zjm h3 hn R
  rw [← eo] at Tf
  obtain ⟨o0, T0, ok0, first0⟩ := Zdq (R := fun _ _ => 0) (b := 1) h3 hn (by decide) (btc (by decide +kernel) (by decide +kernel)) ⟨fun _ _ _ _ => ⟨rfl, rfl⟩, fun _ _ _ _ => btc (by decide +kernel) (by decide +kernel)⟩
  rw [Zhp h3 hn ok0 first0, Zkw h3 hn] at T0
  obtain ⟨T, hT⟩ : ∃ T, T = Zew n R b := ⟨_, rfl⟩
  rw [← hT] at Tt To
  have lT : T.length = n := by rw [hT, Zhr]
  have eC : ∀ {δ : Zh}, δ[5]? = some (some (.fz (tbD T))) → EvV (Y7 1 [] (Zfi (Zd 5)) (gNm 0) Zet (fBl Znw (Zb (Zd 0) Zm))) δ (tbD T) := fun h5 => Zdc (cs := []) T Zg0 Zg0 (Zb2 (Za h5)) (by omega) rfl fun x _ => Z0q (Zc Za Zj) (Zxk _) (by rw [OT.data_nd, OT.map_fz]; rfl)
  refine Told.ok (Yi rfl ?_)
  refine Zw (Zn (Zq (Zc (Zq (Zc Za (Zc Z0 Zj)) (.of e0 (OT.data_fz _))) (Zc Z0 (Zc Z0 (Zc Z0 Zj)))) (.of en (OT.data_fz _)))) <| Zw (Zn (Zq (Zc Za (Zc Z0 Zj)) (.of e1 (OT.data_fz _)))) <| Zw (Zn (Zq (Zc (Za (i := 0) rfl) (Zc Z0 (Zc (Za (i := 1) rfl) (Zc (Za (i := 2) rfl) Zj)))) T1)) <| Zw s5 <| Zw (Zn (Zq (Zc (Za rfl) (Zc (Zq (Zc (Za (i := 2) rfl) Zj) Tb) Zj)) Tt)) <| Zw (Zn (Zq (Zc (Za (i := 3) rfl) Zj) Tf)) <| Zw (Zn (eC rfl)) <| Zw (δ' := lE ns n c1 (some (.fz (Wq n R))) z4 (some (.fz (tbD T))) (some (.fz (opD o))) (some (.fz (tbD T))) (some (opO o)) none) ((Za3 (Zs8 (Zc (Za (i := 7) rfl) Zj) To)).trans rfl) <| Zw (Z3 (Za6 (Zy (Za (i := 7) rfl) (Za (i := 5) rfl) (Zsh (Z36 T) (L2.Zrp T) (by decide)))) rfl) ?_
  have ti : EvT (tV (Zf gIs (Zd 6) (fC .none))) (lE ns n c1 (some (.fz (Wq n R))) z4 (some (.fz (tbD T))) (some (.fz (opD o))) (some (.fz (tbD T))) (some (opO o)) none) o.isNone := Za6 (Zy (Za (i := 6) rfl) Z0 (Z1z o))
  cases co : o with
  | none =>
    rw [co] at ti
    exact Zbm (Zdp ti (Y8 (Zy (Zf3 (i := 8) rfl (Zm6 none)) Z0 (Z1z none))))
  | some r =>
    rw [co] at ti To
    refine Zw (Z3 ti rfl) <| Zw (Z3 (Zz7 (p := true) (Zjl (Zq (Zc (Zsq (i := 8) (p := r) rfl) (Zc (Za (i := 6) (d := Zg r) rfl) Zj)) (Zem 4 r)))) rfl) ?_
    have lr : r.length = n := (ok r co).1.len
    refine Zw (Zmt (ts := (r.map PyData.int).map OT.fz) (Z0 (d := .int 0)) rfl (by rw [List.length_map, List.length_map]; omega)) ?_
    refine Zw (Zn (d := tbD (Zew n (fun _ _ => 0) 1)) ((Zdc (cs := [some (.fz (.int n))]) (List.range n) (fun i : Nat => PyData.int (0 + (i : Int))) (fun _ => .list (List.replicate n (.tuple [.int 0, .int 1]))) (Zdx (n := n) (Zc (Za (i := 1) rfl) Zj) (by omega)) (by rw [List.length_range]; omega) rfl fun x _ => ?_).cast (Zn1 n).symm)) ?_
    · refine ⟨.nd (List.replicate n (.fz (.tuple [.int 0, .int 1]))), ?_, by rw [OT.data_nd, List.map_replicate, OT.data_fz]⟩
      exact Zvx (by omega)
    · exact Y8 (Zh2 (Zq (Zc ⟨_, Zs8 (Zc (Za (i := 5) rfl) Zj) To, Zej r⟩ (Zc (Za (i := 6) (d := Zg r) rfl) Zj)) (Zem 4 r)) (Zq (Zc ⟨_, Zs8 (Zc (Za (i := 9) rfl) Zj) T0, Zej _⟩ (Zc (Z0f (i := 1) rfl n10) Zj)) (Zem 4 (Jd n))))
end My
namespace L2
open PySem PySem.Spec PyProof.Rows
structure Ei (K : PySem.W.Frag) (x : Str) (st : Stmt) (f : Addr) (fd : FuncData) : Prop where
  a : PySem.W.nsIn K mainGlobals x = some (some (.ref f))
  F : Fun K x x st f fd
structure En (K : PySem.W.Frag) (mg : Str → Option Value) (x : Str) (st : Stmt) (ps : List Str) (f : Addr) (fd : FuncData) : Prop where
  F : Fun K x x st f fd
  b : Binds K fd ps []
  m : mg x = some (.ref f)
structure Ec (K : PySem.W.Frag) (mg : Str → Option Value) (x : Str) (f : Addr) : Prop where
  m : mg x = some (.ref f)
  a : ClsAt K x f
section
variable {K : PySem.W.Frag} {h : Heap} {mg : Str → Option Value} {x : Str} {st : Stmt} {f : Addr} {fd : FuncData}
theorem en0 (X : K.In h) (G : h.Ns mainGlobals mg) (q : Ei K x st f fd) {ps : List Str} (hb : ∀ (kV doc pm : Value) (an : Option Addr) (cdv ct : Value) (us : List Value), us.length = ps.length → bindArgs (PySem.W.fnOf x x (Zei st) (J8 st) (Zk st) .none kV doc pm an cdv ct) ⟨us, []⟩ = pure (ps.zip us)) : En K mg x st ps f fd := ⟨q.F, q.F.binds hb, PySem.W.mg_of X G q.a⟩
noncomputable abbrev Bd (x : Str) (st : Stmt) (ps : List Str) (us : List Value) : Prop := ∀ (kV doc pm : Value) (an : Option Addr) (cdv ct : Value), bindArgs (PySem.W.fnOf x x (Zei st) (J8 st) (Zk st) .none kV doc pm an cdv ct) ⟨us, []⟩ = pure (ps.zip us)
theorem l_c {us : List Value} {n : Nat} (h : us.length = n + 1) : ∃ u vs, us = u :: vs ∧ vs.length = n := by
  cases us with
  | nil => cases h
  | cons u vs => exact ⟨u, vs, rfl, Nat.succ.inj h⟩
theorem en1 (X : K.In h) (G : h.Ns mainGlobals mg) (q : Ei K x st f fd) {p0 : Str} (hb : ∀ v0, Bd x st [p0] [v0] := by exact fun _ _ _ _ _ _ _ => rfl) : En K mg x st [p0] f fd := en0 X G q fun a b c d e g us hl => by
  have h0 : us.length = 1 := hl
  obtain ⟨u0, us0, e0, h1⟩ := l_c h0
  cases List.eq_nil_of_length_eq_zero h1
  subst e0
  exact hb u0 a b c d e g
theorem en2 (X : K.In h) (G : h.Ns mainGlobals mg) (q : Ei K x st f fd) {p0 p1 : Str} (hb : ∀ v0 v1, Bd x st [p0, p1] [v0, v1] := by exact fun _ _ _ _ _ _ _ _ => rfl) : En K mg x st [p0, p1] f fd := en0 X G q fun a b c d e g us hl => by
  have h0 : us.length = 2 := hl
  obtain ⟨u0, us0, e0, h1⟩ := l_c h0
  obtain ⟨u1, us1, e1, h2⟩ := l_c h1
  cases List.eq_nil_of_length_eq_zero h2
  subst e1
  subst e0
  exact hb u0 u1 a b c d e g
theorem en3 (X : K.In h) (G : h.Ns mainGlobals mg) (q : Ei K x st f fd) {p0 p1 p2 : Str} (hb : ∀ v0 v1 v2, Bd x st [p0, p1, p2] [v0, v1, v2] := by exact fun _ _ _ _ _ _ _ _ _ => rfl) : En K mg x st [p0, p1, p2] f fd := en0 X G q fun a b c d e g us hl => by
  have h0 : us.length = 3 := hl
  obtain ⟨u0, us0, e0, h1⟩ := l_c h0
  obtain ⟨u1, us1, e1, h2⟩ := l_c h1
  obtain ⟨u2, us2, e2, h3⟩ := l_c h2
  cases List.eq_nil_of_length_eq_zero h3
  subst e2
  subst e1
  subst e0
  exact hb u0 u1 u2 a b c d e g
theorem en4 (X : K.In h) (G : h.Ns mainGlobals mg) (q : Ei K x st f fd) {p0 p1 p2 p3 : Str} (hb : ∀ v0 v1 v2 v3, Bd x st [p0, p1, p2, p3] [v0, v1, v2, v3] := by exact fun _ _ _ _ _ _ _ _ _ _ => rfl) : En K mg x st [p0, p1, p2, p3] f fd := en0 X G q fun a b c d e g us hl => by
  have h0 : us.length = 4 := hl
  obtain ⟨u0, us0, e0, h1⟩ := l_c h0
  obtain ⟨u1, us1, e1, h2⟩ := l_c h1
  obtain ⟨u2, us2, e2, h3⟩ := l_c h2
  obtain ⟨u3, us3, e3, h4⟩ := l_c h3
  cases List.eq_nil_of_length_eq_zero h4
  subst e3
  subst e2
  subst e1
  subst e0
  exact hb u0 u1 u2 u3 a b c d e g
theorem en5 (X : K.In h) (G : h.Ns mainGlobals mg) (q : Ei K x st f fd) {p0 p1 p2 p3 p4 : Str} (hb : ∀ v0 v1 v2 v3 v4, Bd x st [p0, p1, p2, p3, p4] [v0, v1, v2, v3, v4] := by exact fun _ _ _ _ _ _ _ _ _ _ _ => rfl) : En K mg x st [p0, p1, p2, p3, p4] f fd := en0 X G q fun a b c d e g us hl => by
  have h0 : us.length = 5 := hl
  obtain ⟨u0, us0, e0, h1⟩ := l_c h0
  obtain ⟨u1, us1, e1, h2⟩ := l_c h1
  obtain ⟨u2, us2, e2, h3⟩ := l_c h2
  obtain ⟨u3, us3, e3, h4⟩ := l_c h3
  obtain ⟨u4, us4, e4, h5⟩ := l_c h4
  cases List.eq_nil_of_length_eq_zero h5
  subst e4
  subst e3
  subst e2
  subst e1
  subst e0
  exact hb u0 u1 u2 u3 u4 a b c d e g
theorem ec (X : K.In h) (G : h.Ns mainGlobals mg) (a : PySem.W.nsIn K mainGlobals x = some (some (.ref f))) : Ec K mg x f := ⟨PySem.W.mg_of X G a, a⟩
end
theorem fsc {N P : List Str} {sc : Scope} (h1 : sc.kind = .function := by rfl) (h2 : sc.isCoroutine = false := by rfl) (h3 : sc.isGenerator = false := by rfl) (h4 : N.Nodup := by decide +kernel) (h5 : N.take P.length = P := by rfl) (h6 : ∀ x ∈ P, sc.names.lookup x = some .local ∨ sc.names.lookup x = some .cell := by decide +kernel) (h7 : ∀ y ∈ sc.names, y.2 ≠ .free := by decide +kernel) : Zv N P sc := ⟨h1, h2, h3, h4, h5, h6, h7⟩
end L2
namespace L2
open PySem PySem.Spec PyProof.Rows
section
variable {X : Cx} {io : List Nat} {iter tg : Expr} {body : List Stmt} {m : MXt} {pos : Pos}
end
section
variable {X : Cx} {io : List Nat} {e : Expr} {st : Stmt} {ra : FA} {F : FD} {gg : FG} {u : FS}
end
end L2
namespace L2
open PySem PySem.Spec PyProof.Rows
section
variable {X : Cx} {io : List Nat} {st : Stmt} {sts ss ss' : List Stmt} {f g : FS} {e : Expr} {es : List Expr} {p c : Bool} {ta : FT} {pos : Pos} {ra : FA}
noncomputable abbrev BS (X : Cx) (io : List Nat) (st : Stmt) (f : FS) : Prop := MS X io st (oS f) ∧ XS X io st (xS X.K f)
noncomputable abbrev BSs (X : Cx) (io : List Nat) (sts : List Stmt) (f : FS) : Prop := MSs X io sts (oS f) ∧ XSs X io sts (xS X.K f)
end
section
variable {X : Cx} {io : List Nat} {e : Expr} {es : List Expr} {p c : Bool} {ra : FA} {pos pp : Pos} {k k' : Nat} {f : Addr} {fd : FuncData} {ps : List Str} {x : Str} {F : FD} {st : Stmt}
theorem xce (G : FnOk X.prog X.w X.K X.mg X.base CX0 k f fd ps (spD X.K (sD F))) (hr : Room k' X.A) (E : En X.K X.mg x st ps f fd) (ha : MA X io p c (e :: es) (o2 ra)) (hle : k ≤ k' := by decide) (hg : Gl X x := by rfl) (h1 : (x == ("__debug__" : Str)) = false := by decide) (h2 : starEach (e :: es) X.env = (false, eval e X.env) :: starEach es X.env := by rfl) (h3 : ((backTo pos (starEach es X.env)).any fun x => x.fst) = false := by rfl) : ME X io p c (.Call (.Name x pp) (e :: es) [] pos) (o2 (Zt F ra)) := xcl G (hr.mono hle) E.m E.F.kp E.b ha hg h1 h2 h3
end
section
variable {X : Cx} {io : List Nat} {p ci pt pe : Bool} {tg iter elt : Expr} {ifs : List Expr} {sc : Scope} {pos : Pos} {mi : MIt} {g : MGt} {mt : MTt} {me : MEt}
theorem Zi0 (own : List Str) (caps : List Nat) (N' : List Str) (hi : MI X io p ci tg iter mi)
    (hg : ∀ C cells s₂ H₂ fp, MG (Yy X N' sc C cells s₂ H₂ fp) (Jm own.length caps) ci tg g) (ht : ∀ C cells s₂ H₂ fp, MIfs (Yy X N' sc C cells s₂ H₂ fp) (Jm own.length caps) pt ifs mt) (he : ∀ C cells s₂ H₂ fp, ME (Yy X N' sc C cells s₂ H₂ fp) (Jm own.length caps) pe true elt me)
    (S : CompScope X own caps N' sc := by exact ⟨rfl, by decide +kernel, rfl, by decide +kernel, rfl, rfl⟩) (hc : X.calm = true := by rfl) (nd : caps.Nodup := by decide) (hp : (pt && pe) = true := by rfl) (hs : ∀ x, foldedSetIterable iter X.env x = pure x := by intro _; rfl) : ME X io p true (.ListComp elt [⟨tg, iter, ifs, 0⟩] sc pos) (Zeh own.length caps mi g mt me) := Z07 S hc nd hi hg ht he hp hs
end
end L2
namespace My
open PySem L2 PySem.Spec
noncomputable def top (i : Nat) : Stmt := PySem.Challenge.pw_farcuts_k29_first_rings.main.body.getD i (.Pass ⟨0, 0, 0, 0⟩)
noncomputable abbrev Zdf : Stmt := top 17
noncomputable abbrev Zb6 : Stmt := top 20
noncomputable abbrev Zel : Stmt := top 14
noncomputable abbrev Zbp : Stmt := top 15
noncomputable abbrev Zax : Stmt := top 18
noncomputable abbrev Zdg : Stmt := top 24
noncomputable abbrev Zec : Stmt := top 21
noncomputable abbrev Zbf : Stmt := top 19
noncomputable abbrev Zdi : Stmt := top 25
noncomputable abbrev Zbn : Stmt := top 13
noncomputable abbrev Zaj : Stmt := top 32
noncomputable abbrev Zeb : Stmt := top 29
noncomputable abbrev Zde : Stmt := top 28
noncomputable abbrev Zdj : Stmt := top 33
noncomputable abbrev J7 : Stmt := top 26
noncomputable abbrev Zep : Stmt := top 27
noncomputable abbrev W8 : Stmt := top 31
noncomputable abbrev Zda : Stmt := top 30
noncomputable abbrev Zer : Stmt := top 23
noncomputable abbrev Zf2 : Stmt := top 16
noncomputable abbrev Zdb : Stmt := top 22
noncomputable abbrev Za0 : Stmt := top 8
noncomputable abbrev Zeq : Stmt := top 9
noncomputable abbrev Zbi : Stmt := top 10
noncomputable abbrev W3 : Stmt := top 1
noncomputable abbrev Zac : Stmt := top 3
noncomputable abbrev Za1 : Stmt := top 5
noncomputable abbrev Zc5 : Stmt := top 4
noncomputable abbrev Zcc : Stmt := top 6
noncomputable abbrev Zcg : Stmt := top 11
noncomputable abbrev Zxo : Stmt := top 34
set_option genInjectivity false in
set_option genSizeOfSpec false in
structure Txt (K : PySem.W.Frag) (mg : Str → Option Value) (f : Nat → Addr) (fd : Nat → FuncData) (cls : Nat → Addr) : Prop where
  e_law_alike : En K mg "_law_alike" Zdf ["found", "due"] (f 0) (fd 0)
  e_law_bottom : En K mg "_law_bottom" Zb6 ["cell"] (f 1) (fd 1)
  e_law_stir : En K mg "_law_stir" Zel ["cell", "k"] (f 2) (fd 2)
  e_law_numbers : En K mg "_law_numbers" Zbp ["cell", "many"] (f 3) (fd 3)
  e_law_clusters : En K mg "_law_clusters" Zax ["cell", "n"] (f 4) (fd 4)
  e_law_drawn : En K mg "_law_drawn" Zdg ["script", "start", "n", "base", "cell"] (f 5) (fd 5)
  e_law_rows : En K mg "_law_rows" Zec ["n", "sides", "weights"] (f 6) (fd 6)
  e_law_weights : En K mg "_law_weights" Zbf ["script", "start", "many", "cell"] (f 7) (fd 7)
  e_law_built : En K mg "_law_built" Zdi ["script", "start", "n", "cell"] (f 8) (fd 8)
  e_law_cell_at : En K mg "_law_cell_at" Zbn ["script", "k"] (f 9) (fd 9)
  e_law_all_rings : En K mg "_law_all_rings" Zaj ["n"] (f 10) (fd 10)
  e_law_gaps : En K mg "_law_gaps" Zeb ["n"] (f 11) (fd 11)
  e_law_twice : En K mg "_law_twice" Zde ["rows", "ring", "a", "b"] (f 12) (fd 12)
  e_law_first : En K mg "_law_first" Zdj ["rows"] (f 13) (fd 13)
  e_law_put_right : En K mg "_law_put_right" J7 ["ring"] (f 14) (fd 14)
  e_law_ring : En K mg "_law_ring" Zep ["cell", "n"] (f 15) (fd 15)
  e_law_ring_weights : En K mg "_law_ring_weights" W8 ["script", "start", "n", "cell"] (f 16) (fd 16)
  e_law_sides : En K mg "_law_sides" Zda ["ring"] (f 17) (fd 17)
  e_law_size : En K mg "_law_size" Zer ["cell", "least", "most", "great"] (f 18) (fd 18)
  e_law_low : En K mg "_law_low" Zf2 ["top", "bottom"] (f 19) (fd 19)
  e_law_table : En K mg "_law_table" Zdb ["rows", "bottom"] (f 20) (fd 20)
  e_twice_weight : En K mg "twice_weight" Za0 ["rows", "ring", "a", "b"] (f 21) (fd 21)
  e_fits_gap : En K mg "fits_gap" Zeq ["rows", "ring", "b"] (f 22) (fd 22)
  e_first_grown : En K mg "first_grown" Zbi ["rows", "begun"] (f 23) (fd 23)
  e_greatest_divisor : En K mg "greatest_divisor" W3 ["a", "b"] (f 24) (fd 24)
  e_shared_bottom : En K mg "shared_bottom" Zac ["numbers"] (f 25) (fd 25)
  e_table_bottom : En K mg "table_bottom" Za1 ["table"] (f 26) (fd 26)
  e_tops_over : En K mg "tops_over" Zc5 ["bottom", "numbers"] (f 27) (fd 27)
  e_table_over : En K mg "table_over" Zcc ["bottom", "table"] (f 28) (fd 28)
  e_first_ring : En K mg "first_ring" Zcg ["table"] (f 29) (fd 29)
  e_law : En K mg "law" Zxo ["script"] (f 30) (fd 30)
  z_abs : mg "abs" = none
  z_bool : mg "bool" = none
  z_int : mg "int" = none
  z_isinstance : mg "isinstance" = none
  z_len : mg "len" = none
  z_list : mg "list" = none
  z_max : mg "max" = none
  z_range : mg "range" = none
  z_sorted : mg "sorted" = none
  z_str : mg "str" = none
  z_tuple : mg "tuple" = none
  z_zip : mg "zip" = none
section
variable {P : Program} {w : World} {K : PySem.W.Frag} {mg : Str → Option Value} {base : Heap}
theorem Zcd : Zv ["found", "due", "one", "other"] ["found", "due"] (Zk Zdf) := fsc
theorem Zcj {f : Nat → Addr} {fd : Nat → FuncData} {cls : Nat → Addr} (T : Txt K mg f fd cls) : ∀ k, FnOk P w K mg base CX0 (1 + k) (f 0) (fd 0) ["found", "due"] (spD K (sD (Zo k)))
  | 0 => Zxj fun ds k h => by obtain ⟨r, h, _⟩ := h; cases h
  | k + 1 => by
    have G_rec := Zcj T k
    refine Yr T.e_law_alike.F Zcd (S := Wu (Zo k)) rfl rfl (fun cdv A outer s H E hr => ?_)
    have hu := hr.units
    exact (Zcw (Jk (Zic (Zh4 (Zex (Zez (Zd1 (Zh0 (by decide) (by rfl) T.z_isinstance L2.B.boot_isinstance (by rfl) T.z_int L2.B.boot_int (Ys (mv 1)))) (fun _ => rfl))) (Zi (Ze4 (Ze7 (Zi6 (Zsf (Zd1 (Zh0 (by decide) (by rfl) T.z_isinstance L2.B.boot_isinstance (by rfl) T.z_int L2.B.boot_int (Ys (mv 0)))) (Zi6 (Zsf (Zwl (Z3b (Zd1 (Zh0 (by decide) (by rfl) T.z_isinstance L2.B.boot_isinstance (by rfl) T.z_bool L2.B.boot_bool (Ys (mv 0)))))) (Zxq (Ji Z18 (Zpc (Zmw hu) Zr9 (Ys (mv 0)) (Ys (mv 1)) (hm := (Zae _)))))))))))) (Zbo Zbr)))
      (Zcw (Jk (Zic (Zh4 (Zex (Zez (Zd1 (Zh0 (by decide) (by rfl) T.z_isinstance L2.B.boot_isinstance (by rfl) T.z_str L2.B.boot_str (Ys (mv 1)))) (fun _ => rfl))) (Zi (Ze4 (Ze7 (Zi6 (Zsf (Zd1 (Zh0 (by decide) (by rfl) T.z_isinstance L2.B.boot_isinstance (by rfl) T.z_str L2.B.boot_str (Ys (mv 0)))) (Zxq (Ji Z18 (Zpc (Zmw hu) Zr9 (Ys (mv 0)) (Ys (mv 1)) (hm := (Zae _)))))))))) (Zbo Zbr)))
      (Zcw (Jk (Zic (Zh4 (MW.mt (Zye (Z0d (Zao Z2n (Zar (Zl5 hu) Ztr (Zd1 (Zh0 (by decide) (by rfl) T.z_isinstance L2.B.boot_isinstance (by rfl) T.z_tuple L2.B.boot_tuple (Ys (mv 1)))) (Zd1 (Zh0 (by decide) (by rfl) T.z_isinstance L2.B.boot_isinstance (by rfl) T.z_tuple L2.B.boot_tuple (Ys (mv 0)))) (hm := (Zae _)))) (Zuc (Zao Z2n (Zar (Zl5 hu) Ztr (Zd1 (Zh0 (by decide) (by rfl) T.z_isinstance L2.B.boot_isinstance (by rfl) T.z_list L2.B.boot_list (Ys (mv 1)))) (Zd1 (Zh0 (by decide) (by rfl) T.z_isinstance L2.B.boot_isinstance (by rfl) T.z_list L2.B.boot_list (Ys (mv 0)))) (hm := (Zae _)))))))) (Zi (Ze4 (Ze7 (Zgh Zgv)))) (Zbo Zbr)))
      (Zcw (Jk (Zic (Zh4 (Zao Z2n (Zar (Zl5 hu) Ztr (Zc1 Znz (Zgy Zhi (Zbd rfl) (by rfl) T.z_len L2.B.boot_len (Ze (Ys (mv 0)) (Zat Zan)))) (Zc1 Znz (Zgy Zhi (Zbd rfl) (by rfl) T.z_len L2.B.boot_len (Ze (Ys (mv 1)) (Zat Zan)))) (hm := (Zae _)))) (Zi (Ze4 (Ze7 (Zgh Zgv)))) (Zbo Zbr)))
      (Zcw (Jk (Zq2 (Zq9 PassesOwn.never rfl (Zit (Zhu (by rfl) T.z_zip L2.B.boot_zip (Ze (Ys (mv 0)) (Ze (Ys (mv 1)) (Zat Zan))))) (Zup (Zul (n := 2) (by rfl) (Zfj (Zfk (Ziv (Zh6 (i := 2) Zcd.nd)) (Zfj (Zfk (Ziv (Zh6 (i := 3) Zcd.nd)) (Zo7 Zn8)))))))
      (Zi (Zic (Zh4 (Zuz (Zuv (Zex (Zez (Zjb (Zmm G_rec hr (by rfl) T.e_law_alike.m T.e_law_alike.F.kp T.e_law_alike.b Zne (Ze (Ys (mv 2)) (Ze (Ys (mv 3)) (Zat Zan))))) (fun _ => rfl))))) (Zi (Ze4 (Ze7 (Zgh Zgv)))) (Zbo Zbr))))))
      (Zi (Ze4 (Ze7 (Zgh Zgv))))))))))))))
theorem Zjj {f : Nat → Addr} {fd : Nat → FuncData} {cls : Nat → Addr} (T : Txt K mg f fd cls) : FnOk P w K mg base CX0 7 (f 0) (fd 0) ["found", "due"] (spD K (sD (Zo 6))) := Zcj T 6
theorem Zih : Zv ["cell"] ["cell"] (Zk Zb6) := fsc
theorem Zil {f : Nat → Addr} {fd : Nat → FuncData} {cls : Nat → Addr} (T : Txt K mg f fd cls) : FnOk P w K mg base CX0 1 (f 1) (fd 1) ["cell"] (spD K (sD Wm)) := by
  refine Yr T.e_law_bottom.F Zih (S := Za5) rfl rfl (fun cdv A outer s H E hr => ?_)
  exact (Zi (xrt (xix (xls (Ze xci (Ze xci (Ze xci (xa1 (Zc2 (Zx9 xci xci) xci)))))) (Zek (Zlt (xv 0) xci) xci))))
theorem Zdk : Zv ["cell", "k", "one"] ["cell", "k"] (Zk Zel) := fsc
theorem Zai {f : Nat → Addr} {fd : Nat → FuncData} {cls : Nat → Addr} (T : Txt K mg f fd cls) : FnOk P w K mg base CX0 1 (f 2) (fd 2) ["cell", "k"] (spD K (sD Zr)) := by
  refine Yr T.e_law_stir.F Zdk (S := Zci) rfl rfl (fun cdv A outer s H E hr => ?_)
  exact (xsq (xst 2 Zdk.nd (Zek (Zl0 (Zc2 (Zc2 (Zek (xv 0) xci) (Zl0 xci (xv 1))) xci) xci) xci)) (xsq (xst 2 Zdk.nd (Zek (Zl0 (xv 2) (xv 2)) xci)) (Zi (xrt (Zlt (Zek (Zl0 (Zc2 (xv 2) (Zl0 xci (xv 1))) xci) xci) xci)))))
theorem Yx : Zv ["cell", "many", "found", "digits", "k", "number"] ["cell", "many"] (Zk Zbp) := fsc
theorem Zcz {f : Nat → Addr} {fd : Nat → FuncData} {cls : Nat → Addr} (T : Txt K mg f fd cls) : FnOk P w K mg base CX0 2 (f 3) (fd 3) ["cell", "many"] (spD K (sD Yw)) := by
  have G_law_stir := Zai (P := P) (w := w) (base := base) T
  refine Yr T.e_law_numbers.F Yx (S := Zav) rfl rfl (fun cdv A outer s H E hr => ?_)
  exact (xsq (xso 2 Yx.nd (xls xa0)) (xsq (xst 3 Yx.nd (xv 0)) (xsq (xfr PassesOwn.never rfl (Zc9 (Yp (by rfl) T.z_range (xa1 (xv 1)))) (xg 4 Yx.nd) (xsq (xst 5 Yx.nd (xce G_law_stir hr T.e_law_stir (Ze (xv 0) (xa1 (xv 4))))) (xsq (xif (xge (xv 0) (Zx9 xci xci)) (Zi (xst 5 Yx.nd (Zek (xv 3) xci))) xnl) (xsq (xst 3 Yx.nd (Zlt (xv 3) xci)) (Zi (Zag (Zaa 2 (xv 5)))))))) (Zi (Zbq (Zbl 2))))))
theorem Yn : Zv ["cell", "n", "numbers", "left", "found", "k", "one", "other"] ["cell", "n"] (Zk Zax) := fsc
theorem Zf6 {f : Nat → Addr} {fd : Nat → FuncData} {cls : Nat → Addr} (T : Txt K mg f fd cls) : FnOk P w K mg base CX0 3 (f 4) (fd 4) ["cell", "n"] (spD K (sD Z2)) := by
  have G_law_numbers := Zcz (P := P) (w := w) (base := base) T
  refine Yr T.e_law_clusters.F Yn (S := J5) rfl rfl (fun cdv A outer s H E hr => ?_)
  exact (xsq (xst 2 Yn.nd (xce G_law_numbers hr T.e_law_numbers (Ze (xv 0) (xa1 (Zl0 xci (xv 1)))))) (xsq (Ztm (Zla (i := 3) (own := ["point"]) (caps := []) (N' := ["point"]) Yn.nd rfl (Or.inl rfl) (by exact ⟨rfl, by decide +kernel, rfl, by decide +kernel, rfl, rfl⟩) (by rfl) (by decide) (Zsy (Zdu (by rfl) T.z_range (Ze xci (xa1 (xv 1))))) (fun _ _ _ _ _ => (xg 0 (by show List.Nodup (["point"] : List Str) ; decide +kernel))) (fun _ _ _ _ _ => (Jg Je)) (fun _ _ _ _ _ => (xls (xa1 (xv 0)))))) (xsq (xso 4 Yn.nd (Zr3 (Zxv 3 (by rfl) T.z_list L2.B.boot_list))) (xsq (xfr PassesOwn.never rfl (Zc9 (Yp (by rfl) T.z_range (xa1 (Zpt (xv 1) xci)))) (xg 5 Yn.nd) (xsq (xst 6 Yn.nd (Zpb (Zwg 3 (Zek (xix (xv 2) (Zl0 xci (xv 5))) (xln T.z_len (xa1 (xo 3))))))) (xsq (xst 7 Yn.nd (Zpb (Zwg 3 (Zek (xix (xv 2) (Zc2 (Zl0 xci (xv 5)) xci)) (xln T.z_len (xa1 (xo 3))))))) (xsq (Zag (Zaa 3 (Zxd Zpr (Z7l Zna (Zhh rfl) (by rfl) T.z_sorted L2.B.boot_sorted (xa1 (Zgx (Zch Zke (Zue (Zb7 rfl) Ze6 (xv 6) (xv 7))))))))) (Zi (Zag (Zaa 4 (Zzp (Z3n 3 (Zjx (Zoj xci)) (fun _ _ => rfl)))))))))) (Zi (Zbq (Zbl 4)))))))
theorem Wg : Zv ["script", "start", "n", "base", "cell", "rows", "i", "j", "at", "number"] ["script", "start", "n", "base", "cell"] (Zk Zdg) := fsc
theorem Zjr {f : Nat → Addr} {fd : Nat → FuncData} {cls : Nat → Addr} (T : Txt K mg f fd cls) : FnOk P w K mg base CX0 2 (f 5) (fd 5) ["script", "start", "n", "base", "cell"] (spD K (sD Wr)) := by
  have G_law_stir := Zai (P := P) (w := w) (base := base) T
  refine Yr T.e_law_drawn.F Wg (S := Zbv) rfl rfl (fun cdv A outer s H E hr => ?_)
  exact (xsq (Zi3 (Za4 (i := 5) (own := ["point"]) (caps := [2]) (N' := ["point", "n"]) true Wg.nd rfl (Or.inl rfl) (by exact ⟨rfl, by decide +kernel, rfl, by decide +kernel, rfl, rfl⟩) (by rfl) (by decide) (Zc9 (Yp (by rfl) T.z_range (xa1 (xv 2)))) (fun _ _ _ _ _ => (xg 0 (by show List.Nodup (["point", "n"] : List Str) ; decide +kernel))) (fun _ _ _ _ _ => (Jg Je)) (fun _ _ _ _ _ => (Zqd (Zvo xci (xv 1)))))) (xsq (xfr PassesOwn.never rfl (Zc9 (Yp (by rfl) T.z_range (xa1 (xv 2)))) (xg 6 Wg.nd) (Zi (xfr PassesOwn.never rfl (Zc9 (Yp (by rfl) T.z_range (xa1 (xv 6)))) (xg 7 Wg.nd) (xsq (xst 8 Wg.nd (Zc2 (Zlt (Zl0 (xv 6) (Zpt (xv 6) xci)) xci) (xv 7))) (xsq (xst 9 Wg.nd (xce G_law_stir hr T.e_law_stir (Ze (xv 4) (xa1 (Zc2 xci (xv 8)))))) (xsq (xif (xlt (Zc2 (xv 1) (xv 8)) (xln T.z_len (xa1 (xv 0)))) (Zi (xst 9 Wg.nd (xix (xv 0) (Zc2 (xv 1) (xv 8))))) xnl) (xsq (Zf1 (Zf7 5 (Zek (xv 9) (xv 3)) (xv 6) (xv 7) (fun _ _ => rfl))) (Zi (Zf1 (Zf7 5 (Zek (xv 9) (xv 3)) (xv 7) (xv 6) (fun _ _ => rfl))))))))))) (Zi (Zbq (Zbl 5)))))
theorem Jf : Zv ["n", "sides", "weights", "rows", "side", "weight", "i", "j"] ["n", "sides", "weights"] (Zk Zec) := fsc
theorem Zgd {f : Nat → Addr} {fd : Nat → FuncData} {cls : Nat → Addr} (T : Txt K mg f fd cls) : FnOk P w K mg base CX0 1 (f 6) (fd 6) ["n", "sides", "weights"] (spD K (sD Yc)) := by
  refine Yr T.e_law_rows.F Jf (S := Zb4) rfl rfl (fun cdv A outer s H E hr => ?_)
  have hu := hr.units
  exact (xsq (Zi3 (Za4 (i := 3) (own := ["point"]) (caps := [0]) (N' := ["point", "n"]) true Jf.nd rfl (Or.inl rfl) (by exact ⟨rfl, by decide +kernel, rfl, by decide +kernel, rfl, rfl⟩) (by rfl) (by decide) (Zc9 (Yp (by rfl) T.z_range (xa1 (xv 0)))) (fun _ _ _ _ _ => (xg 0 (by show List.Nodup (["point", "n"] : List Str) ; decide +kernel))) (fun _ _ _ _ _ => (Jg Je)) (fun _ _ _ _ _ => (Zqd (Zvo xci (xv 1)))))) (xsq (xfr PassesOwn.never rfl (Zit (Zhu (by rfl) T.z_zip L2.B.boot_zip (Ze (xv 1) (xa1 (xv 2))))) (xg2 rfl (xg 4 Jf.nd) (xg 5 Jf.nd)) (Zi (xfr PassesOwn.never rfl (Zc9 (Yp (by rfl) T.z_range (xa1 (xv 0)))) (xg 6 Jf.nd) (Zi (xfr PassesOwn.never rfl (Zc9 (Yp (by rfl) T.z_range (xa1 (xv 0)))) (xg 7 Jf.nd) (Zi (xif (xne hu (Ji Zt2 (Zpc (Zud rfl) Ztz (xv 6) (xv 4) (hm := (by with_unfolding_all rfl)))) (Ji Zt2 (Zpc (Zud rfl) Ztz (xv 7) (xv 4) (hm := (by with_unfolding_all rfl))))) (Zi (Zf1 (Zf7 3 (Zc2 (xix (xix (xo 3) (xv 6)) (xv 7)) (xv 5)) (xv 6) (xv 7) (fun _ _ => rfl)))) xnl))))))) (Zi (Zbq (Zbl 3)))))
theorem Wd : Zv ["script", "start", "many", "cell", "base", "found", "k", "number"] ["script", "start", "many", "cell"] (Zk Zbf) := fsc
theorem Zg5 {f : Nat → Addr} {fd : Nat → FuncData} {cls : Nat → Addr} (T : Txt K mg f fd cls) : FnOk P w K mg base CX0 2 (f 7) (fd 7) ["script", "start", "many", "cell"] (spD K (sD Ye)) := by
  have G_law_stir := Zai (P := P) (w := w) (base := base) T
  refine Yr T.e_law_weights.F Wd (S := Zaq) rfl rfl (fun cdv A outer s H E hr => ?_)
  exact (xsq (xst 4 Wd.nd (xix (xls (Ze xci (Ze xci (xa1 (Zx9 xci xci))))) (Zek (xv 3) xci))) (xsq (xso 5 Wd.nd (xls xa0)) (xsq (xfr PassesOwn.never rfl (Zc9 (Yp (by rfl) T.z_range (xa1 (xv 2)))) (xg 6 Wd.nd) (xsq (xst 7 Wd.nd (xce G_law_stir hr T.e_law_stir (Ze (xv 3) (xa1 (Zc2 xci (xv 6)))))) (xsq (xif (xlt (Zc2 (xv 1) (xv 6)) (xln T.z_len (xa1 (xv 0)))) (Zi (xst 7 Wd.nd (xix (xv 0) (Zc2 (xv 1) (xv 6))))) xnl) (Zi (Zag (Zaa 5 (Zek (xv 7) (xv 4)))))))) (Zi (Zbq (Zbl 5))))))
theorem Ym : Zv ["script", "start", "n", "cell", "way", "sides", "rows", "more", "i", "j", "by"] ["script", "start", "n", "cell"] (Zk Zdi) := fsc
theorem Zki {f : Nat → Addr} {fd : Nat → FuncData} {cls : Nat → Addr} (T : Txt K mg f fd cls) : FnOk P w K mg base CX0 4 (f 8) (fd 8) ["script", "start", "n", "cell"] (spD K (sD Jt)) := by
  have G_law_clusters := Zf6 (P := P) (w := w) (base := base) T
  have G_law_drawn := Zjr (P := P) (w := w) (base := base) T
  have G_law_rows := Zgd (P := P) (w := w) (base := base) T
  have G_law_stir := Zai (P := P) (w := w) (base := base) T
  have G_law_weights := Zg5 (P := P) (w := w) (base := base) T
  refine Yr T.e_law_built.F Ym (S := Zbu) rfl rfl (fun cdv A outer s H E hr => ?_)
  have hu := hr.units
  exact (xsq (xst 4 Ym.nd (Zek (Zlt (xv 3) xci) xci)) (xsq (xif (xeq hu (xv 4) xci) (Zi (xrt (xce G_law_drawn hr T.e_law_drawn (Ze (xv 0) (Ze (xv 1) (Ze (xv 2) (Ze (xix (xls (Ze xci (Ze xci (Ze xci (xa1 (Zx9 xci xci)))))) (Zek (Zlt (xv 3) xci) xci)) (xa1 (xv 3))))))))) xnl) (xsq (xst 5 Ym.nd (xce G_law_clusters hr T.e_law_clusters (Ze (Zlt (xv 3) xci) (xa1 (xv 2))))) (xsq (xso 6 Ym.nd (xce G_law_rows hr T.e_law_rows (Ze (xv 2) (Ze (xv 5) (xa1 (xce G_law_weights hr T.e_law_weights (Ze (xv 0) (Ze (xv 1) (Ze (xln T.z_len (xa1 (xv 5))) (xa1 (xv 3))))))))))) (xsq (xif (xeq hu (xv 4) xci) (xsq (xst 5 Ym.nd (xce G_law_clusters hr T.e_law_clusters (Ze (xce G_law_stir hr T.e_law_stir (Ze (xv 3) (xa1 xci))) (xa1 (xv 2))))) (xsq (xst 7 Ym.nd (xce G_law_rows hr T.e_law_rows (Ze (xv 2) (Ze (xv 5) (xa1 (xce G_law_weights hr T.e_law_weights (Ze (xv 0) (Ze (Zc2 (xv 1) xci) (Ze (xln T.z_len (xa1 (xv 5))) (xa1 (xv 3))))))))))) (Zi (Zgk (Zf5 6 (Zi3 (Za4 (i := 6) (own := ["row", "others"]) (caps := []) (N' := ["row", "others"]) true Ym.nd rfl (Or.inl rfl) (by exact ⟨rfl, by decide +kernel, rfl, by decide +kernel, rfl, rfl⟩) (by rfl) (by decide) (Zit (Zhu (by rfl) T.z_zip L2.B.boot_zip (Ze (xv 6) (xa1 (xv 7))))) (fun _ _ _ _ _ => (xg2 rfl (xg 0 (by show List.Nodup (["row", "others"] : List Str) ; decide +kernel)) (xg 1 (by show List.Nodup (["row", "others"] : List Str) ; decide +kernel)))) (fun _ _ _ _ _ => (Jg Je)) (fun _ _ _ _ _ => (Zbg (Zi0 ["one", "other"] [] ["one", "other"] (Zit (Zhu (by rfl) T.z_zip L2.B.boot_zip (Ze (xv 0) (xa1 (xv 1))))) (fun _ _ _ _ _ => (xg2 rfl (xg 0 (by show List.Nodup (["one", "other"] : List Str) ; decide +kernel)) (xg 1 (by show List.Nodup (["one", "other"] : List Str) ; decide +kernel)))) (fun _ _ _ _ _ => (Jg Je)) (fun _ _ _ _ _ => (Zc2 (xv 0) (xv 1))))))))))))) xnl) (xsq (xif (MW.mt (Zye (Z0d (xeq hu (xv 4) xci) (Zuc (xeq hu (xv 4) xci))))) (xsq (xst 8 Ym.nd (Zek (xce G_law_stir hr T.e_law_stir (Ze (xv 3) (xa1 xci))) (xv 2))) (xsq (xst 9 Ym.nd (Zek (xce G_law_stir hr T.e_law_stir (Ze (xv 3) (xa1 xci))) (xv 2))) (xsq (xst 10 Ym.nd (xix (xls (Ze xci (Ze (Zl0 xci (xv 4)) (xa1 (Zx9 xci xci))))) (Zek (xce G_law_stir hr T.e_law_stir (Ze (xv 3) (xa1 xci))) xci))) (Zi (xif (xne hu (xv 8) (xv 9)) (xsq (Zf1 (Zf7 6 (Zc1 Z38 (Zgy Zva (Zpx (by rfl)) (by rfl) T.z_max L2.B.boot_max (Ze xci (xa1 (Zc2 (xix (xix (xo 6) (xv 8)) (xv 9)) (Zl0 (Zpt xci (xv 4)) (xv 10))))))) (xv 8) (xv 9) (fun _ _ => rfl))) (Zi (Zf1 (Zf7 6 (Zvh (Z04 (xix (xix (xo 6) (xv 8)) (xv 9)))) (xv 9) (xv 8) (fun _ _ => rfl))))) xnl))))) xnl) (Zi (Zbq (Zbl 6)))))))))
theorem Zgz : Zv ["script", "k"] ["script", "k"] (Zk Zbn) := fsc
theorem Zg2 {f : Nat → Addr} {fd : Nat → FuncData} {cls : Nat → Addr} (T : Txt K mg f fd cls) : FnOk P w K mg base CX0 1 (f 9) (fd 9) ["script", "k"] (spD K (sD Z1)) := by
  refine Yr T.e_law_cell_at.F Zgz (S := Zas) rfl rfl (fun cdv A outer s H E hr => ?_)
  exact (xsq (xif (xlt (xv 1) (xln T.z_len (xa1 (xv 0)))) (Zi (xrt (xix (xv 0) (xv 1)))) xnl) (Zi (xrt xci)))
theorem Yu : Zv ["n", "rings", "k", "longer", "ring"] ["n"] (Zk Zaj) := fsc
theorem Zfe {f : Nat → Addr} {fd : Nat → FuncData} {cls : Nat → Addr} (T : Txt K mg f fd cls) : FnOk P w K mg base CX0 1 (f 10) (fd 10) ["n"] (spD K (sD Yz)) := by
  refine Yr T.e_law_all_rings.F Yu (S := J0) rfl rfl (fun cdv A outer s H E hr => ?_)
  exact (xsq (xst 1 Yu.nd (xls (xa1 (xls (xa1 xci))))) (xsq (xfr PassesOwn.never rfl (Zc9 (Yp (by rfl) T.z_range (xa1 (Zpt (xv 0) xci)))) (xg 2 Yu.nd) (xsq (xso 3 Yu.nd (xls xa0)) (xsq (xfr PassesOwn.never rfl (xil (xv 1)) (xg 4 Yu.nd) (Zi (Zkb (Zk0 3 (Zbg (Zi0 ["point"] [4] ["point", "ring"] (Zsy (Zdu (by rfl) T.z_range (Ze xci (xa1 (xv 0))))) (fun _ _ _ _ _ => (xg 0 (by show List.Nodup (["point", "ring"] : List Str) ; decide +kernel))) (fun _ _ _ _ _ => (Zpj (Zao Zt2 (Zar (Zkl rfl) Ztz (xv 0) (xv 1) (hm := (by with_unfolding_all rfl)))))) (fun _ _ _ _ _ => (Zgx (Zch Zke (Zue (Zb7 rfl) Ze6 (xv 1) (xls (xa1 (xv 0))))))))))))) (Zi (Zgk (Zf5 3 (xst 1 Yu.nd (xv 3)))))))) (Zi (xrt (Zbg (Zi0 ["ring"] [] ["ring"] (xil (xv 1)) (fun _ _ _ _ _ => (xg 0 (by show List.Nodup (["ring"] : List Str) ; decide +kernel))) (fun _ _ _ _ _ => (Zpj (xlt (xix (xv 0) xci) (xix (xv 0) (Zjx (Zoj xci)))))) (fun _ _ _ _ _ => (xv 0))))))))
theorem Zdh : Zv ["n", "found", "a"] ["n"] (Zk Zeb) := fsc
theorem Zgl {f : Nat → Addr} {fd : Nat → FuncData} {cls : Nat → Addr} (T : Txt K mg f fd cls) : FnOk P w K mg base CX0 1 (f 11) (fd 11) ["n"] (spD K (sD Wh)) := by
  refine Yr T.e_law_gaps.F Zdh (S := Zb5) rfl rfl (fun cdv A outer s H E hr => ?_)
  exact (xsq (xso 1 Zdh.nd (xls xa0)) (xsq (xfr PassesOwn.never rfl (Zc9 (Yp (by rfl) T.z_range (xa1 (xv 0)))) (xg 2 Zdh.nd) (Zi (Zkb (Zk0 1 (Zbg (Zi0 ["b"] [2] ["b", "a"] (Zsy (Zdu (by rfl) T.z_range (Ze (Zc2 (xv 2) xci) (xa1 (xv 0))))) (fun _ _ _ _ _ => (xg 0 (by show List.Nodup (["b", "a"] : List Str) ; decide +kernel))) (fun _ _ _ _ _ => (Jg Je)) (fun _ _ _ _ _ => (xtp (Ze (xv 1) (xa1 (xv 0))))))))))) (Zi (Zbq (Zbl 1)))))
theorem Wy : Zv ["rows", "ring", "a", "b", "x", "p", "y", "q", "straight"] ["rows", "ring", "a", "b"] (Zk Zde) := fsc
theorem Zjp {f : Nat → Addr} {fd : Nat → FuncData} {cls : Nat → Addr} (T : Txt K mg f fd cls) : FnOk P w K mg base CX0 1 (f 12) (fd 12) ["rows", "ring", "a", "b"] (spD K (sD Yj)) := by
  refine Yr T.e_law_twice.F Wy (S := Zby) rfl rfl (fun cdv A outer s H E hr => ?_)
  exact (xsq (xst 4 Wy.nd (xix (xv 1) (xv 2))) (xsq (xst 5 Wy.nd (xix (xv 1) (Zc2 (xv 2) xci))) (xsq (xst 6 Wy.nd (xix (xv 1) (xv 3))) (xsq (xst 7 Wy.nd (xix (Zgx (Zch Zke (Zue (Zb7 rfl) Ze6 (xv 1) (xv 1)))) (Zc2 (xv 3) xci))) (xsq (xst 8 Wy.nd (Zc2 (xix (xix (xv 0) (xv 4)) (xv 6)) (xix (xix (xv 0) (xv 5)) (xv 7)))) (Zi (xrt (Zpt (Zpt (xv 8) (xix (xix (xv 0) (xv 4)) (xv 7))) (xix (xix (xv 0) (xv 5)) (xv 6))))))))))
theorem Y9 : Zv ["rows", "n", "gaps", "ring", "good", "a", "b"] ["rows"] (Zk Zdj) := fsc
theorem Zj5 {f : Nat → Addr} {fd : Nat → FuncData} {cls : Nat → Addr} (T : Txt K mg f fd cls) : FnOk P w K mg base CX0 2 (f 13) (fd 13) ["rows"] (spD K (sD Jq)) := by
  have G_law_all_rings := Zfe (P := P) (w := w) (base := base) T
  have G_law_gaps := Zgl (P := P) (w := w) (base := base) T
  have G_law_twice := Zjp (P := P) (w := w) (base := base) T
  refine Yr T.e_law_first.F Y9 (S := Zb1) rfl rfl (fun cdv A outer s H E hr => ?_)
  exact (xsq (xst 1 Y9.nd (xln T.z_len (xa1 (xv 0)))) (xsq (xst 2 Y9.nd (xce G_law_gaps hr T.e_law_gaps (xa1 (xv 1)))) (xsq (xfr PassesOwn.never rfl (xil (xce G_law_all_rings hr T.e_law_all_rings (xa1 (xv 1)))) (xg 3 Y9.nd) (xsq (xst 4 Y9.nd (Zgh Zgv)) (xsq (xfr PassesOwn.never rfl (xil (xv 2)) (xg2 rfl (xg 5 Y9.nd) (xg 6 Y9.nd)) (Zi (xif (MW.mt (Zmj (Zmf (Zex (Zez (xv 4) (fun _ => rfl))) (Zia (xlt (xce G_law_twice hr T.e_law_twice (Ze (xv 0) (Ze (xv 3) (Ze (xv 5) (xa1 (xv 6)))))) xci))))) (Zi (xst 4 Y9.nd (Zgh Zgv))) xnl))) (Zi (xif (Zex (Zez (xv 4) (fun _ => rfl))) (Zi (xrt (xv 3))) xnl))))) (Zi (xrt (Zgh Zfr))))))
theorem Wt : Zv ["ring", "at", "wound"] ["ring"] (Zk J7) := fsc
theorem Zfc {f : Nat → Addr} {fd : Nat → FuncData} {cls : Nat → Addr} (T : Txt K mg f fd cls) : FnOk P w K mg base CX0 1 (f 14) (fd 14) ["ring"] (spD K (sD Wn)) := by
  refine Yr T.e_law_put_right.F Wt (S := Jx) rfl rfl (fun cdv A outer s H E hr => ?_)
  exact (xsq (xst 1 Wt.nd (Zr5 (Zwu (xv 0) xci))) (xsq (xst 2 Wt.nd (Zgx (Zch Zke (Zue (Zb7 rfl) Ze6 (Zsc (Ztk (xv 0) (Zc7 (Zdd (xv 1))) (Zik Zjd))) (Zsc (Ztk (xv 0) (Zik Zjd) (Zc7 (Zdd (xv 1))))))))) (xsq (xif (MW.mt (Zmj (Zmf (xgt (xln T.z_len (xa1 (xv 2))) xci) (Zia (xgt (xix (xv 2) xci) (xix (xv 2) (Zjx (Zoj xci)))))))) (Zi (xst 2 Wt.nd (Zgx (Zch Zke (Zue (Zb7 rfl) Ze6 (Zsc (Ztk (xv 2) (Zik Zjd) (Zc7 (Zdd xci)))) (Zv0 (Zza (xv 2) (Zik Zjd) (Zc7 (Zdd xci)) (Zc7 (Zdd (Zjx (Zoj xci))))))))))) xnl) (Zi (xrt (xv 2))))))
theorem J6 : Zv ["cell", "n", "numbers", "left", "ring", "k"] ["cell", "n"] (Zk Zep) := fsc
theorem Zll {f : Nat → Addr} {fd : Nat → FuncData} {cls : Nat → Addr} (T : Txt K mg f fd cls) : FnOk P w K mg base CX0 3 (f 15) (fd 15) ["cell", "n"] (spD K (sD Wk)) := by
  have G_law_numbers := Zcz (P := P) (w := w) (base := base) T
  have G_law_put_right := Zfc (P := P) (w := w) (base := base) T
  refine Yr T.e_law_ring.F J6 (S := Zb8) rfl rfl (fun cdv A outer s H E hr => ?_)
  exact (xsq (xst 2 J6.nd (xce G_law_numbers hr T.e_law_numbers (Ze (xv 0) (xa1 (xv 1))))) (xsq (xso 3 J6.nd (Zt7 (Zjn (by rfl) (by rfl) T.z_list L2.B.boot_list (by rfl) T.z_range L2.B.boot_range (xa1 (xv 1))))) (xsq (xso 4 J6.nd (xls xa0)) (xsq (xfr PassesOwn.never rfl (Zc9 (Yp (by rfl) T.z_range (xa1 (xv 1)))) (xg 5 J6.nd) (Zi (Zag (Zaa 4 (Zpb (Zwg 3 (Zek (xix (xv 2) (xv 5)) (xln T.z_len (xa1 (xo 3)))))))))) (Zi (Zgk (Zf5 4 (xrt (xce G_law_put_right hr T.e_law_put_right (xa1 (xv 4)))))))))))
theorem Z6 : Zv ["script", "start", "n", "cell", "base", "found", "k", "number"] ["script", "start", "n", "cell"] (Zk W8) := fsc
theorem Zc8 {f : Nat → Addr} {fd : Nat → FuncData} {cls : Nat → Addr} (T : Txt K mg f fd cls) : FnOk P w K mg base CX0 2 (f 16) (fd 16) ["script", "start", "n", "cell"] (spD K (sD Yk)) := by
  have G_law_stir := Zai (P := P) (w := w) (base := base) T
  refine Yr T.e_law_ring_weights.F Z6 (S := W4) rfl rfl (fun cdv A outer s H E hr => ?_)
  exact (xsq (xst 4 Z6.nd (xix (xls (Ze xci (Ze xci (xa1 (Zx9 xci xci))))) (Zek (xv 3) xci))) (xsq (xso 5 Z6.nd (xls xa0)) (xsq (xfr PassesOwn.never rfl (Zc9 (Yp (by rfl) T.z_range (xa1 (Zlt (Zl0 (xv 2) (Zpt (xv 2) xci)) xci)))) (xg 6 Z6.nd) (xsq (xst 7 Z6.nd (xce G_law_stir hr T.e_law_stir (Ze (xv 3) (xa1 (Zc2 xci (xv 6)))))) (xsq (xif (xlt (Zc2 (xv 1) (xv 6)) (xln T.z_len (xa1 (xv 0)))) (Zi (xst 7 Z6.nd (xix (xv 0) (Zc2 (xv 1) (xv 6))))) xnl) (Zi (Zag (Zaa 5 (Zek (xv 7) (xv 4)))))))) (Zi (Zbq (Zbl 5))))))
theorem Zjv : Zv ["ring"] ["ring"] (Zk Zda) := fsc
theorem Zkk {f : Nat → Addr} {fd : Nat → FuncData} {cls : Nat → Addr} (T : Txt K mg f fd cls) : FnOk P w K mg base CX0 2 (f 17) (fd 17) ["ring"] (spD K (sD Ws)) := by
  have G_law_gaps := Zgl (P := P) (w := w) (base := base) T
  refine Yr T.e_law_sides.F Zjv (S := Zbx) rfl rfl (fun cdv A outer s H E hr => ?_)
  exact (Zi (xrt (Zbg (Zi0 ["a", "b"] [0] ["a", "b", "ring"] (xil (xce G_law_gaps hr T.e_law_gaps (xa1 (xln T.z_len (xa1 (xv 0)))))) (fun _ _ _ _ _ => (xg2 rfl (xg 0 (by show List.Nodup (["a", "b", "ring"] : List Str) ; decide +kernel)) (xg 1 (by show List.Nodup (["a", "b", "ring"] : List Str) ; decide +kernel)))) (fun _ _ _ _ _ => (Jg Je)) (fun _ _ _ _ _ => (Zxd Zpr (Z7l Zna (Zhh rfl) (by rfl) T.z_sorted L2.B.boot_sorted (xa1 (Zsc (Ztk (xv 2) (Zc7 (Zdd (Zc2 (xv 0) xci))) (Zc7 (Zdd (Zc2 (xv 1) xci)))))))))))))
theorem Zk8 : Zv ["cell", "least", "most", "great"] ["cell", "least", "most", "great"] (Zk Zer) := fsc
theorem Zlp {f : Nat → Addr} {fd : Nat → FuncData} {cls : Nat → Addr} (T : Txt K mg f fd cls) : FnOk P w K mg base CX0 1 (f 18) (fd 18) ["cell", "least", "most", "great"] (spD K (sD W0)) := by
  refine Yr T.e_law_size.F Zk8 (S := Zck) rfl rfl (fun cdv A outer s H E hr => ?_)
  have hu := hr.units
  exact (xsq (xif (xeq hu (Zek (Zlt (xv 0) xci) xci) xci) (Zi (xrt (Zc2 (Zc2 (xv 2) xci) (Zek (Zlt (xv 0) xci) (Zpt (xv 3) (xv 2)))))) xnl) (Zi (xrt (Zc2 (xv 1) (Zek (xv 0) (Zpt (Zc2 (xv 2) xci) (xv 1)))))))
theorem J2 : Zv ["top", "bottom", "one", "other", "left"] ["top", "bottom"] (Zk Zf2) := fsc
theorem Znt {f : Nat → Addr} {fd : Nat → FuncData} {cls : Nat → Addr} (T : Txt K mg f fd cls) : FnOk P w K mg base CX0 1 (f 19) (fd 19) ["top", "bottom"] (spD K (sD Zaz)) := by
  refine Yr T.e_law_low.F J2 (S := Zcv) rfl rfl (fun cdv A outer s H E hr => ?_)
  have hu := hr.units
  exact (xsq (xst 2 J2.nd (Zc1 Zv5 (Zgy Zpn Zib (by rfl) T.z_abs L2.B.boot_abs (xa1 (xv 0))))) (xsq (xst 3 J2.nd (xv 1)) (xsq (Zmg (Znd PassesOwn.never (xne hu (xv 3) xci) (xsq (xst 4 J2.nd (Zek (xv 2) (xv 3))) (xsq (xst 2 J2.nd (xv 3)) (Zi (xst 3 J2.nd (xv 4))))))) (Zi (xrt (xtp (Ze (Zlt (xv 0) (xv 2)) (xa1 (Zlt (xv 1) (xv 2))))))))))
theorem Zj2 : Zv ["rows", "bottom"] ["rows", "bottom"] (Zk Zdb) := fsc
theorem Zjh {f : Nat → Addr} {fd : Nat → FuncData} {cls : Nat → Addr} (T : Txt K mg f fd cls) : FnOk P w K mg base CX0 2 (f 20) (fd 20) ["rows", "bottom"] (spD K (sD Jr)) := by
  have G_law_low := Znt (P := P) (w := w) (base := base) T
  refine Yr T.e_law_table.F Zj2 (S := Zbz) rfl rfl (fun cdv A outer s H E hr => ?_)
  exact (Zi (xrt (Zbg (Zi0 ["row"] [1] ["row", "bottom"] (xil (xv 0)) (fun _ _ _ _ _ => (xg 0 (by show List.Nodup (["row", "bottom"] : List Str) ; decide +kernel))) (fun _ _ _ _ _ => (Jg Je)) (fun _ _ _ _ _ => (Zbg (Zi0 ["one"] [1] ["one", "bottom"] (xil (xv 0)) (fun _ _ _ _ _ => (xg 0 (by show List.Nodup (["one", "bottom"] : List Str) ; decide +kernel))) (fun _ _ _ _ _ => (Jg Je)) (fun _ _ _ _ _ => (xce G_law_low hr T.e_law_low (Ze (xv 0) (xa1 (xv 1))))))))))))
theorem Wi : Zv ["rows", "ring", "a", "b", "x", "p", "y", "q"] ["rows", "ring", "a", "b"] (Zk Za0) := fsc
theorem Zge {f : Nat → Addr} {fd : Nat → FuncData} {cls : Nat → Addr} (T : Txt K mg f fd cls) : FnOk P w K mg base CX0 1 (f 21) (fd 21) ["rows", "ring", "a", "b"] (spD K (sD Yo)) := by
  refine Yr T.e_twice_weight.F Wi (S := Zah) rfl rfl (fun cdv A outer s H E hr => ?_)
  exact (xsq (xst 4 Wi.nd (xix (xv 1) (xv 2))) (xsq (xst 5 Wi.nd (xix (xv 1) (Zc2 (xv 2) xci))) (xsq (xst 6 Wi.nd (xix (xv 1) (xv 3))) (xsq (xst 7 Wi.nd (xix (xv 1) (Zek (Zc2 (xv 3) xci) (xln T.z_len (xa1 (xv 0)))))) (Zi (xrt (Zpt (Zpt (Zc2 (xix (xix (xv 0) (xv 4)) (xv 6)) (xix (xix (xv 0) (xv 5)) (xv 7))) (xix (xix (xv 0) (xv 4)) (xv 7))) (xix (xix (xv 0) (xv 5)) (xv 6)))))))))
theorem Zga : Zv ["rows", "ring", "b", "a"] ["rows", "ring", "b"] (Zk Zeq) := fsc
theorem Zle {f : Nat → Addr} {fd : Nat → FuncData} {cls : Nat → Addr} (T : Txt K mg f fd cls) : FnOk P w K mg base CX0 2 (f 22) (fd 22) ["rows", "ring", "b"] (spD K (sD Z9)) := by
  have G_twice_weight := Zge (P := P) (w := w) (base := base) T
  refine Yr T.e_fits_gap.F Zga (S := Zcb) rfl rfl (fun cdv A outer s H E hr => ?_)
  exact (xsq (xfr PassesOwn.never rfl (Zc9 (Yp (by rfl) T.z_range (xa1 (xv 2)))) (xg 3 Zga.nd) (Zi (xif (xlt (xce G_twice_weight hr T.e_twice_weight (Ze (xv 0) (Ze (xv 1) (Ze (xv 3) (xa1 (xv 2)))))) xci) (Zi (xrt (Zgh Zgv))) xnl))) (Zi (xrt (Zgh Zgv))))
theorem Jl : Zv ["rows", "begun", "n", "point", "found"] ["rows", "begun"] (Zk Zbi) := fsc
theorem Zbb {f : Nat → Addr} {fd : Nat → FuncData} {cls : Nat → Addr} (T : Txt K mg f fd cls) : ∀ k, FnOk P w K mg base CX0 (3 + k) (f 23) (fd 23) ["rows", "begun"] (spM K (sM (Zx k)))
  | 0 => Zsl fun ds k h => by obtain ⟨r, h, _⟩ := h; cases h
  | k + 1 => by
    have G_rec := Zbb T k
    have G_fits_gap := Zle (P := P) (w := w) (base := base) T
    refine Zyh T.e_first_grown.F Jl (S := Wf (Zx k)) rfl rfl (fun cdv A outer s H E hr => ?_)
    have hu := hr.units
    exact (Zcw (Jk (Zps (Zpl (i := 2) Jl.nd rfl (Or.inl rfl) (Zc1 Znz (Zgy Zhi (Zbd rfl) (by rfl) T.z_len L2.B.boot_len (Ze (Ys (mv 0)) (Zat Zan))))))
      (Zcw (Jk (Zic (Zh4 (Zao Z18 (Zar (Zmw hu) Zr9 (Zc1 Znz (Zgy Zhi (Zbd rfl) (by rfl) T.z_len L2.B.boot_len (Ze (Zcx (mo 1)) (Zat Zan)))) (Ys (mv 2)) (hm := (Zae _)))) (Zi (MR.ms (Z3i (Z41 (MW.mt (Zmj (Zmf (Zao Z58 (Zar Z1k Zl2 (Zgx (Zch Z3g (Z5a (Zi1 rfl) Zv1 (Zcx (mo 1)) (Zgh Zhl) (hs := fun _ _ => rfl)))) (Zgx (Zch Z3g (Z5a (Zi1 rfl) Zv1 (Zcx (mo 1)) (Zjx (Zoj (Zgh Zhl))) (hs := fun _ _ => rfl)))) (hm := (Zae _)))) (Zia (Zex (Zez (Zjb (Zmm G_fits_gap (hr.mono (Nat.le_trans (by decide) (Nat.le_add_right 3 k))) (by rfl) T.e_fits_gap.m T.e_fits_gap.F.kp T.e_fits_gap.b Zne (Ze (Ys (mv 0)) (Ze (Zcx (mo 1)) (Ze (Ji Zx1 (Zk1 Zo2 Zhx (Ys (mv 2)) (Zgh Zhl))) (Zat Zan)))))) (fun _ => rfl))))))) (Z9b (Z83 1)) (Zzm (Z1n (Zgh Zfr))))))) (Zbo Zbr)))
      (Zcw (Jk (Zq2 (Zq9 PassesOwn.never rfl (Zsy (Zdu (by rfl) T.z_range (Ze (Zgh Zhl) (Ze (Ys (mv 2)) (Zat Zan))))) (Ziv (Zh6 (i := 3) Jl.nd))
      (Zi (Zic (Zh4 (MW.mt (Zmj (Zmf (Zao Zt2 (Zar (Zkl rfl) Ztz (Ys (mv 3)) (Zcx (mo 1)) (hm := (by with_unfolding_all rfl)))) (Zia (Zex (Zez (Zjb (Zmm G_fits_gap (hr.mono (Nat.le_trans (by decide) (Nat.le_add_right 3 k))) (by rfl) T.e_fits_gap.m T.e_fits_gap.F.kp T.e_fits_gap.b Zne (Ze (Ys (mv 0)) (Ze (Zgx (Zch Zke (Zue (Zb7 rfl) Ze6 (Zcx (mo 1)) (Zqj (Zwk (Ze (Ys (mv 3)) (Zat Zan))))))) (Ze (Ji Zx1 (Zk1 Zo2 Zhx (Zc1 Znz (Zgy Zhi (Zbd rfl) (by rfl) T.z_len L2.B.boot_len (Ze (Zcx (mo 1)) (Zat Zan)))) (Zgh Zhl))) (Zat Zan)))))) (fun _ => rfl))))))) (Zcw (Jk (Zpg (Zos (i := 4) Jl.nd rfl (Or.inl rfl) (Zlz (Zoi G_rec hr (by rfl) T.e_first_grown.m T.e_first_grown.F.kp T.e_first_grown.b Zne (Ze (Ys (mv 0)) (Ze (Zst (Zwn (Zgx (Zch Zke (Zue (Zb7 rfl) Ze6 (Zcx (mo 1)) (Zqj (Zwk (Ze (Ys (mv 3)) (Zat Zan))))))))) (Zat Zan)))))))
      (Zi (Zic (Zh4 (Zao Zvq (Zar Zws Zvg (Zcx (mo 4)) (Zgh Zfr) (hm := (Zae _)))) (Zi (Zbq (Zbl 4))) (Zbo Zbr)))))) (Zbo Zbr))))))
      (Zi (Ze4 (Ze7 (Zgh Zfr))))))))))
theorem Zg3 {f : Nat → Addr} {fd : Nat → FuncData} {cls : Nat → Addr} (T : Txt K mg f fd cls) : FnOk P w K mg base CX0 9 (f 23) (fd 23) ["rows", "begun"] (spM K (sM (Zx 6))) := Zbb T 6
theorem Z4 : Zv ["a", "b", "left"] ["a", "b"] (Zk W3) := fsc
theorem Zdn {f : Nat → Addr} {fd : Nat → FuncData} {cls : Nat → Addr} (T : Txt K mg f fd cls) : FnOk P w K mg base CX0 1 (f 24) (fd 24) ["a", "b"] (spD K (sD Yl)) := by
  refine Yr T.e_greatest_divisor.F Z4 (S := W5) rfl rfl (fun cdv A outer s H E hr => ?_)
  have hu := hr.units
  exact (xsq (xst 0 Z4.nd (Zc1 Zv5 (Zgy Zpn Zib (by rfl) T.z_abs L2.B.boot_abs (xa1 (xv 0))))) (xsq (xst 1 Z4.nd (Zc1 Zv5 (Zgy Zpn Zib (by rfl) T.z_abs L2.B.boot_abs (xa1 (xv 1))))) (xsq (Zmg (Znd PassesOwn.never (xne hu (xv 1) xci) (xsq (xst 2 Z4.nd (Zek (xv 0) (xv 1))) (xsq (xst 0 Z4.nd (xv 1)) (Zi (xst 1 Z4.nd (xv 2))))))) (Zi (xrt (xv 0))))))
theorem Wv : Zv ["numbers", "bottom", "q"] ["numbers"] (Zk Zac) := fsc
theorem Ze9 {f : Nat → Addr} {fd : Nat → FuncData} {cls : Nat → Addr} (T : Txt K mg f fd cls) : FnOk P w K mg base CX0 2 (f 25) (fd 25) ["numbers"] (spD K (sD Y0)) := by
  have G_greatest_divisor := Zdn (P := P) (w := w) (base := base) T
  refine Yr T.e_shared_bottom.F Wv (S := Jv) rfl rfl (fun cdv A outer s H E hr => ?_)
  exact (xsq (xst 1 Wv.nd xci) (xsq (xfr PassesOwn.never rfl (xil (xv 0)) (xg 2 Wv.nd) (Zi (xst 1 Wv.nd (Zl0 (Zlt (xv 1) (xce G_greatest_divisor hr T.e_greatest_divisor (Ze (xv 1) (xa1 (xix (xv 2) xci))))) (xix (xv 2) xci))))) (Zi (xrt (xv 1)))))
theorem W7 : Zv ["table", "bottom", "row"] ["table"] (Zk Za1) := fsc
theorem Zfv {f : Nat → Addr} {fd : Nat → FuncData} {cls : Nat → Addr} (T : Txt K mg f fd cls) : FnOk P w K mg base CX0 3 (f 26) (fd 26) ["table"] (spD K (sD Z5)) := by
  have G_shared_bottom := Ze9 (P := P) (w := w) (base := base) T
  refine Yr T.e_table_bottom.F W7 (S := Zab) rfl rfl (fun cdv A outer s H E hr => ?_)
  exact (xsq (xst 1 W7.nd xci) (xsq (xfr PassesOwn.never rfl (xil (xv 0)) (xg 2 W7.nd) (Zi (xst 1 W7.nd (xce G_shared_bottom hr T.e_shared_bottom (xa1 (Zgx (Zch Zke (Zue (Zb7 rfl) Ze6 (xls (xa1 (xtp (Ze xci (xa1 (xv 1)))))) (xv 2))))))))) (Zi (xrt (xv 1)))))
theorem Zjq : Zv ["bottom", "numbers"] ["bottom", "numbers"] (Zk Zc5) := fsc
theorem Zj6 {f : Nat → Addr} {fd : Nat → FuncData} {cls : Nat → Addr} (T : Txt K mg f fd cls) : FnOk P w K mg base CX0 1 (f 27) (fd 27) ["bottom", "numbers"] (spD K (sD Js)) := by
  refine Yr T.e_tops_over.F Zjq (S := Zb0) rfl rfl (fun cdv A outer s H E hr => ?_)
  exact (Zi (xrt (Zbg (Zi0 ["q"] [0] ["q", "bottom"] (xil (xv 1)) (fun _ _ _ _ _ => (xg 0 (by show List.Nodup (["q", "bottom"] : List Str) ; decide +kernel))) (fun _ _ _ _ _ => (Jg Je)) (fun _ _ _ _ _ => (Zl0 (xix (xv 0) xci) (Zlt (xv 1) (xix (xv 0) xci))))))))
theorem Zip : Zv ["bottom", "table"] ["bottom", "table"] (Zk Zcc) := fsc
theorem Zht {f : Nat → Addr} {fd : Nat → FuncData} {cls : Nat → Addr} (T : Txt K mg f fd cls) : FnOk P w K mg base CX0 2 (f 28) (fd 28) ["bottom", "table"] (spD K (sD Y5)) := by
  have G_tops_over := Zj6 (P := P) (w := w) (base := base) T
  refine Yr T.e_table_over.F Zip (S := Zbc) rfl rfl (fun cdv A outer s H E hr => ?_)
  exact (Zi (xrt (Zbg (Zi0 ["row"] [0] ["row", "bottom"] (xil (xv 1)) (fun _ _ _ _ _ => (xg 0 (by show List.Nodup (["row", "bottom"] : List Str) ; decide +kernel))) (fun _ _ _ _ _ => (Jg Je)) (fun _ _ _ _ _ => (xce G_tops_over hr T.e_tops_over (Ze (xv 1) (xa1 (xv 0)))))))))
theorem Zii : Zv ["table"] ["table"] (Zk Zcg) := fsc
theorem Zh3 {f : Nat → Addr} {fd : Nat → FuncData} {cls : Nat → Addr} (T : Txt K mg f fd cls) : FnOk P w K mg base CX0 10 (f 29) (fd 29) ["table"] (spD K (sD Y4)) := by
  have G_first_grown := Zg3 (P := P) (w := w) (base := base) T
  have G_table_bottom := Zfv (P := P) (w := w) (base := base) T
  have G_table_over := Zht (P := P) (w := w) (base := base) T
  refine Yr T.e_first_ring.F Zii (S := Za9) rfl rfl (fun cdv A outer s H E hr => ?_)
  exact (xsq (xif (xlt (xln T.z_len (xa1 (xv 0))) xci) (Zi (xrt (Zgh Zfr))) xnl) (Zi (xrt (Zlz (Zoi G_first_grown (hr.mono (by decide)) (by rfl) T.e_first_grown.m T.e_first_grown.F.kp T.e_first_grown.b Zne (Ze (Zy0 (Z4y (xce G_table_over hr T.e_table_over (Ze (xce G_table_bottom hr T.e_table_bottom (xa1 (xv 0))) (xa1 (xv 0)))))) (xa1 (xls (xa1 xci)))))))))
theorem Zcm : Zv ["script", "n", "cell", "rows", "ring", "table", "due", "handed", "found", "nought"] ["script"] (Zk Zxo) := fsc
theorem Zyq {f : Nat → Addr} {fd : Nat → FuncData} {cls : Nat → Addr} (T : Txt K mg f fd cls) : FnOk P w K mg base CX0 11 (f 30) (fd 30) ["script"] (spD K (sD Zev)) := by
  have G_law_alike := Zjj (P := P) (w := w) (base := base) T
  have G_law_bottom := Zil (P := P) (w := w) (base := base) T
  have G_law_built := Zki (P := P) (w := w) (base := base) T
  have G_law_cell_at := Zg2 (P := P) (w := w) (base := base) T
  have G_law_first := Zj5 (P := P) (w := w) (base := base) T
  have G_law_ring := Zll (P := P) (w := w) (base := base) T
  have G_law_ring_weights := Zc8 (P := P) (w := w) (base := base) T
  have G_law_rows := Zgd (P := P) (w := w) (base := base) T
  have G_law_sides := Zkk (P := P) (w := w) (base := base) T
  have G_law_size := Zlp (P := P) (w := w) (base := base) T
  have G_law_table := Zjh (P := P) (w := w) (base := base) T
  have G_first_ring := Zh3 (P := P) (w := w) (base := base) T
  refine Yr T.e_law.F Zcm (S := Zhn) rfl rfl (fun cdv A outer s H E hr => ?_)
  have hu := hr.units
  exact (xsq (Zps (Zpl (i := 1) Zcm.nd rfl (Or.inr rfl) (xce G_law_size hr T.e_law_size (Ze (xce G_law_cell_at hr T.e_law_cell_at (Ze (xv 0) (xa1 xci))) (Ze xci (Ze xci (xa1 xci))))))) (xsq (xst 2 Zcm.nd (xce G_law_cell_at hr T.e_law_cell_at (Ze (xv 0) (xa1 xci)))) (xsq (xst 3 Zcm.nd (xce G_law_built hr T.e_law_built (Ze (xv 0) (Ze xci (Ze (xv 1) (xa1 (xv 2))))))) (xsq (xif (xeq hu (Zek (xce G_law_cell_at hr T.e_law_cell_at (Ze (xv 0) (xa1 xci))) xci) xci) (xsq (xst 4 Zcm.nd (xce G_law_ring hr T.e_law_ring (Ze (Zlt (xce G_law_cell_at hr T.e_law_cell_at (Ze (xv 0) (xa1 xci))) xci) (xa1 (xv 1))))) (Zi (xst 3 Zcm.nd (xce G_law_rows hr T.e_law_rows (Ze (xv 1) (Ze (xce G_law_sides hr T.e_law_sides (xa1 (xv 4))) (xa1 (xce G_law_ring_weights hr T.e_law_ring_weights (Ze (xv 0) (Ze xci (Ze (xv 1) (xa1 (xv 2))))))))))))) xnl) (xsq (xst 5 Zcm.nd (xce G_law_table hr T.e_law_table (Ze (xv 3) (xa1 (xce G_law_bottom hr T.e_law_bottom (xa1 (xv 2))))))) (xsq (xst 6 Zcm.nd (xce G_law_first hr T.e_law_first (xa1 (xv 3)))) (xsq (Zql (Za4 (i := 7) (own := ["row"]) (caps := []) (N' := ["row"]) false Zcm.nd rfl (Or.inl rfl) (by exact ⟨rfl, by decide +kernel, rfl, by decide +kernel, rfl, rfl⟩) (by rfl) (by decide) (xil (xv 5)) (fun _ _ _ _ _ => (xg 0 (by show List.Nodup (["row"] : List Str) ; decide +kernel))) (fun _ _ _ _ _ => (Jg Je)) (fun _ _ _ _ _ => (Zxd Zz9 (Z8b Zvy (Zg6 rfl) (by rfl) T.z_list L2.B.boot_list (xa1 (xv 0))))))) (xsq (xso 8 Zcm.nd (xce G_first_ring hr T.e_first_ring (xa1 (xv 7)))) (xsq (xif (xne hu (xv 7) (xv 5)) (Zi (xrt (Zgh Zgv))) xnl) (xsq (xif (Zao Z50 (Zar Zua Zun (xv 6) (Zgh Zfr) (hm := (Zae _)))) (Zi (xrt (Ji Z50 (Zpc Zua Zun (xo 8) (Zgh Zfr) (hm := (Zae _)))))) xnl) (xsq (xif (xno (Zex (Zez (xce G_law_alike hr T.e_law_alike (Ze (xo 8) (xa1 (xv 6)))) (fun _ => rfl)))) (Zi (xrt (Zgh Zgv))) xnl) (xsq (Zag (Zaa 8 xci)) (xsq (Zql (Za4 (i := 9) (own := ["point"]) (caps := [1]) (N' := ["point", "n"]) false Zcm.nd rfl (Or.inl rfl) (by exact ⟨rfl, by decide +kernel, rfl, by decide +kernel, rfl, rfl⟩) (by rfl) (by decide) (Zc9 (Yp (by rfl) T.z_range (xa1 (xv 1)))) (fun _ _ _ _ _ => (xg 0 (by show List.Nodup (["point", "n"] : List Str) ; decide +kernel))) (fun _ _ _ _ _ => (Jg Je)) (fun _ _ _ _ _ => (Zqd (Zvo (xtp (Ze xci (xa1 xci))) (xv 1)))))) (Zi (xrt (Zi6 (Zsf (xce G_law_alike hr T.e_law_alike (Ze (xce G_first_ring hr T.e_first_ring (xa1 (xv 5))) (xa1 (xv 6)))) (Zxq (xce G_law_alike hr T.e_law_alike (Ze (xce G_first_ring hr T.e_first_ring (xa1 (xv 9))) (xa1 (Zt7 (Zjn (by rfl) (by rfl) T.z_list L2.B.boot_list (by rfl) T.z_range L2.B.boot_range (xa1 (xv 1)))))))))))))))))))))))))
theorem Zwj {f : Nat → Addr} {fd : Nat → FuncData} {cls : Nat → Addr} (T : Txt K mg f fd cls) : FnOk P w K mg base CX0 11 (f 30) (fd 30) ["script"] (spD K Zzs) := (Zyq T).imp fun vs H Q E q => by
  obtain ⟨L, ds, k, h1, ⟨ns, e, hl, hk⟩, h3⟩ := q
  exact ⟨L, ds, k, h1, ⟨_, by rw [e]; exact Zsz ns hl, hk⟩, h3⟩
end
theorem Zyo {l : PySem.W.OpenLaw} {w : World} {K : PySem.W.Frag} {h : Heap} {mg : Str → Option Value} {fa : Addr} (X : K.In h) (G : h.Ns mainGlobals mg) (hfa : mg "law" = some (.ref fa))
    (q1 : Ei K "_law_alike" Zdf f1 d1)
    (q2 : Ei K "_law_bottom" Zb6 f2 d2)
    (q3 : Ei K "_law_stir" Zel f3 d3)
    (q4 : Ei K "_law_numbers" Zbp f4 d4)
    (q5 : Ei K "_law_clusters" Zax f5 d5)
    (q6 : Ei K "_law_drawn" Zdg f6 d6)
    (q7 : Ei K "_law_rows" Zec f7 d7)
    (q8 : Ei K "_law_weights" Zbf f8 d8)
    (q9 : Ei K "_law_built" Zdi f9 d9)
    (q10 : Ei K "_law_cell_at" Zbn f10 d10)
    (q11 : Ei K "_law_all_rings" Zaj f11 d11)
    (q12 : Ei K "_law_gaps" Zeb f12 d12)
    (q13 : Ei K "_law_twice" Zde f13 d13)
    (q14 : Ei K "_law_first" Zdj f14 d14)
    (q15 : Ei K "_law_put_right" J7 f15 d15)
    (q16 : Ei K "_law_ring" Zep f16 d16)
    (q17 : Ei K "_law_ring_weights" W8 f17 d17)
    (q18 : Ei K "_law_sides" Zda f18 d18)
    (q19 : Ei K "_law_size" Zer f19 d19)
    (q20 : Ei K "_law_low" Zf2 f20 d20)
    (q21 : Ei K "_law_table" Zdb f21 d21)
    (q22 : Ei K "twice_weight" Za0 f22 d22)
    (q23 : Ei K "fits_gap" Zeq f23 d23)
    (q24 : Ei K "first_grown" Zbi f24 d24)
    (q25 : Ei K "greatest_divisor" W3 f25 d25)
    (q26 : Ei K "shared_bottom" Zac f26 d26)
    (q27 : Ei K "table_bottom" Za1 f27 d27)
    (q28 : Ei K "tops_over" Zc5 f28 d28)
    (q29 : Ei K "table_over" Zcc f29 d29)
    (q30 : Ei K "first_ring" Zcg f30 d30)
    (q31 : Ei K "law" Zxo f31 d31)
    (z0 : PySem.W.nsIn K mainGlobals "abs" = some none)
    (z1 : PySem.W.nsIn K mainGlobals "bool" = some none)
    (z2 : PySem.W.nsIn K mainGlobals "int" = some none)
    (z3 : PySem.W.nsIn K mainGlobals "isinstance" = some none)
    (z4 : PySem.W.nsIn K mainGlobals "len" = some none)
    (z5 : PySem.W.nsIn K mainGlobals "list" = some none)
    (z6 : PySem.W.nsIn K mainGlobals "max" = some none)
    (z7 : PySem.W.nsIn K mainGlobals "range" = some none)
    (z8 : PySem.W.nsIn K mainGlobals "sorted" = some none)
    (z9 : PySem.W.nsIn K mainGlobals "str" = some none)
    (z10 : PySem.W.nsIn K mainGlobals "tuple" = some none)
    (z11 : PySem.W.nsIn K mainGlobals "zip" = some none)
    : ∃ fd : FuncData, (∀ (s : Shared) (v : Value), BindsTo s fd ⟨[v], []⟩ [("script", v)]) ∧ ∀ base : Heap, K.In base → base.Ns mainGlobals mg → FnOk l.prog w K mg base CX0 11 fa fd ["script"] (spD K Zzs) := by
  have e := hfa.symm.trans (PySem.W.mg_of X G q31.a)
  cases e
  have T : Txt K mg (fun k => [f1, f2, f3, f4, f5, f6, f7, f8, f9, f10, f11, f12, f13, f14, f15, f16, f17, f18, f19, f20, f21, f22, f23, f24, f25, f26, f27, f28, f29, f30, f31].getD k 0) (fun k => [d1, d2, d3, d4, d5, d6, d7, d8, d9, d10, d11, d12, d13, d14, d15, d16, d17, d18, d19, d20, d21, d22, d23, d24, d25, d26, d27, d28, d29, d30, d31].getD k d31) (fun k => [].getD k 0) := ⟨en2 X G q1, en1 X G q2, en2 X G q3, en2 X G q4, en2 X G q5, en5 X G q6, en3 X G q7, en4 X G q8, en4 X G q9, en2 X G q10, en1 X G q11, en1 X G q12, en4 X G q13, en1 X G q14, en1 X G q15, en2 X G q16, en4 X G q17, en1 X G q18, en4 X G q19, en2 X G q20, en2 X G q21, en4 X G q22, en3 X G q23, en2 X G q24, en2 X G q25, en1 X G q26, en1 X G q27, en2 X G q28, en2 X G q29, en1 X G q30, en1 X G q31, PySem.W.mg_none_of X G z0, PySem.W.mg_none_of X G z1, PySem.W.mg_none_of X G z2, PySem.W.mg_none_of X G z3, PySem.W.mg_none_of X G z4, PySem.W.mg_none_of X G z5, PySem.W.mg_none_of X G z6, PySem.W.mg_none_of X G z7, PySem.W.mg_none_of X G z8, PySem.W.mg_none_of X G z9, PySem.W.mg_none_of X G z10, PySem.W.mg_none_of X G z11⟩
  refine ⟨d31, fun s v => ?_, fun base _ _ => Zwj (P := l.prog) (w := w) (base := base) T⟩
  obtain ⟨_, _, _, _, _, _, _, _, _, rfl, _, _⟩ := q31.F.ex
  exact .of_eq rfl
theorem walk {l : PySem.W.OpenLaw} {q : Program} {loose : List Str} {XP : (Str → Option Value) → Heap → Prop} {YP : World → Heap → Prop} {d : DefRec} {K : Params → PySem.W.Frag} (hn : l.most = some 63) (hdf : d.params.defaults = [])
    (hY : ∀ (w : World) (h : Heap), YP w h → (K w.params).In h)
    (F : ∀ (w : World) (mg : Str → Option Value) (fa : Addr) (h : Heap), (K w.params).In h → h.Ns mainGlobals mg → mg d.name = some (.ref fa) →
      ∃ fd : FuncData, (∀ (s : Shared) (u : Value), BindsTo s fd ⟨[u], []⟩ [("script", u)]) ∧ ∀ base : Heap, (K w.params).In base → base.Ns mainGlobals mg → FnOk l.prog w (K w.params) mg base CX0 11 fa fd ["script"] (spD (K w.params) Zzs)) :
    PySem.W.WalkO q loose XP YP l.row.toRowW d [] (fun f vs => PySem.call f vs) :=
  L2.Zwa (n := 63) (k := 11) (x := "script") (CX := fun _ => CX0) (sp := fun w => spD (K w.params) Zzs) hn (by decide) hdf ⟨rfl, by decide, by decide⟩ hY F (fun _ _ a ns hl _ hS => Zyu hl hS) fun _ _ _ _ _ z => z
end My
open PySem PySem.W PyProof.Rows
theorem PySem.W.Fast.tw15713372125595607922:True:=trivial
theorem PySem.W.Fast.tw5757181106936062212:True:=trivial
theorem PySem.W.Fast.tw9241157550677097530:True:=trivial
theorem PySem.W.Fast.tw13817291642201658551:True:=trivial
theorem PySem.W.Fast.tw9374735836793972471:True:=trivial
theorem PySem.W.Fast.tw16993661545576167405:True:=trivial
theorem PySem.W.Fast.tw18221726913351618376:True:=trivial
theorem PySem.W.Fast.tw6914522016098931710:True:=trivial
theorem PySem.W.Fast.tw6091111636756908878:True:=trivial
theorem PySem.W.Fast.tw10396002691390863032:True:=trivial
theorem PySem.W.Fast.tw8918504068283130459:True:=trivial
theorem PySem.W.Fast.tw3111002578719062396:True:=trivial
theorem PySem.W.Fast.tw15085655298718393436:True:=trivial
theorem PySem.W.Fast.tw2415087185659281936:True:=trivial
theorem PySem.W.Fast.tw7220643109028659677:True:=trivial
theorem PySem.W.Fast.tw16864413603077145263:True:=trivial
theorem PySem.W.Fast.tw17956115806801557687:True:=trivial
theorem PySem.W.Fast.tw9635099963562444187:True:=trivial
theorem PySem.W.Fast.tw13167401044097047258:True:=trivial
theorem PySem.W.Fast.tw16583919144265041358:True:=trivial
theorem PySem.W.Fast.tw8927111036531922174:True:=trivial
theorem PySem.W.Fast.tw11426211978100684880:True:=trivial
theorem PySem.W.Fast.tw2626126438852053034:True:=trivial
theorem PySem.W.Fast.tw1195800550801503541:True:=trivial
theorem PySem.W.Fast.tw10532950846571678501:True:=trivial
theorem PySem.W.Fast.tw8431551439668622339:True:=trivial
theorem PySem.W.Fast.tw1245625785422009494:True:=trivial
theorem PySem.W.Fast.tw15405836114808486580:True:=trivial
theorem PySem.W.Fast.tw9092190192152227692:True:=trivial
theorem PySem.W.Fast.tw17500194807258069654:True:=trivial
theorem PySem.W.Fast.tw15397772453543960335:True:=trivial
theorem PySem.W.Fast.tw7916347465902840230:True:=trivial
theorem PySem.W.Fast.tw17091764604940770466:True:=trivial
theorem PySem.W.Fast.tw4635797659226518085:True:=trivial
theorem PySem.W.Fast.tw13124767113969341099:True:=trivial
theorem PySem.W.Fast.tw13564295236431348091:True:=trivial
theorem PySem.W.Fast.tw4022846327359161677:True:=trivial
theorem PySem.W.Fast.tw7234727014463640688:True:=trivial
theorem PySem.W.Fast.tw15026419729897068359:True:=trivial
theorem PySem.W.Fast.tw722018140477056902:True:=trivial
set_option maxRecDepth 100000 in
set_option maxHeartbeats 0 in
theorem PySem.Challenge.cw_farcuts_k29_first_rings_holds : PySem.Challenge.rw_farcuts_k29_first_rings.Holds := by
  w_on; o_law; k_head; (case hw => w_witness2)
  k_fill
  refine My.walk (l := PySem.Challenge.rw_farcuts_k29_first_rings) rfl rfl (fun w h Y => PySem.W.kIn_of Y) ?F
  case F =>
    intro w mg fa h KX G hmg
    refine' My.Zyo KX G hmg ?_ ?_ ?_ ?_ ?_ ?_ ?_ ?_ ?_ ?_ ?_ ?_ ?_ ?_ ?_ ?_ ?_ ?_ ?_ ?_ ?_ ?_ ?_ ?_ ?_ ?_ ?_ ?_ ?_ ?_ ?_ ?_ ?_ ?_ ?_ ?_ ?_ ?_ ?_ ?_ ?_ ?_ ?_
    all_goals try (first | (refine' ⟨?a, L2.Z1h ?l ?c ?k⟩; (case a => k_is); (case l => k_is); (case c => k_is); (case k => k_is)) | k_is | kit_is | (show PySem.W.excIn _ _ _ _ = true; k_exc) | (refine' ⟨?_, ?_, ?_, ?_, ?_, ?_, ?_, ?_, ?_, ?_, ?_⟩ <;> first | k_is | kit_is | (show PySem.W.isClsIn _ _ = true; k_is)))
#print axioms PySem.Challenge.cw_farcuts_k29_first_rings_holds
