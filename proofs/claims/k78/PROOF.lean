import PyProof.Rows.All
import Wide.All
import OpenK.AllK
import Wide.FinOn
import PyProof.EqAt
import PyProof.EqKinds
import PyProof.TupleCall
import PyProof.P3In
import PyProof.ZipIter
import PyProof.ListRange
import PyProof.SetRoads
import PyProof.Rows.SetFrom
import PyProof.Rows.SeqMore2
import KE.RegKIsAll
import PyProof.StrWalks
import PyProof.EnumMake
import PyProof.Conv_int
import PyProof.Conv_int_bool
import KE.KIntText
import PyProof.StrLawsTight
import PyProof.Rows.StrItems
import PyProof.Rows.StrJoin2
import PyProof.StrBlockI
import PyProof.Draws
import PySem.Challenge.RW_farcuts_k78_tables_written_and_read
set_option Elab.async false
set_option linter.all false
set_option maxRecDepth 100000
set_option genSizeOfSpec false
set_option genInjectivity false
/-! THE HAND LAYER, for ints, bools, texts, own classes, LISTS and tuples (index, slices, in, append, pop ..), calls, loops. Paste it whole ahead of your own text; what your proof does not reach may be deleted. -/
namespace L2
open PySem PySem.Spec PyProof.Rows
noncomputable abbrev Key := Sum Int Str
noncomputable def keyIs : Key → Value → Bool
  | .inl k, v => Value.isInt k v
  | .inr x, v => Value.isStrOf x v
noncomputable def keyH (w : World) : Key → Int
  | .inl k => hashInt k
  | .inr x => hashStr w x
theorem keyIs_shape : ∀ {k : Key} {v : Value}, keyIs k v = true → (∃ i t, k = Sum.inl i ∧ v = Value.int i t) ∨ (∃ x t, k = Sum.inr x ∧ v = Value.str x t)
  | .inl i, v, h => by
    obtain ⟨t, e⟩ := Value.isInt_shape (k := i) (v := v) h
    exact .inl ⟨i, t, rfl, e⟩
  | .inr x, v, h => by
    obtain ⟨t, e⟩ := Value.isStrOf_shape (x := x) (v := v) h
    exact .inr ⟨x, t, rfl, e⟩
theorem key_ll (a b : Int) : decide ((Sum.inl a : Key) = Sum.inl b) = (a == b) := by
  by_cases e : a = b
  · subst e; simp
  · have h : ¬ (Sum.inl a : Key) = Sum.inl b := fun q => e (Sum.inl.inj q)
    rw [decide_eq_false h]
    exact (beq_eq_false_iff_ne.mpr e).symm
theorem key_rr (a b : Str) : decide ((Sum.inr a : Key) = Sum.inr b) = decide (a = b) := by
  by_cases e : a = b
  · subst e; simp
  · have h : ¬ (Sum.inr a : Key) = Sum.inr b := fun q => e (Sum.inr.inj q)
    rw [decide_eq_false h, decide_eq_false e]
theorem key_lr (a : Int) (b : Str) : decide ((Sum.inl a : Key) = Sum.inr b) = false := decide_eq_false (fun q => nomatch q)
theorem key_rl (a : Str) (b : Int) : decide ((Sum.inr a : Key) = Sum.inl b) = false := decide_eq_false (fun q => nomatch q)
noncomputable def mixKind (prog : Program) (w : World) : PySem.KeyKind prog w Key where
  is := keyIs
  hash := keyH w
  inj := fun v a b ha hb => by
    rcases keyIs_shape ha with ⟨i, t, rfl, rfl⟩ | ⟨x, t, rfl, rfl⟩
    · rcases keyIs_shape hb with ⟨j, u, rfl, e⟩ | ⟨y, u, rfl, e⟩
      · injection e with e1 _; rw [e1]
      · exact nomatch e
    · rcases keyIs_shape hb with ⟨j, u, rfl, e⟩ | ⟨y, u, rfl, e⟩
      · exact nomatch e
      · injection e with e1 _; rw [e1]
  byValue := fun k v h => by
    rcases keyIs_shape h with ⟨i, t, rfl, rfl⟩ | ⟨x, t, rfl, rfl⟩ <;> rfl
  pyHash := fun hv h => by
    rcases keyIs_shape hv with ⟨i, t, rfl, rfl⟩ | ⟨x, t, rfl, rfl⟩
    · exact wpAny_pyHash_int h
    · exact wpAny_pyHash_str h
  eqBool := fun hu hv h => by
    rcases keyIs_shape hu with ⟨i, t, rfl, rfl⟩ | ⟨x, t, rfl, rfl⟩
    · rcases keyIs_shape hv with ⟨j, u, rfl, rfl⟩ | ⟨y, u, rfl, rfl⟩
      · rw [key_ll] at h; exact wpAny_eqBool_int h
      · rw [key_lr] at h; exact SeqAt.EqAt.int_str i t y u _ _ _ _ h
    · rcases keyIs_shape hv with ⟨j, u, rfl, rfl⟩ | ⟨y, u, rfl, rfl⟩
      · rw [key_rl] at h; exact SeqAt.EqAt.str_int x t j u _ _ _ _ h
      · rw [key_rr] at h; exact wpAny_eqBool_str h
  «strs» := fun k x t v h => by
    rcases keyIs_shape h with ⟨i, u, rfl, e⟩ | ⟨y, u, rfl, e⟩
    · exact nomatch e
    · injection e with e1 _
      subst e1
      cases v <;> rfl
end L2
namespace L2
open PySem PySem.Spec PyProof.Rows
inductive V where
  | non | bl (b : Bool) | int (i : Int) | str (x : Str) | byt (b : Array UInt8) | flt (b : UInt64) | ref (a : Addr) | ty (n : String)
  deriving DecidableEq
noncomputable def RelV : V → Value → Prop
  | .non, u => u = Value.none
  | .bl b, u => u = Value.bool b
  | .int i, u => ∃ t, u = Value.int i t
  | .str x, u => ∃ t, u = Value.str x t
  | .byt b, u => ∃ t, u = Value.bytes b t
  | .flt b, u => ∃ t, u = Value.float b t
  | .ref a, u => u = Value.ref a
  | .ty n, u => u = Value.type n
noncomputable abbrev Vals : List V → List Value → Prop := Paired RelV
theorem Vals.length {xs : List V} {us : List Value} (r : Vals xs us) : xs.length = us.length := Paired.length r
theorem Vals.get {xs : List V} {us : List Value} {i : Nat} {x : V} (h : Vals xs us) (e : xs[i]? = some x) : ∃ u, us[i]? = some u ∧ RelV x u := by
  induction h generalizing i with
  | nil => exact (Option.some_ne_none _ (e.symm.trans List.getElem?_nil)).elim
  | cons r t ih =>
    cases i with
    | zero => exact ⟨_, rfl, Option.some.inj e ▸ r⟩
    | succ i => exact ih e
theorem Vals.set {x : V} {u : Value} (r : RelV x u) {xs : List V} {us : List Value} (i : Nat) (h : Vals xs us) : Vals (xs.set i x) (us.set i u) := by
  induction h generalizing i with
  | nil => exact .nil
  | cons q t ih =>
    cases i with
    | zero => exact .cons r t
    | succ i => exact .cons q (ih i)
theorem Vals.append {xs ys : List V} {us ws : List Value} (h : Vals xs us) (s : Vals ys ws) : Vals (xs ++ ys) (us ++ ws) := by
  induction h with
  | nil => exact s
  | cons r t ih => exact .cons r ih
theorem Vals.take {xs : List V} {us : List Value} (n : Nat) (h : Vals xs us) : Vals (xs.take n) (us.take n) := by
  induction h generalizing n with
  | nil => rw [List.take_nil, List.take_nil]; exact .nil
  | cons r t ih =>
    cases n with
    | zero => exact .nil
    | succ n => exact .cons r (ih n)
theorem Vals.drop {xs : List V} {us : List Value} (n : Nat) (h : Vals xs us) : Vals (xs.drop n) (us.drop n) := by
  induction h generalizing n with
  | nil => rw [List.drop_nil, List.drop_nil]; exact .nil
  | cons r t ih =>
    cases n with
    | zero => exact .cons r t
    | succ n => exact ih n
noncomputable def RelO : Option V → Option Value → Prop
  | some v, some u => RelV v u
  | none, none => True
  | _, _ => False
noncomputable def KV {κ : Type} : List (κ × V) → List (κ × Value) → Prop := Paired fun (p : κ × V) (q : κ × Value) => p.1 = q.1 ∧ RelV p.2 q.2
noncomputable def kV : Key → V
  | .inl i => .int i
  | .inr x => .str x
inductive HO where
    | lst (xs : List V)
    | tup (xs : List V)
    | dK (kvs : List (Key × V)) | dT (kvs : List (List Key × V))
    | set (S : Int → Bool) (n : Nat)
    | ins (C dx : Addr) (fs : List (Str × V))
    | own (x : Addr)
    | xd (fs : List (Str × V))
    | met (f x : Addr)
    | rng (lo hi : Int)
    | frz (o : Obj) (u : HO)
    | tbl (ps : Array Value)
    | ext (φ : Heap → Prop)
noncomputable abbrev Hp := Addr → Option HO
noncomputable def upd (H : Hp) (a : Addr) (o : HO) : Hp := fun b => if b = a then some o else H b
theorem upd_same {H : Hp} {a : Addr} {o : HO} : upd H a o a = some o := by unfold upd; rw [if_pos rfl]
theorem upd_ne {H : Hp} {a b : Addr} {o : HO} (h : b ≠ a) : upd H a o b = H b := by unfold upd; rw [if_neg h]
theorem ne_of_none {H : Hp} {a b : Addr} {o : HO} (h : H a = some o) (h' : H b = none) : a ≠ b := by
  intro e; subst e; rw [h] at h'; cases h'
section
variable (P : Program) (w : World)
noncomputable def ObjOk (H : Hp) (h : Heap) (a : Addr) : HO → Prop
  | .lst xs => xs.length ≤ sizeLine ∧ ∃ (its : List Value) (n : Nat), Vals xs its ∧ h.get? a = some { cls := .type "list", data := .seq its.toArray n }
  | .tup xs => xs.length ≤ sizeLine ∧ ∃ its : List Value, Vals xs its ∧ IsTup h a its.toArray
  | .dK kvs => kvs.length ≤ sizeLine ∧ (a == sysModules) = false ∧ ∃ vs, KV kvs vs ∧ h.DictOf (mixKind P w) a vs
  | .dT kvs => kvs.length ≤ sizeLine ∧ (a == sysModules) = false ∧ ∃ xs : List (List Key × Addr × Value),
      Paired (fun (p : List Key × V) (q : List Key × Addr × Value) => p.1 = q.1 ∧ H q.2.1 = some (.tup (p.1.map kV)) ∧ RelV p.2 q.2.2) kvs xs ∧
      ∃ o es ep, h.get? a = some o ∧ o.ExactDict ∧ o.data = .dict es ep ∧ es.toList = xs.map (entryOfKey (tupleKind (mixKind P w))) ∧ (xs.map (·.1)).Nodup
  | .set S n => h.SetOf (intKind P w) a S n
  | .ins C dx fs => H dx = some (.own a) ∧ fs.length ≤ 1000 ∧ dx ≠ a ∧ h.get? a = some (PySem.W.instObj C dx) ∧
      ∃ mA, h.Ns1 dx mA ∧ (∀ f, RelO (fs.lookup f) (mA f)) ∧ PySem.Within mA (fs.map (·.1))
  | .own _ => ∃ o, h.get? a = some o
  | .xd fs => ∃ mA, h.Ns1 a mA ∧ ∀ f, RelO (fs.lookup f) (mA f)
  | .rng lo hi => ∃ t u v, h.get? a = some { cls := .type "range", data := .fields #[.int lo t, .int hi u, .int 1 v] }
  | .frz o u => h.get? a = some o ∧ ObjOk H h a u
  | .tbl ps => h.get? a = some { cls := .none, data := .fields ps }
  | .met f x => h.get? a = some (PySem.W.methodObj (.ref f) (.ref x))
  | .ext φ => φ h ∧ (∃ o, h.get? a = some o) ∧ ∀ h1 h2 : Heap, φ h1 → (∀ o, h1.get? a = some o → h2.get? a = some o) → φ h2
noncomputable def HOk (H : Hp) (h : Heap) : Prop := ∀ a o, H a = some o → ObjOk P w H h a o
end
section
variable {P : Program} {w : World} {H H' : Hp} {h h' : Heap} {a : Addr} {o : HO}
theorem ObjOk.lt (x : ObjOk P w H h a o) : a < h.objs.size := by
  cases o with
  | lst xs => obtain ⟨_, _, _, _, e⟩ := x; exact Heap.lt_size e
  | tup xs => obtain ⟨_, _, _, p⟩ := x; exact p.lt
  | dK kvs => obtain ⟨_, _, _, _, o, _, _, e, _⟩ := x; exact Heap.lt_size e
  | dT kvs => obtain ⟨_, _, _, _, o, _, _, e, _⟩ := x; exact Heap.lt_size e
  | set S n => obtain ⟨o, _, _, _, e, _⟩ := x; exact Heap.lt_size e
  | ins C dx fs => obtain ⟨_, _, _, e, _⟩ := x; exact Heap.lt_size e
  | own y => obtain ⟨_, e⟩ := x; exact Heap.lt_size e
  | xd fs => obtain ⟨_, ⟨_, _, _, e, _⟩, _⟩ := x; exact Heap.lt_size e
  | rng lo hi => obtain ⟨_, _, _, e⟩ := x; exact Heap.lt_size e
  | frz ob u => obtain ⟨e, _⟩ := x; exact Heap.lt_size e
  | tbl ps => exact Heap.lt_size (show h.get? a = some _ from x)
  | met f y => exact Heap.lt_size (show h.get? a = some _ from x)
  | ext φ => obtain ⟨_, ⟨_, e⟩, _⟩ := x; exact Heap.lt_size e
theorem Paired.mapP {α β : Type} {F G : α → β → Prop} {l₁ : List α} {l₂ : List β} (h : Paired F l₁ l₂) (f : ∀ a b, F a b → G a b) : Paired G l₁ l₂ := by
  induction h with
  | nil => exact .nil
  | cons r t ih => exact .cons (f _ _ r) ih
theorem ObjOk.stay (x : ObjOk P w H h a o) (k : ∀ b u, (b = a ∨ H b = some (.own a)) → h.get? b = some u → h'.get? b = some u)
    (ho : ∀ b, H b = some (.own a) → H' b = some (.own a)) (ht : ∀ b xs, H b = some (.tup xs) → H' b = some (.tup xs)) : ObjOk P w H' h' a o := by
  induction o with
  | lst xs => obtain ⟨z, its, n, r, e⟩ := x; exact ⟨z, its, n, r, k _ _ (.inl rfl) e⟩
  | tup xs => obtain ⟨z, its, r, ob, e, c⟩ := x; exact ⟨z, its, r, ob, k _ _ (.inl rfl) e, c⟩
  | dK kvs => obtain ⟨z, y, vs, r, ob, es, ep, e, c⟩ := x; exact ⟨z, y, vs, r, ob, es, ep, k _ _ (.inl rfl) e, c⟩
  | dT kvs =>
    obtain ⟨z, y, xs, r, ob, es, ep, e, c⟩ := x
    exact ⟨z, y, xs, Paired.mapP r fun p q z => ⟨z.1, ht _ _ z.2.1, z.2.2⟩, ob, es, ep, k _ _ (.inl rfl) e, c⟩
  | set S n => obtain ⟨ob, es, ep, t, e, c⟩ := x; exact ⟨ob, es, ep, t, k _ _ (.inl rfl) e, c⟩
  | ins C dx fs =>
    obtain ⟨d, z, ne, e, mA, ⟨od, es, ep, e2, c⟩, r⟩ := x
    exact ⟨ho _ d, z, ne, k _ _ (.inl rfl) e, mA, ⟨od, es, ep, k _ _ (.inr d) e2, c⟩, r⟩
  | own y => obtain ⟨ob, e⟩ := x; exact ⟨ob, k _ _ (.inl rfl) e⟩
  | xd fs => obtain ⟨mA, ⟨od, es, ep, e, c⟩, r⟩ := x; exact ⟨mA, ⟨od, es, ep, k _ _ (.inl rfl) e, c⟩, r⟩
  | rng lo hi => obtain ⟨t, u, v, e⟩ := x; exact ⟨t, u, v, k _ _ (.inl rfl) e⟩
  | frz ob u ih => obtain ⟨e, q⟩ := x; exact ⟨k _ _ (.inl rfl) e, ih q⟩
  | tbl ps =>
    have e : h.get? a = some { cls := .none, data := .fields ps } := x
    show h'.get? a = some { cls := .none, data := .fields ps }
    exact k a _ (.inl rfl) e
  | met f y =>
    have e : h.get? a = some (PySem.W.methodObj (.ref f) (.ref y)) := x
    show h'.get? a = some (PySem.W.methodObj (.ref f) (.ref y))
    exact k a _ (.inl rfl) e
  | ext φ => obtain ⟨p, ⟨o, e⟩, st⟩ := x; exact ⟨st _ _ p fun o q => k _ _ (.inl rfl) q, ⟨o, k _ _ (.inl rfl) e⟩, st⟩
theorem HOk.lt (x : HOk P w H h) (e : H a = some o) : a < h.objs.size := (x a o e).lt
theorem HOk.fresh (x : HOk P w H h) (e : h.objs.size ≤ a) : H a = none := by
  cases q : H a with
  | none => rfl
  | some u => exact absurd (Nat.lt_of_lt_of_le (x.lt q) e) (Nat.lt_irrefl _)
theorem HOk.kept (x : HOk P w H h) (k : ∀ b u, h.get? b = some u → h'.get? b = some u) : HOk P w H h' := fun a o e =>
  (x a o e).stay (fun b u _ q => k b u q) (fun _ q => q) fun _ _ q => q
theorem HOk.laid (x : HOk P w H h) (k : ∀ b u, h.get? b = some u → h'.get? b = some u) (hp : h.objs.size ≤ a) (new : ObjOk P w (upd H a o) h' a o) : HOk P w (upd H a o) h' := fun b u e => by
  have hn := x.fresh hp
  by_cases hb : b = a
  · subst hb; rw [upd_same] at e; cases e; exact new
  · rw [upd_ne hb] at e
    exact (x b u e).stay (fun c v _ q => k c v q) (fun c q => by rw [upd_ne (ne_of_none q hn)]; exact q) fun c xs q => by rw [upd_ne (ne_of_none q hn)]; exact q
end
noncomputable def Rd (H : Hp) (a : Addr) (u : HO) : Prop := H a = some u ∨ ∃ o, H a = some (.frz o u)
theorem Rd.ok {P : Program} {w : World} {H : Hp} {h : Heap} {a : Addr} {u : HO} (r : Rd H a u) (x : HOk P w H h) : ObjOk P w H h a u := by
  rcases r with r | ⟨o, r⟩
  · exact x a u r
  · obtain ⟨_, q⟩ := x a _ r
    exact q
noncomputable def Mut : Option HO → Prop
  | some (.lst _) => True
  | some (.dK _) => True
  | some (.dT _) => True
  | some (.set _ _) => True
  | some (.ins _ _ _) => True
  | some (.ext _) => True
  | _ => False
section
variable {P : Program} {w : World} {H : Hp} {h h' : Heap} {x e : Addr} {o' : HO}
theorem HOk.write (ok : HOk P w H h) (mu : Mut (H x)) (he : e = x ∨ H e = some (.own x)) (k : ∀ b u, b ≠ e → h.get? b = some u → h'.get? b = some u) (heo : ∃ u, h'.get? e = some u)
    (new : ObjOk P w (upd H x o') h' x o') : HOk P w (upd H x o') h' := fun b u q => by
  have nown : ∀ c y, H c = some (.own y) → c ≠ x := fun c y r z => by subst z; rw [r] at mu; exact mu
  have ntup : ∀ c xs, H c = some (.tup xs) → c ≠ x := fun c xs r z => by subst z; rw [r] at mu; exact mu
  by_cases hb : b = x
  · subst hb; rw [upd_same] at q; cases q; exact new
  · rw [upd_ne hb] at q
    by_cases hbe : b = e
    · have q' : H b = some (.own x) := by
        rcases he with z | z
        · exact absurd (hbe.trans z) hb
        · rw [hbe]; exact z
      rw [q] at q'; cases q'
      obtain ⟨v, hv⟩ := heo
      exact ⟨v, by rw [hbe]; exact hv⟩
    · refine (ok b u q).stay (fun c v hc r => k c v ?_ r) (fun c r => by rw [upd_ne (nown c b r)]; exact r) fun c xs r => by rw [upd_ne (ntup c xs r)]; exact r
      rcases hc with rfl | hc
      · exact hbe
      · rintro rfl
        rcases he with z | z
        · exact nown c b hc z
        · rw [hc] at z; cases z; exact hb rfl
end
structure Un (fs ex : List Addr) (H H' : Hp) (h h' : Heap) : Prop where
  keep : ∀ b o, h.get? b = some o → H b = none → b ∉ fs → b ∉ ex → h'.get? b = some o
  slot : ∀ b o, h.get? b = some o → H b = none → b ∈ fs → b ∉ ex → ∃ sl, h'.get? b = some { o with slots := sl }
  free : ∀ b o, h.get? b = some o → H b = none → b ∉ ex → H' b = none
  there : ∀ b o, h.get? b = some o → b ∉ ex → ∃ o', h'.get? b = some o'
  tups : ∀ b xs, H b = some (.tup xs) → H' b = some (.tup xs)
  frzs : ∀ b o u, H b = some (.frz o u) → H' b = some (.frz o u)
  tbls : ∀ b ps, H b = some (.tbl ps) → ∃ more, H' b = some (.tbl (ps ++ more))
section
variable {fs fs' ex ex' : List Addr} {H H1 H2 : Hp} {h h1 h2 h' : Heap} {a x e : Addr} {o : HO}
theorem Un.any (u : Un fs ex H H1 h h1) {b : Addr} {ob : Obj} (q : h.get? b = some ob) (n : H b = none) (hx : b ∉ ex) : ∃ sl, h1.get? b = some { ob with slots := sl } := by
  by_cases hb : b ∈ fs
  · exact u.slot b ob q n hb hx
  · exact ⟨ob.slots, u.keep b ob q n hb hx⟩
theorem Un.kept (k : ∀ b u, h.get? b = some u → h'.get? b = some u) : Un fs ex H H h h' :=
  ⟨fun b ob q _ _ _ => k b ob q, fun b ob q _ _ _ => ⟨ob.slots, k b ob q⟩, fun _ _ _ n _ => n, fun b ob q _ => ⟨ob, k b ob q⟩, fun _ _ q => q, fun _ _ _ q => q, fun _ ps q => ⟨#[], by rw [q]; simp⟩⟩
theorem Un.refl : Un fs ex H H h h := Un.kept fun _ _ q => q
theorem Un.laid (k : ∀ b u, h.get? b = some u → h'.get? b = some u) (hp : h.objs.size ≤ a) (hn : H a = none) : Un fs ex H (upd H a o) h h' where
  keep := fun b u q _ _ _ => k b u q
  slot := fun b u q _ _ _ => ⟨u.slots, k b u q⟩
  free := fun b u q n _ => by rw [upd_ne (Nat.ne_of_lt (Nat.lt_of_lt_of_le (Heap.lt_size q) hp))]; exact n
  there := fun b u q _ => ⟨u, k b u q⟩
  tups := fun b xs q => by rw [upd_ne (ne_of_none q hn)]; exact q
  frzs := fun b u xs q => by rw [upd_ne (ne_of_none q hn)]; exact q
  tbls := fun b ps q => ⟨#[], by rw [upd_ne (ne_of_none q hn), q]; simp⟩
theorem Un.write (mu : Mut (H x)) (he : e = x ∨ H e = some (.own x)) (k : ∀ b u, b ≠ e → h.get? b = some u → h'.get? b = some u) (heo : ∃ u, h'.get? e = some u) : Un fs ex H (upd H x o) h h' := by
  have hx : ∀ b, H b = none → b ≠ x := fun b n z => by subst z; rw [n] at mu; exact mu
  have hb : ∀ b, H b = none → b ≠ e := fun b n z => by
    subst z
    rcases he with r | r
    · exact hx b n r
    · rw [n] at r; cases r
  have hm : ∀ b u, H b = some u → ¬ Mut (some u) → b ≠ x := fun b u q nm z => by subst z; rw [q] at mu; exact nm mu
  refine ⟨fun b u q n _ _ => k b u (hb b n) q, fun b u q n _ _ => ⟨u.slots, k b u (hb b n) q⟩, fun b u q n _ => by rw [upd_ne (hx b n)]; exact n, fun b u q _ => ?_,
    fun b xs q => by rw [upd_ne (hm b _ q fun z => z)]; exact q, fun b u xs q => by rw [upd_ne (hm b _ q fun z => z)]; exact q, fun b ps q => ⟨#[], by rw [upd_ne (hm b _ q fun z => z), q]; simp⟩⟩
  by_cases hbe : b = e
  · subst hbe; exact heo
  · exact ⟨u, k b u hbe q⟩
end
noncomputable def trk (h : Heap) (H : Hp) : List Addr := (List.range h.objs.size).filter fun a => (H a).isSome
noncomputable def hidT (h : Heap) (H : Hp) : Heap := PySem.W.hideAll h (trk h H)
theorem hidT_size (h : Heap) (H : Hp) : (hidT h H).objs.size = h.objs.size := PySem.W.hideAll_size _ _
theorem hidT_get {h : Heap} {H : Hp} {b : Addr} {o : Obj} (e : h.get? b = some o) (n : H b = none) : (hidT h H).get? b = some o :=
  PySem.W.hideAll_get _ e fun hm => by
    have q : (H b).isSome = true := (List.mem_filter.mp hm).2
    rw [n] at q; simp at q
theorem of_hidT {h : Heap} {H : Hp} {b : Addr} {o : Obj} (e : (hidT h H).get? b = some o) : h.get? b = some o ∧ H b = none := by
  have e' : h.get? b = some o := PySem.W.of_hideAll (trk h H) e
  refine ⟨e', ?_⟩
  cases q : H b with
  | none => rfl
  | some x =>
    have hm : b ∈ trk h H := List.mem_filter.mpr ⟨List.mem_range.mpr (Heap.lt_size e'), by simp [q]⟩
    have z : (hidT h H).get? b = none := PySem.W.hideAll_none (trk h H) hm
    rw [z] at e; cases e
noncomputable def allNews (g h : Heap) (L : Addr) : List (Addr × Obj) := (List.range h.objs.size).filterMap fun a => if a = L ∨ (g.get? a).isSome = true then none else (h.get? a).map fun o => (a, o)
noncomputable def rest (g h : Heap) (L d : Addr) : List (Addr × Obj) := (allNews g h L).filter fun p => decide (p.1 ≠ d)
end L2
namespace L2
open PySem PySem.Spec PyProof.Rows
structure Mod (K : PySem.W.Frag) (mg : Str → Option Value) (base : Heap) : Prop where
  kin : K.In base
  glob : base.Ns mainGlobals mg
  blt : ∃ mb, base.Ns builtinsNs mb ∧ ∀ x : Str, x ≠ "__name__" → mb x = bootBuiltins x
  nolimit : base.NoLimit
set_option genInjectivity false in
structure Cx where
  prog : Program
  w : World
  K : PySem.W.Frag
  mg : Str → Option Value
  base : Heap
  A : Around
  N : List Str
  s₀ : Shared
  H₀ : Hp
  env : Env
  outer : List Env
  stack : List Env
  ex : List Addr
  fn : Str → Bool
  calm : Bool
  pn : List (Addr × Obj)
  xe : Value → Shared → Prop
noncomputable def frs (l : List Env) : List Addr := l.filterMap (·.frame)
noncomputable abbrev Cx.fs (X : Cx) : List Addr := frs X.outer
noncomputable def Vis (sc : Scope) (x : Str) : Prop := sc.names.lookup x = some .local ∨ sc.names.lookup x = some .cell ∨ sc.names.lookup x = some .free
noncomputable def Loc (sc : Scope) (x : Str) : Prop := sc.names.lookup x = some .local ∨ sc.names.lookup x = some .cell
noncomputable def Look (env : Env) (h : Heap) (m : Str → Option Value) (x : Str) (u : Value) : Prop :=
  (env.kindOf x = some .local ∧ m x = some u) ∨ ((env.kindOf x = some .cell ∨ env.kindOf x = some .free) ∧ ∃ c, env.cells.lookup x = some c ∧ h.IsCell c (some u))
structure Cx.Ok (X : Cx) : Prop where
  mod : Mod X.K X.mg X.base
  kind : X.env.scope.kind = .function
  glob : X.env.globals = mainGlobals
  blt : X.env.builtins = builtinsNs
  above : X.s₀.heap.objs.size ≤ X.env.locals
  inj : ∀ x y c, X.env.cells.lookup x = some c → X.env.cells.lookup y = some c → x = y
  has : ∀ x, (X.env.kindOf x = some .cell ∨ X.env.kindOf x = some .free) → ∃ c, X.env.cells.lookup x = some c
  cab : ∀ x c, X.fn x = true → X.env.cells.lookup x = some c → X.s₀.heap.objs.size ≤ c
  hd : X.calm = true → X.A.handled = none
  frames : X.A.frames = some X.stack
  stk : X.stack = X.outer ∨ (X.stack = X.env :: X.outer ∧ X.env.frame = some X.env.locals)
  exf : ∀ b ∈ X.ex, b ≠ X.env.locals ∧ ∀ x c, X.env.cells.lookup x = some c → c ≠ b
  bs : ∀ b o, X.base.get? b = some o → X.s₀.heap.get? b = some o ∧ X.H₀ b = none
  bsz : X.base.objs.size ≤ X.s₀.heap.objs.size
  noex : ∀ b o, X.base.get? b = some o → b ∉ X.ex
  exfs : ∀ b ∈ X.ex, b ∉ X.fs
  funs : X.s₀.heap.FunFrames X.base X.outer
  frf : ∀ b ∈ X.fs, X.H₀ b = none
structure Inv (X : Cx) (pins : List (Addr × Obj)) (σ : List (Option V)) (H : Hp) (s : Shared) : Prop where
  ok : X.Ok
  os : s.os = X.s₀.os
  bare : AllBare s.gens
  base : Un X.fs X.ex X.H₀ H X.s₀.heap s.heap
  loc : ∃ m, s.heap.Ns X.env.locals m ∧ ∀ (i : Nat) (x : Str) (v : V), X.N[i]? = some x → σ[i]? = some (some v) → Vis X.env.scope x → ∃ u, RelV v u ∧ Look X.env s.heap m x u
  cell : ∀ x c, X.env.cells.lookup x = some c → ∃ v, s.heap.IsCell c v
  free : H X.env.locals = none
  freeC : ∀ x c, X.env.cells.lookup x = some c → H c = none
  pin : ∀ p ∈ X.pn ++ pins, s.heap.get? p.1 = some p.2 ∧ H p.1 = none ∧ p.1 ≠ X.env.locals ∧ p.1 ∉ X.fs ∧ ∀ v, p.2.data ≠ .cell v
  hok : HOk X.prog X.w H s.heap
  len : σ.length = X.N.length
section
variable {X : Cx} {pins : List (Addr × Obj)} {σ : List (Option V)} {H H' : Hp} {s : Shared} {h' : Heap}
theorem Cx.Ok.nofr (ok : X.Ok) {b : Addr} {o : Obj} (e : X.base.get? b = some o) : b ∉ X.fs := fun hb => by
  have := (ok.funs.mem hb).1
  rw [e] at this; cases this
theorem Inv.bs (I : Inv X pins σ H s) : ∀ b o, X.base.get? b = some o → s.heap.get? b = some o ∧ H b = none := fun b o e =>
  ⟨I.base.keep b o (I.ok.bs b o e).1 (I.ok.bs b o e).2 (I.ok.nofr e) (I.ok.noex b o e), I.base.free b o (I.ok.bs b o e).1 (I.ok.bs b o e).2 (I.ok.noex b o e)⟩
theorem Inv.bk (I : Inv X pins σ H s) : ∀ b o, X.base.get? b = some o → s.heap.get? b = some o := fun b o e => (I.bs b o e).1
theorem Inv.mod (I : Inv X pins σ H s) : Mod X.K X.mg X.base := I.ok.mod
theorem Inv.kIn (I : Inv X pins σ H s) : X.K.In s.heap := I.ok.mod.kin.keeps I.bk
theorem Inv.lt (I : Inv X pins σ H s) : X.env.locals < s.heap.objs.size := let ⟨_, hn, _⟩ := I.loc; hn.lt
theorem Inv.sz (I : Inv X pins σ H s) : X.s₀.heap.objs.size ≤ s.heap.objs.size := Nat.le_trans I.ok.above (Nat.le_of_lt I.lt)
theorem Inv.nofs (I : Inv X pins σ H s) {a : Addr} (h : s.heap.objs.size ≤ a) : a ∉ X.fs := fun hb => by
  obtain ⟨_, o, ho, _⟩ := I.ok.funs.mem hb
  exact absurd (Nat.lt_of_lt_of_le (Heap.lt_size ho) (Nat.le_trans I.sz h)) (Nat.lt_irrefl _)
theorem Inv.cne (I : Inv X pins σ H s) : ∀ x c, X.env.cells.lookup x = some c → c ≠ X.env.locals := fun x c e z => by
  obtain ⟨v, o, ho, hd⟩ := I.cell x c e
  obtain ⟨m, ⟨o', es, ep, ho', hd', _⟩, _⟩ := I.loc
  rw [z, ho'] at ho; cases ho; rw [hd'] at hd; cases hd
theorem Inv.funs (I : Inv X pins σ H s) : s.heap.FunFrames X.base X.outer := by
  have all : ∀ (l : List Env), (∀ b ∈ frs l, b ∈ X.fs) → X.s₀.heap.FunFrames X.base l → s.heap.FunFrames X.base l := by
    intro l
    induction l with
    | nil => intro _ _; trivial
    | cons env r ih =>
      intro hs hl
      obtain ⟨hk, ⟨L, o, hf, hn, ho, hd⟩, hr⟩ := hl
      have hL : L ∈ X.fs := hs L (by unfold frs; rw [List.filterMap_cons, hf]; exact List.mem_cons_self)
      obtain ⟨sl, e⟩ := I.base.slot L o ho (I.ok.frf L hL) hL fun z => I.ok.exfs L z hL
      exact ⟨hk, ⟨L, _, hf, hn, e, hd⟩, ih (fun b hb => hs b (by unfold frs; rw [List.filterMap_cons, hf]; exact List.mem_cons_of_mem _ hb)) hr⟩
  exact all X.outer (fun _ hb => hb) I.ok.funs
theorem Inv.stack (I : Inv X pins σ H s) : s.heap.FunFrames X.base X.stack := by
  rcases I.ok.stk with e | ⟨e, hf⟩
  · rw [e]; exact I.funs
  · rw [e]
    obtain ⟨m, hn, _⟩ := I.loc
    refine .cons (by rw [I.ok.kind]; decide) hf hn ?_ I.funs
    exact Heap.get?_none_of_le (Nat.le_trans I.ok.bsz I.ok.above)
theorem Inv.stkSub (I : Inv X pins σ H s) : ∀ b ∈ frs X.stack, b ∈ X.env.locals :: X.fs := fun b hb => by
  rcases I.ok.stk with e | ⟨e, hf⟩
  · rw [e] at hb; exact List.mem_cons_of_mem _ hb
  · rw [e] at hb
    unfold frs at hb
    rw [List.filterMap_cons, hf] at hb
    exact hb
theorem Inv.stkFree (I : Inv X pins σ H s) : ∀ b ∈ frs X.stack, H b = none := fun b hb => by
  rcases List.mem_cons.mp (I.stkSub b hb) with e | hb
  · rw [e]; exact I.free
  · obtain ⟨_, o, ho, _⟩ := I.ok.funs.mem hb
    exact I.base.free b o ho (I.ok.frf b hb) fun z => I.ok.exfs b z hb
theorem Inv.step {g' : Array GenState} {t' : Nat} {d' : Drawn} {ch : List Addr} (I : Inv X pins σ H s)
    (hch : ∀ b ∈ ch, (b ∈ X.ex ∨ X.s₀.heap.objs.size ≤ b) ∧ b ≠ X.env.locals ∧ (∀ x c, X.env.cells.lookup x = some c → c ≠ b) ∧ ∀ p ∈ X.pn ++ pins, p.1 ≠ b)
    (keep : ∀ b o, b ≠ X.env.locals → b ∉ X.fs → b ∉ ch → s.heap.get? b = some o → H b = none → h'.get? b = some o)
    (slot : ∀ b o, b ≠ X.env.locals → b ∈ X.fs → b ∉ ch → s.heap.get? b = some o → H b = none → ∃ sl, h'.get? b = some { o with slots := sl }) (free : ∀ b o, b ∉ ch → s.heap.get? b = some o → H b = none → H' b = none)
    (there : ∀ b o, b ∉ ch → s.heap.get? b = some o → ∃ o', h'.get? b = some o')
    (tups : ∀ b xs, H b = some (.tup xs) → H' b = some (.tup xs)) (frzs : ∀ b o u, H b = some (.frz o u) → H' b = some (.frz o u)) (tbls : ∀ b ps, H b = some (.tbl ps) → ∃ more, H' b = some (.tbl (ps ++ more)))
    (ns : ∀ m, s.heap.Ns X.env.locals m → h'.Ns X.env.locals m) (hok : HOk X.prog X.w H' h') (hg : AllBare g') :
    Inv X pins σ H' { s with heap := h', gens := g', drawn := d', toks := t' } := by
  have neL : ∀ b o, X.s₀.heap.get? b = some o → b ≠ X.env.locals := fun b o e => Nat.ne_of_lt (Nat.lt_of_lt_of_le (Heap.lt_size e) I.ok.above)
  have neC : ∀ b o, X.s₀.heap.get? b = some o → b ∉ X.ex → b ∉ ch := fun b o e hx hb => by
    rcases (hch b hb).1 with z | z
    · exact hx z
    · exact absurd (Nat.lt_of_lt_of_le (Heap.lt_size e) z) (Nat.lt_irrefl _)
  have cellK : ∀ x c, X.env.cells.lookup x = some c → ∀ v, s.heap.IsCell c v → h'.IsCell c v := fun x c e v ⟨o, ho, hd⟩ => by
    have nch : c ∉ ch := fun z => (hch c z).2.2.1 x c e rfl
    by_cases hc : c ∈ X.fs
    · obtain ⟨sl, q⟩ := slot c o (I.cne x c e) hc nch ho (I.freeC x c e)
      exact ⟨_, q, hd⟩
    · exact ⟨o, keep c o (I.cne x c e) hc nch ho (I.freeC x c e), hd⟩
  refine ⟨I.ok, I.os, hg, ⟨fun b o e n hb hx => ?_, fun b o e n hb hx => ?_, fun b o e n hx => ?_, fun b o e hx => ?_, fun b xs e => tups b xs (I.base.tups b xs e), fun b o xs e => frzs b o xs (I.base.frzs b o xs e), fun b ps e => ?_⟩, ?_, fun x c e => ?_, ?_, fun x c e => ?_, fun p hp => ?_, hok, I.len⟩
  · exact keep b o (neL b o e) hb (neC b o e hx) (I.base.keep b o e n hb hx) (I.base.free b o e n hx)
  · obtain ⟨sl, e1⟩ := I.base.slot b o e n hb hx
    obtain ⟨sl', e2⟩ := slot b _ (neL b o e) hb (neC b o e hx) e1 (I.base.free b o e n hx)
    exact ⟨sl', e2⟩
  · obtain ⟨o', e1⟩ := I.base.there b o e hx
    exact free b o' (neC b o e hx) e1 (I.base.free b o e n hx)
  · obtain ⟨o', e1⟩ := I.base.there b o e hx
    exact there b o' (neC b o e hx) e1
  · obtain ⟨m1, e1⟩ := I.base.tbls b ps e
    obtain ⟨m2, e2⟩ := tbls b _ e1
    exact ⟨m1 ++ m2, by rw [e2, Array.append_assoc]⟩
  · obtain ⟨m, hn, hl⟩ := I.loc
    refine ⟨m, ns m hn, fun i x v e1 e2 e3 => ?_⟩
    obtain ⟨u, r, l⟩ := hl i x v e1 e2 e3
    refine ⟨u, r, ?_⟩
    rcases l with l | ⟨k, c, e, z⟩
    · exact .inl l
    · exact .inr ⟨k, c, e, cellK x c e _ z⟩
  · obtain ⟨v, z⟩ := I.cell x c e
    exact ⟨v, cellK x c e v z⟩
  · obtain ⟨m, ⟨o, _, _, ho, _⟩, _⟩ := I.loc
    exact free _ o (fun z => (hch _ z).2.1 rfl) ho I.free
  · obtain ⟨v, o, ho, hd⟩ := I.cell x c e
    exact free c o (fun z => (hch c z).2.2.1 x c e rfl) ho (I.freeC x c e)
  · obtain ⟨e, n, ne, nf, d⟩ := I.pin p hp
    have nch : p.1 ∉ ch := fun z => (hch p.1 z).2.2.2 p hp rfl
    exact ⟨keep p.1 p.2 ne nf nch e n, free p.1 p.2 nch e n, ne, nf, d⟩
theorem Inv.un {t' : Nat} (I : Inv X pins σ H s) (u : Un X.fs [] H H' s.heap h') (hok : HOk X.prog X.w H' h') : Inv X pins σ H' { s with heap := h', toks := t' } := by
  obtain ⟨m, ⟨o, es, ep, ho, r⟩, _⟩ := id I.loc
  obtain ⟨sl, hL⟩ := u.any ho I.free (by simp)
  exact I.step (g' := s.gens) (d' := s.drawn) (ch := []) (fun _ z => nomatch z) (fun b o _ hb _ e n => u.keep b o e n hb (by simp)) (fun b o _ hb _ e n => u.slot b o e n hb (by simp)) (fun b o _ e n => u.free b o e n (by simp)) (fun b o _ e => u.there b o e (by simp)) u.tups u.frzs u.tbls (fun m' hm => by
    obtain ⟨o', es', ep', ho', r'⟩ := hm
    rw [ho] at ho'; cases ho'
    exact ⟨_, es', ep', hL, r'⟩) hok I.bare
theorem Inv.call {g' : Array GenState} {t' : Nat} {d' : Drawn} {ch : List Addr} (I : Inv X pins σ H s) (u : Un (frs X.stack) ch H H' s.heap h') (hok : HOk X.prog X.w H' h') (hg : AllBare g')
    (hch : ∀ b ∈ ch, (b ∈ X.ex ∨ X.s₀.heap.objs.size ≤ b) ∧ b ≠ X.env.locals ∧ (∀ x c, X.env.cells.lookup x = some c → c ≠ b) ∧ ∀ p ∈ X.pn ++ pins, p.1 ≠ b) :
    Inv X pins σ H' { s with heap := h', gens := g', drawn := d', toks := t' } := by
  obtain ⟨m, ⟨o, es, ep, ho, r⟩, _⟩ := id I.loc
  obtain ⟨sl, hL⟩ := u.any ho I.free fun z => (hch _ z).2.1 rfl
  exact I.step (ch := ch) hch (fun b o hL hb hc e n => u.keep b o e n (fun z => (List.mem_cons.mp (I.stkSub b z)).elim hL hb) hc) (fun b o _ _ hc e n => u.any e n hc) (fun b o hc e n => u.free b o e n hc) (fun b o hc e => u.there b o e hc) u.tups u.frzs u.tbls (fun m' hm => by
    obtain ⟨o', es', ep', ho', r'⟩ := hm
    rw [ho] at ho'; cases ho'
    exact ⟨_, es', ep', hL, r'⟩) hok hg
theorem Inv.turned {t' : Nat} {it : Addr} (I : Inv X pins σ H s) (k : ∀ b o, b ≠ it → s.heap.get? b = some o → h'.get? b = some o) (hn : H it = none) (hL : it ≠ X.env.locals)
    (h1 : it ∈ X.ex ∨ X.s₀.heap.objs.size ≤ it) (h2 : ∀ x c, X.env.cells.lookup x = some c → c ≠ it) (h3 : ∀ p ∈ X.pn ++ pins, p.1 ≠ it) : Inv X pins σ H { s with heap := h', toks := t' } := by
  have nit : ∀ b u, H b = some u → b ≠ it := fun b u e z => by rw [z, hn] at e; cases e
  refine I.step (g' := s.gens) (d' := s.drawn) (ch := [it]) (fun b hb => ?_) (fun b o _ _ hc e _ => k b o (fun z => hc (by simp [z])) e) (fun b o _ _ hc e _ => ⟨o.slots, k b o (fun z => hc (by simp [z])) e⟩) (fun _ _ _ _ n => n)
    (fun b o hc e => ⟨o, k b o (fun z => hc (by simp [z])) e⟩) (fun _ _ e => e) (fun _ _ _ e => e) (fun b ps e => ⟨#[], by rw [e]; simp⟩) (fun m hm => ?_) (fun b u e => ?_) I.bare
  · have e : b = it := by simpa using hb
    subst e
    exact ⟨h1, hL, h2, h3⟩
  · obtain ⟨o, es, ep, ho, r⟩ := hm
    exact ⟨o, es, ep, k _ o (Ne.symm hL) ho, r⟩
  · refine (I.hok b u e).stay (fun c v hc q => k c v ?_ q) (fun _ q => q) fun _ _ q => q
    rcases hc with z | z
    · rw [z]; exact nit b u e
    · exact nit c _ z
theorem Inv.tok (I : Inv X pins σ H s) (t : Nat) : Inv X pins σ H { s with toks := t } := I.un (h' := s.heap) (t' := t) Un.refl I.hok
theorem Inv.kept {t' : Nat} (I : Inv X pins σ H s) (k : ∀ b u, s.heap.get? b = some u → h'.get? b = some u) : Inv X pins σ H { s with heap := h', toks := t' } := I.un (Un.kept k) (I.hok.kept k)
theorem Inv.laid {a : Addr} {o : HO} {t' : Nat} (I : Inv X pins σ H s) (k : ∀ b u, s.heap.get? b = some u → h'.get? b = some u) (hp : s.heap.objs.size ≤ a) (new : ObjOk X.prog X.w (upd H a o) h' a o) :
    Inv X pins σ (upd H a o) { s with heap := h', toks := t' } := I.un (Un.laid k hp (I.hok.fresh hp)) (I.hok.laid k hp new)
theorem Inv.write {x e : Addr} {o : HO} {t' : Nat} (I : Inv X pins σ H s) (mu : Mut (H x)) (he : e = x ∨ H e = some (.own x)) (k : ∀ b u, b ≠ e → s.heap.get? b = some u → h'.get? b = some u) (heo : ∃ u, h'.get? e = some u)
    (new : ObjOk X.prog X.w (upd H x o) h' x o) : Inv X pins σ (upd H x o) { s with heap := h', toks := t' } := I.un (Un.write mu he k heo) (I.hok.write mu he k heo new)
theorem Inv.pins_of {pins' : List (Addr × Obj)} (I : Inv X pins σ H s) (h : ∀ p ∈ pins', s.heap.get? p.1 = some p.2 ∧ H p.1 = none ∧ p.1 ≠ X.env.locals ∧ p.1 ∉ X.fs ∧ ∀ v, p.2.data ≠ .cell v) : Inv X pins' σ H s :=
  ⟨I.ok, I.os, I.bare, I.base, I.loc, I.cell, I.free, I.freeC, fun p hp => (List.mem_append.mp hp).elim (fun z => I.pin p (List.mem_append_left _ z)) (h p), I.hok, I.len⟩
theorem nodup_ix {N : List Str} (hN : N.Nodup) {i j : Nat} {x : Str} (a : N[i]? = some x) (b : N[j]? = some x) : i = j := by
  obtain ⟨h1, e1⟩ := List.getElem?_eq_some_iff.mp a
  obtain ⟨h2, e2⟩ := List.getElem?_eq_some_iff.mp b
  exact (List.getElem_inj hN).mp (e1.trans e2.symm)
theorem store_ok2 {M : Model} {A : Around} {E : Value → Shared → Prop} {i : Nat} {x : Str} {v : V} {u : Value} {Q : Unit → Shared → Prop} (I : Inv X pins σ H s) (hN : X.N.Nodup) (hi : X.N[i]? = some x) (hx : Loc X.env.scope x) (r : RelV v u)
    (h : ∀ s', Inv X pins (σ.set i (some v)) H s' → (∃ a, Heap.SameBut a s.heap s'.heap ∧ (a = X.env.locals ∨ X.env.cells.lookup x = some a)) → Q () s') (hf : X.fn x = true ∨ X.env.scope.names.lookup x = some .local := by first | exact .inl rfl | exact .inr rfl | assumption) : wpAny M A (storeName X.env x u) Q E s := by
  obtain ⟨m, hn, hl⟩ := id I.loc
  have hcls : (X.env.scope.kind == .class || (X.env.scope.kind == .module && X.env.locals != X.env.globals)) = false := by rw [I.ok.kind]; rfl
  have hiσ : i < σ.length := by rw [I.len]; exact (List.getElem?_eq_some_iff.mp hi).1
  have cne := I.cne
  have tracked : ∀ {a : Addr} {h' : Heap}, (∃ o, s.heap.get? a = some o ∧ H a = none) → Heap.SameBut a s.heap h' → HOk X.prog X.w H h' := fun {a h'} ha hs b ob e => by
    obtain ⟨_, _, hfree⟩ := ha
    refine (I.hok b ob e).stay (fun c w' hc q => (hs.2 c ?_).trans q) (fun _ q => q) fun _ _ q => q
    rintro rfl
    rcases hc with rfl | hc
    · rw [hfree] at e; cases e
    · rw [hfree] at hc; cases hc
  rcases hx with hk | hk
  · refine wpAny_storeName_local hk hn (fun h' hn' hs => ?_) hcls
    obtain ⟨oL, _, _, hoL, _⟩ := id hn
    refine h _ ⟨I.ok, I.os, I.bare, ⟨fun b o e n hb hx => ?_, fun b o e n hb hx => ?_, I.base.free, fun b o e hx => ?_, I.base.tups, I.base.frzs, I.base.tbls⟩, ⟨_, hn', fun j y v' e1 e2 e3 => ?_⟩, fun y c e => ?_, I.free, I.freeC, fun p hp => ?_, tracked ⟨oL, hoL, I.free⟩ hs, by simpa using I.len⟩ ⟨_, hs, .inl rfl⟩
    · exact (hs.2 b (Nat.ne_of_lt (Nat.lt_of_lt_of_le (Heap.lt_size e) I.ok.above))).trans (I.base.keep b o e n hb hx)
    · obtain ⟨sl, e1⟩ := I.base.slot b o e n hb hx
      exact ⟨sl, (hs.2 b (Nat.ne_of_lt (Nat.lt_of_lt_of_le (Heap.lt_size e) I.ok.above))).trans e1⟩
    · obtain ⟨o', e1⟩ := I.base.there b o e hx
      exact ⟨o', (hs.2 b (Nat.ne_of_lt (Nat.lt_of_lt_of_le (Heap.lt_size e) I.ok.above))).trans e1⟩
    · by_cases hj : j = i
      · subst hj
        rw [hi] at e1; cases e1
        rw [List.getElem?_set_self hiσ] at e2
        cases e2
        exact ⟨u, r, .inl ⟨hk, by simp⟩⟩
      · rw [List.getElem?_set_ne (Ne.symm hj)] at e2
        obtain ⟨u', r', q⟩ := hl j y v' e1 e2 e3
        refine ⟨u', r', ?_⟩
        rcases q with ⟨k, e⟩ | ⟨k, c, e, z⟩
        · refine .inl ⟨k, ?_⟩
          have : y ≠ x := fun e => hj (nodup_ix hN e1 (e ▸ hi))
          simp [this, e]
        · exact .inr ⟨k, c, e, z.sameBut hs (cne y c e)⟩
    · obtain ⟨w', z⟩ := I.cell y c e
      exact ⟨w', z.sameBut hs (cne y c e)⟩
    · obtain ⟨e, n, ne, nf, d⟩ := I.pin p hp
      exact ⟨(hs.2 p.1 ne).trans e, n, ne, nf, d⟩
  · have hfn : X.fn x = true := by
      rcases hf with z | z
      · exact z
      · rw [z] at hk; cases hk
    obtain ⟨c, hc⟩ := I.ok.has x (.inl hk)
    obtain ⟨w', z⟩ := I.cell x c hc
    refine wpAny_storeName_cell I.ok.kind hk hc z (fun h' hc' hs => ?_)
    obtain ⟨oc, hoc, hocd⟩ := id z
    refine h { s with heap := h' } ⟨I.ok, I.os, I.bare, ⟨fun b o e n hb hx => ?_, fun b o e n hb hx => ?_, I.base.free, fun b o e hx => ?_, I.base.tups, I.base.frzs, I.base.tbls⟩, ⟨m, hn.sameBut hs (Ne.symm (cne x c hc)), fun j y v' e1 e2 e3 => ?_⟩, fun y c' e => ?_, I.free, I.freeC, fun p hp => ?_, tracked ⟨oc, hoc, I.freeC x c hc⟩ hs, by simpa using I.len⟩ ⟨c, hs, .inr hc⟩
    · exact (hs.2 b (Nat.ne_of_lt (Nat.lt_of_lt_of_le (Heap.lt_size e) (I.ok.cab x c hfn hc)))).trans (I.base.keep b o e n hb hx)
    · obtain ⟨sl, e1⟩ := I.base.slot b o e n hb hx
      exact ⟨sl, (hs.2 b (Nat.ne_of_lt (Nat.lt_of_lt_of_le (Heap.lt_size e) (I.ok.cab x c hfn hc)))).trans e1⟩
    · obtain ⟨o', e1⟩ := I.base.there b o e hx
      exact ⟨o', (hs.2 b (Nat.ne_of_lt (Nat.lt_of_lt_of_le (Heap.lt_size e) (I.ok.cab x c hfn hc)))).trans e1⟩
    · by_cases hj : j = i
      · subst hj
        rw [hi] at e1; cases e1
        rw [List.getElem?_set_self hiσ] at e2
        cases e2
        exact ⟨u, r, .inr ⟨.inl hk, c, hc, hc'⟩⟩
      · rw [List.getElem?_set_ne (Ne.symm hj)] at e2
        obtain ⟨u', r', q⟩ := hl j y v' e1 e2 e3
        refine ⟨u', r', ?_⟩
        rcases q with q | ⟨k, c', e, z'⟩
        · exact .inl q
        · refine .inr ⟨k, c', e, z'.sameBut hs ?_⟩
          rintro rfl
          exact hj (nodup_ix hN e1 (I.ok.inj _ _ _ e hc ▸ hi))
    · by_cases hcc : c' = c
      · subst hcc; exact ⟨_, hc'⟩
      · obtain ⟨w2, z2⟩ := I.cell y c' e
        exact ⟨w2, z2.sameBut hs hcc⟩
    · obtain ⟨e, n, ne, nf, d⟩ := I.pin p hp
      refine ⟨(hs.2 p.1 ?_).trans e, n, ne, nf, d⟩
      intro q
      rw [q, hoc] at e
      have q' : oc = p.2 := Option.some.inj e
      exact d w' (by rw [← q']; exact hocd)
theorem store_ok {M : Model} {A : Around} {E : Value → Shared → Prop} {i : Nat} {x : Str} {v : V} {u : Value} {Q : Unit → Shared → Prop} (I : Inv X pins σ H s) (hN : X.N.Nodup) (hi : X.N[i]? = some x) (hx : Loc X.env.scope x) (r : RelV v u)
    (h : ∀ s', Inv X pins (σ.set i (some v)) H s' → Q () s') (hf : X.fn x = true ∨ X.env.scope.names.lookup x = some .local := by first | exact .inl rfl | exact .inr rfl | assumption) : wpAny M A (storeName X.env x u) Q E s :=
  store_ok2 I hN hi hx r (fun s' I' _ => h s' I') hf
theorem Inv.call' {s' : Shared} {ch : List Addr} (I : Inv X pins σ H s) (ho : s'.os = s.os) (u : Un (frs X.stack) ch H H' s.heap s'.heap) (hok : HOk X.prog X.w H' s'.heap) (hg : AllBare s'.gens)
    (hch : ∀ b ∈ ch, (b ∈ X.ex ∨ X.s₀.heap.objs.size ≤ b) ∧ b ≠ X.env.locals ∧ (∀ x c, X.env.cells.lookup x = some c → c ≠ b) ∧ ∀ p ∈ X.pn ++ pins, p.1 ≠ b) : Inv X pins σ H' s' := by
  obtain ⟨h', g', d', t', o'⟩ := s'
  have e : o' = s.os := ho
  subst e
  exact I.call (g' := g') (t' := t') (d' := d') u hok hg hch
end
noncomputable abbrev XK := Value → Option Addr → Hp → Prop
noncomputable abbrev St := List (Option V)
noncomputable abbrev VK := V → Hp → Prop
noncomputable abbrev TE := St → Hp → VK → Prop
noncomputable abbrev TT := St → Hp → (Bool → Hp → Prop) → Prop
noncomputable abbrev TA := St → Hp → (List V → Hp → Prop) → Prop
set_option genInjectivity false in
structure Ends where
  nx : St → Hp → Prop
  rt : VK
  bk : St → Hp → Prop := fun _ _ => False
  ct : St → Hp → Prop := fun _ _ => False
noncomputable abbrev TS := Ends → St → Hp → Prop
noncomputable def EP (X : Cx) (pins : List (Addr × Obj)) (σ : St) (Q : VK) (u : Value) (s' : Shared) : Prop := ∃ v H', Inv X pins σ H' s' ∧ RelV v u ∧ Q v H'
noncomputable def TP (X : Cx) (pins : List (Addr × Obj)) (σ : St) (Q : Bool → Hp → Prop) (b : Bool) (s' : Shared) : Prop := ∃ H', Inv X pins σ H' s' ∧ Q b H'
noncomputable def AP (X : Cx) (pins : List (Addr × Obj)) (σ : St) (Q : List V → Hp → Prop) (us : List Value) (s' : Shared) : Prop := ∃ vs H', Inv X pins σ H' s' ∧ Vals vs us ∧ Q vs H'
noncomputable def SP (X : Cx) (pins : List (Addr × Obj)) (D : Ends) (f : Flow) (s' : Shared) : Prop :=
  match f with
  | .next => ∃ σ' H', Inv X pins σ' H' s' ∧ D.nx σ' H'
  | .brk => ∃ σ' H', Inv X pins σ' H' s' ∧ D.bk σ' H'
  | .cont => ∃ σ' H', Inv X pins σ' H' s' ∧ D.ct σ' H'
  | .ret u => ∃ v σ' H', Inv X pins σ' H' s' ∧ RelV v u ∧ D.rt v H'
noncomputable def PE (X : Cx) (e : Expr) (t : TE) : Prop :=
  ∀ (pins : List (Addr × Obj)) (s : Shared) (σ : St) (H : Hp) (Q : VK), Inv X pins σ H s → t σ H Q → wpAny (model X.prog X.w) X.A (eval e X.env) (EP X pins σ Q) X.xe s
noncomputable def PT (X : Cx) (e : Expr) (t : TT) : Prop :=
  ∀ (pins : List (Addr × Obj)) (s : Shared) (σ : St) (H : Hp) (Q : Bool → Hp → Prop), Inv X pins σ H s → t σ H Q → wpAny (model X.prog X.w) X.A (isTrue e X.env (eval e X.env)) (TP X pins σ Q) X.xe s
noncomputable def PW (X : Cx) (e : Expr) (t : TT) : Prop :=
  ∀ (whole : Sem Value) (pins : List (Addr × Obj)) (s : Shared) (σ : St) (H : Hp) (Q : Bool → Hp → Prop), Inv X pins σ H s → t σ H Q → wpAny (model X.prog X.w) X.A (isTrue e X.env whole) (TP X pins σ Q) X.xe s
theorem PW.pt {X : Cx} {e : Expr} {t : TT} (h : PW X e t) : PT X e t := h _
noncomputable def PA (X : Cx) (es : List Expr) (t : TA) : Prop :=
  ∀ (pos : Pos) (pins : List (Addr × Obj)) (s : Shared) (σ : St) (H : Hp) (Q : List V → Hp → Prop), Inv X pins σ H s → t σ H Q → wpAny (model X.prog X.w) X.A (spliced (backTo pos (starEach es X.env))) (AP X pins σ Q) X.xe s
noncomputable def PS (X : Cx) (st : Stmt) (t : TS) : Prop :=
  ∀ (pins : List (Addr × Obj)) (s : Shared) (σ : St) (H : Hp) (D : Ends), Inv X pins σ H s → t D σ H → wpAny (model X.prog X.w) X.A (exec st X.env) (SP X pins D) X.xe s
noncomputable def PSs (X : Cx) (st : List Stmt) (t : TS) : Prop :=
  ∀ (pins : List (Addr × Obj)) (s : Shared) (σ : St) (H : Hp) (D : Ends), Inv X pins σ H s → t D σ H → wpAny (model X.prog X.w) X.A (execs st X.env) (SP X pins D) X.xe s
theorem thn {α : Type} {t : Sem α} {Q Q' : α → Shared → Prop} {M : Model} {A : Around} {E : Value → Shared → Prop} {s : Shared} (h : wpAny M A t Q E s) (hQ : ∀ a s, Q a s → Q' a s) : wpAny M A t Q' E s := wpAny_mono h hQ fun _ _ x => x
end L2
namespace L2
open PySem PySem.Spec PyProof.Rows
section
variable {X : Cx}
noncomputable def tVar (i : Nat) : TE := fun σ H Q => ∃ v, σ[i]? = some (some v) ∧ Q v H
noncomputable def tC (v : V) : TE := fun _ H Q => Q v H
theorem pe_var {i : Nat} {x : Str} {pos : Pos} (hN : X.N[i]? = some x) (hv : Vis X.env.scope x) (hd : (x == ("__debug__" : Str)) = false := by decide) (hcd : (x == ("__classdict__" : Str)) = false := by decide) : PE X (.Name x pos) (tVar i) := by
  intro pins s σ H Q I h
  obtain ⟨v, e, h⟩ := h
  obtain ⟨m, hn, hl⟩ := I.loc
  obtain ⟨u, r, l⟩ := hl i x v hN e hv
  have fin : EP X pins σ Q u s := ⟨v, H, I, r, h⟩
  rcases l with ⟨hk, hm⟩ | ⟨hk, c, hc, hcell⟩
  · exact wpAny_Name (wpAny_loadName_local I.ok.kind hk hn hm fin) hd
  · rcases hk with hk | hk
    · exact wpAny_Name (wpAny_loadName_cell I.ok.kind hk hc hcell fin) hd
    · exact wpAny_Name (wpAny_loadName_free I.ok.kind hk hc hcell fin hcd) hd
theorem pe_int {i j pos} : PE X (.Constant (.int i) j pos) (tC (.int i)) := fun _ _ _ H _ I h => wpAny_Constant_int ⟨.int i, H, I.tok _, ⟨_, rfl⟩, h⟩
theorem pe_bl {b j pos} : PE X (.Constant (.bool b) j pos) (tC (.bl b)) := fun _ _ _ H _ I h => Constant_bool ⟨.bl b, H, I, rfl, h⟩
theorem pe_non {j pos} : PE X (.Constant .none j pos) (tC .non) := fun _ _ _ H _ I h => Constant_none ⟨.non, H, I, rfl, h⟩
theorem pe_str {x j pos} : PE X (.Constant (.str x) j pos) (tC (.str x)) := fun _ _ _ H _ I h => Calls.Constant_str ⟨.str x, H, I.tok _, ⟨_, rfl⟩, h⟩
noncomputable def Gl (X : Cx) (x : Str) : Prop := X.env.kindOf x = some .globalImplicit
theorem ld_glob {E : Value → Shared → Prop} {pins : List (Addr × Obj)} {s : Shared} {σ : St} {H : Hp} {x : Str} {u : Value} {pos : Pos} {Q : Value → Shared → Prop} (I : Inv X pins σ H s) (hg : Gl X x) (hm : X.mg x = some u) (h : Q u s)
    (hd : (x == ("__debug__" : Str)) = false := by decide) : wpAny (model X.prog X.w) X.A (eval (.Name x pos) X.env) Q E s :=
  Calls.Name_function_global I.ok.kind hg (Calls.loadGlobal_global (by rw [I.ok.glob]; exact I.mod.glob.keeps I.bk) hm h) hd
theorem ld_blt {E : Value → Shared → Prop} {pins : List (Addr × Obj)} {s : Shared} {σ : St} {H : Hp} {x : Str} {u : Value} {pos : Pos} {Q : Value → Shared → Prop} (I : Inv X pins σ H s) (hg : Gl X x) (hm : X.mg x = none) (hv : bootBuiltins x = some u) (h : Q u s)
    (hn : x ≠ "__name__" := by decide) (hd : (x == ("__debug__" : Str)) = false := by decide) : wpAny (model X.prog X.w) X.A (eval (.Name x pos) X.env) Q E s := by
  obtain ⟨mb, h1, h2⟩ := I.mod.blt
  exact Calls.Name_function_global I.ok.kind hg (Calls.loadGlobal_builtin (by rw [I.ok.glob]; exact I.mod.glob.keeps I.bk) hm (by rw [I.ok.blt]; exact h1.keeps I.bk) ((h2 x hn).trans hv) h) hd
theorem pe_glob {x : Str} {v : V} {u : Value} {pos : Pos} (hg : Gl X x) (hm : X.mg x = some u) (r : RelV v u) (hd : (x == ("__debug__" : Str)) = false := by decide) : PE X (.Name x pos) (tC v) :=
  fun _ _ _ H _ I h => ld_glob I hg hm ⟨v, H, I, r, h⟩ hd
theorem pe_bltn {x : Str} {v : V} {u : Value} {pos : Pos} (hg : Gl X x) (hm : X.mg x = none) (hv : bootBuiltins x = some u) (r : RelV v u) (hn : x ≠ "__name__" := by decide) (hd : (x == ("__debug__" : Str)) = false := by decide) : PE X (.Name x pos) (tC v) :=
  fun _ _ _ H _ I h => ld_blt I hg hm hv ⟨v, H, I, r, h⟩ hn hd
noncomputable def t2I (ta tb : TE) (k : Int → Int → Hp → Prop) : St → Hp → Prop := fun σ H => ta σ H fun x H1 => tb σ H1 fun y H2 => ∃ i j, x = .int i ∧ y = .int j ∧ k i j H2
variable {a b : Expr} {ta tb : TE} {pos : Pos}
noncomputable def tCmp (p : Int → Int → Bool) (ta tb : TE) : TE := fun σ H Q => t2I ta tb (fun i j H2 => Q (.bl (p i j)) H2) σ H
noncomputable abbrev tLt : TE → TE → TE := tCmp fun i j => decide (i < j)
noncomputable abbrev tLe : TE → TE → TE := tCmp fun i j => decide (i ≤ j)
noncomputable abbrev tGt : TE → TE → TE := tCmp fun i j => decide (j < i)
noncomputable abbrev tGe : TE → TE → TE := tCmp fun i j => decide (j ≤ i)
noncomputable abbrev tEqI : TE → TE → TE := tCmp fun i j => decide (i = j)
noncomputable abbrev tNeI : TE → TE → TE := tCmp fun i j => !decide (i = j)
noncomputable def tB (t : TE) : TT := fun σ H Q => t σ H fun x H1 => ∃ c, x = .bl c ∧ Q c H1
variable {tA tB' : TT} {rest : List Expr}
noncomputable def tAnd (t u : TT) : TT := fun σ H Q => t σ H fun c H1 => if c = true then u σ H1 Q else Q false H1
noncomputable def tOr (t u : TT) : TT := fun σ H Q => t σ H fun c H1 => if c = true then Q true H1 else u σ H1 Q
noncomputable def tNot (t : TT) : TT := fun σ H Q => t σ H fun c H1 => Q (!c) H1
theorem pw_and1 (ha : PT X a tA) : PW X (.BoolOp .And [a] pos) tA := by
  intro wh pins s σ H Q I h
  refine isTrue_and (thn (ha pins s σ H Q I h) fun c s1 e => ?_)
  cases c with
  | true => exact isTrue_and_nil e
  | false => exact e
theorem pw_or1 (ha : PT X a tA) : PW X (.BoolOp .Or [a] pos) tA := by
  intro wh pins s σ H Q I h
  refine isTrue_or (thn (ha pins s σ H Q I h) fun c s1 e => ?_)
  cases c with
  | false => exact isTrue_or_nil e
  | true => exact e
theorem pw_and (ha : PT X a tA) (hb : PW X (.BoolOp .And (b :: rest) pos) tB') : PW X (.BoolOp .And (a :: b :: rest) pos) (tAnd tA tB') := by
  intro wh pins s σ H Q I h
  refine isTrue_and (thn (ha pins s σ H _ I h) fun c s1 qz9 => ?_)
  obtain ⟨H1, I1, q1⟩ := qz9
  cases c with
  | true => exact hb wh pins s1 σ H1 Q I1 q1
  | false => exact ⟨H1, I1, q1⟩
theorem pw_or (ha : PT X a tA) (hb : PW X (.BoolOp .Or (b :: rest) pos) tB') : PW X (.BoolOp .Or (a :: b :: rest) pos) (tOr tA tB') := by
  intro wh pins s σ H Q I h
  refine isTrue_or (thn (ha pins s σ H _ I h) fun c s1 qz9 => ?_)
  obtain ⟨H1, I1, q1⟩ := qz9
  cases c with
  | true => exact ⟨H1, I1, q1⟩
  | false => exact hb wh pins s1 σ H1 Q I1 q1
theorem pt_not (ha : PT X a tA) : PT X (.UnaryOp .Not a pos) (tNot tA) := by
  intro pins s σ H Q I h
  exact isTrue_not (ha pins s σ H (fun c H1 => Q (!c) H1) I h)
noncomputable def tAndV (ta tb : TE) : TE := fun σ H Q => ta σ H fun x H1 => ∃ c, x = .bl c ∧ if c = true then tb σ H1 Q else Q (.bl false) H1
noncomputable def tOrV (ta tb : TE) : TE := fun σ H Q => ta σ H fun x H1 => ∃ c, x = .bl c ∧ if c = true then Q (.bl true) H1 else tb σ H1 Q
noncomputable def tNotV (ta : TE) : TE := fun σ H Q => ta σ H fun x H1 => ∃ c, x = .bl c ∧ Q (.bl (!c)) H1
theorem pe_one {op} {t : TE} (h : PE X a t) : PE X (.BoolOp op [a] pos) t := fun pins s σ H Q I hw => BoolOp_one (h pins s σ H Q I hw)
theorem pe_and (ha : PE X a ta) (hb : PE X (.BoolOp .And (b :: rest) pos) tb) : PE X (.BoolOp .And (a :: b :: rest) pos) (tAndV ta tb) := by
  intro pins s σ H Q I h
  refine BoolOp_and (thn (ha pins s σ H _ I h) fun v s1 qz9 => ?_)
  obtain ⟨x, H1, I1, r1, q1⟩ := qz9
  obtain ⟨c, rfl, q1⟩ := q1
  cases r1
  refine wpAny_truthy_bool ?_
  cases c with
  | true => exact hb pins s1 σ H1 Q I1 q1
  | false => exact ⟨.bl false, H1, I1, rfl, q1⟩
theorem pe_or (ha : PE X a ta) (hb : PE X (.BoolOp .Or (b :: rest) pos) tb) : PE X (.BoolOp .Or (a :: b :: rest) pos) (tOrV ta tb) := by
  intro pins s σ H Q I h
  refine BoolOp_or (thn (ha pins s σ H _ I h) fun v s1 qz9 => ?_)
  obtain ⟨x, H1, I1, r1, q1⟩ := qz9
  obtain ⟨c, rfl, q1⟩ := q1
  cases r1
  refine wpAny_truthy_bool ?_
  cases c with
  | false => exact hb pins s1 σ H1 Q I1 q1
  | true => exact ⟨.bl true, H1, I1, rfl, q1⟩
theorem pe_not (ha : PE X a ta) : PE X (.UnaryOp .Not a pos) (tNotV ta) := by
  intro pins s σ H Q I h
  refine UnaryOp_ (thn (ha pins s σ H _ I h) fun v s1 qz9 => ?_)
  obtain ⟨x, H1, I1, r1, q1⟩ := qz9
  obtain ⟨c, rfl, q1⟩ := q1
  cases r1
  exact not_of (wpAny_truthy_bool ⟨.bl (!c), H1, I1, rfl, q1⟩)
noncomputable def tIf (t : TT) (ta tb : TE) : TE := fun σ H Q => t σ H fun c H1 => if c = true then ta σ H1 Q else tb σ H1 Q
theorem pe_ifExp {c : Expr} (hc : PT X c tA) (ha : PE X a ta) (hb : PE X b tb) : PE X (.IfExp c a b pos) (tIf tA ta tb) := by
  intro pins s σ H Q I h
  refine wpAny_IfExp (thn (hc pins s σ H _ I h) fun d s1 qz9 => ?_)
  obtain ⟨H1, I1, q1⟩ := qz9
  cases d with
  | true => exact ha pins s1 σ H1 Q I1 q1
  | false => exact hb pins s1 σ H1 Q I1 q1
end
end L2
namespace L2
open PySem PySem.Spec PyProof.Rows
noncomputable def SqL (K : PySem.W.Frag) (H : Hp) (a : Addr) (xs : List V) : Prop :=
  Rd H a (.lst xs) ∨
    ∃ (o : Obj) (its : Array Value) (n : Nat), K.lookup a = some o ∧ o.cls = .type "list" ∧ o.dict = none ∧ o.data = .seq its n ∧ its.size ≤ sizeLine ∧ Vals xs its.toList
noncomputable def SqT (K : PySem.W.Frag) (H : Hp) (a : Addr) (xs : List V) : Prop :=
  Rd H a (.tup xs) ∨
    ∃ (o : Obj) (its : Array Value) (n : Nat), K.lookup a = some o ∧ o.cls = .type "tuple" ∧ o.data = .seq its n ∧ its.size ≤ sizeLine ∧ Vals xs its.toList
noncomputable def absV : Value → Option V
  | .none => some .non
  | .bool b => some (.bl b)
  | .int i _ => some (.int i)
  | .str x _ => some (.str x)
  | .bytes b _ => some (.byt b)
  | .float b _ => some (.flt b)
  | .ref a => some (.ref a)
  | .type n => some (.ty n)
  | _ => none
theorem RelV.abs {x : V} {u : Value} (r : RelV x u) : absV u = some x := by
  cases x with
  | non => cases r; rfl
  | bl _ => cases r; rfl
  | int _ => obtain ⟨t, rfl⟩ := r; rfl
  | str _ => obtain ⟨t, rfl⟩ := r; rfl
  | byt _ => obtain ⟨t, rfl⟩ := r; rfl
  | flt _ => obtain ⟨t, rfl⟩ := r; rfl
  | ref _ => cases r; rfl
  | ty _ => cases r; rfl
theorem RelV.inj {x y : V} {u : Value} (r : RelV x u) (q : RelV y u) : x = y := Option.some.inj (r.abs.symm.trans q.abs)
theorem Vals.inj {xs ys : List V} {us : List Value} (h : Vals xs us) (k : Vals ys us) : xs = ys := by
  induction h generalizing ys with
  | nil => cases k; rfl
  | cons r t ih =>
    cases k with
    | cons r' t' => rw [r.inj r', ih t']
section
variable {X : Cx} {pins : List (Addr × Obj)} {σ : St} {H : Hp} {s : Shared} {a : Addr} {xs ys : List V}
theorem Inv.list (I : Inv X pins σ H s) (h : SqL X.K H a xs) : ∃ its : List Value, Vals xs its ∧ PlainL s.heap a its.toArray ∧ xs.length ≤ sizeLine := by
  rcases h with h | ⟨o, its, n, hk, hc, hd, hs, hz, r⟩
  · obtain ⟨z, its, n, r, e⟩ := h.ok I.hok
    exact ⟨its, r, ⟨_, n, e, rfl, rfl, rfl⟩, z⟩
  · refine ⟨its.toList, r, ⟨o, n, I.kIn a o hk, hc, hd, by simpa using hs⟩, ?_⟩
    have e := r.length
    simp only [Array.length_toList] at e
    omega
theorem Inv.tuple (I : Inv X pins σ H s) (h : SqT X.K H a xs) : ∃ its : List Value, Vals xs its ∧ IsTup s.heap a its.toArray ∧ xs.length ≤ sizeLine := by
  rcases h with h | ⟨o, its, n, hk, hc, hs, hz, r⟩
  · obtain ⟨z, its, r, p⟩ := h.ok I.hok
    exact ⟨its, r, p, z⟩
  · refine ⟨its.toList, r, ⟨o, I.kIn a o hk, hc, n, by simpa using hs⟩, ?_⟩
    have e := r.length
    simp only [Array.length_toList] at e
    omega
theorem Inv.list_inj (I : Inv X pins σ H s) (h : SqL X.K H a xs) (h' : SqL X.K H a ys) : xs = ys := by
  obtain ⟨its, r, ⟨o, n, e, _, _, d⟩, _⟩ := I.list h
  obtain ⟨its', r', ⟨o', n', e', _, _, d'⟩, _⟩ := I.list h'
  rw [e] at e'; cases e'
  rw [d] at d'
  injection d' with d1 _
  have : its = its' := by simpa using congrArg Array.toList d1
  subst this
  exact r.inj r'
end
noncomputable abbrev Cx.wish (X : Cx) (E : Value → Shared → Prop) : Cx := { X with xe := E }
noncomputable abbrev Cx.nox (X : Cx) : Cx := X.wish fun _ _ => False
theorem Cx.Ok.wish {X : Cx} (ok : X.Ok) (E : Value → Shared → Prop) : (X.wish E).Ok :=
  ⟨ok.mod, ok.kind, ok.glob, ok.blt, ok.above, ok.inj, ok.has, ok.cab, ok.hd, ok.frames, ok.stk, ok.exf, ok.bs, ok.bsz, ok.noex, ok.exfs, ok.funs, ok.frf⟩
theorem Cx.Ok.unwish {X : Cx} {E : Value → Shared → Prop} (ok : (X.wish E).Ok) : X.Ok :=
  ⟨ok.mod, ok.kind, ok.glob, ok.blt, ok.above, ok.inj, ok.has, ok.cab, ok.hd, ok.frames, ok.stk, ok.exf, ok.bs, ok.bsz, ok.noex, ok.exfs, ok.funs, ok.frf⟩
section
variable {X : Cx} {pins : List (Addr × Obj)} {σ : St} {H : Hp} {s : Shared} {E : Value → Shared → Prop}
theorem Inv.wish (I : Inv X pins σ H s) (E : Value → Shared → Prop) : Inv (X.wish E) pins σ H s := ⟨I.ok.wish E, I.os, I.bare, I.base, I.loc, I.cell, I.free, I.freeC, I.pin, I.hok, I.len⟩
theorem Inv.unwish (I : Inv (X.wish E) pins σ H s) : Inv X pins σ H s := ⟨I.ok.unwish, I.os, I.bare, I.base, I.loc, I.cell, I.free, I.freeC, I.pin, I.hok, I.len⟩
theorem SP.unwish {D : Ends} {f : Flow} {s' : Shared} (h : SP (X.wish E) pins D f s') : SP X pins D f s' := by
  cases f with
  | next => obtain ⟨σ', H', I, q⟩ := h; exact ⟨σ', H', I.unwish, q⟩
  | brk => obtain ⟨σ', H', I, q⟩ := h; exact ⟨σ', H', I.unwish, q⟩
  | cont => obtain ⟨σ', H', I, q⟩ := h; exact ⟨σ', H', I.unwish, q⟩
  | ret u => obtain ⟨v, σ', H', I, r, q⟩ := h; exact ⟨v, σ', H', I.unwish, r, q⟩
theorem PSs.nox {st : List Stmt} {t : TS} (h : PSs X.nox st t) : PSs X st t := fun pins s σ H D I hw =>
  wpAny_mono (h pins s σ H D (I.wish _) hw) (fun _ _ q => q.unwish) fun _ _ z => False.elim z
end
section
variable {X : Cx} {st : Stmt} {rest : List Stmt} {t u : TS} {e : Expr} {te : TE} {pos : Pos}
noncomputable def tNext : TS := fun D σ H => D.nx σ H
noncomputable def tSeq (t u : TS) : TS := fun D σ H => t { D with nx := u D } σ H
theorem pss_nil : PSs X [] tNext := fun _ _ σ H _ I h => wpAny_execs_nil ⟨σ, H, I, h⟩
theorem pss_cons (h1 : PS X st t) (h2 : PSs X rest u) : PSs X (st :: rest) (tSeq t u) := by
  intro pins s σ H D I h
  refine wpAny_execs_cons (thn (h1 pins s σ H { D with nx := u D } I h) fun f s1 q => ?_)
  cases f with
  | next =>
    obtain ⟨σ', H', I', q⟩ := q
    exact h2 pins s1 σ' H' D I' q
  | ret v => exact q
  | brk => exact q
  | cont => exact q
theorem pss_one (h1 : PS X st t) : PSs X [st] t := by
  intro pins s σ H D I h
  refine wpAny_execs_cons (thn (h1 pins s σ H D I h) fun f s1 q => ?_)
  cases f with
  | next => exact wpAny_execs_nil q
  | ret v => exact q
  | brk => exact q
  | cont => exact q
theorem Inv.quiet {pins : List (Addr × Obj)} {σ : St} {H : Hp} {s : Shared} (I : Inv X pins σ H s) : interactive X.env = false := by simp [interactive, I.ok.kind]
noncomputable def tDrop (te : TE) : TS := fun D σ H => te σ H fun _ H1 => D.nx σ H1
theorem ps_expr (he : PE X e te) (hs : swapsWith e none pos.line X.env = pure false := by rfl) : PS X (.Expr e pos) (tDrop te) := by
  intro pins s σ H D I h
  refine wpAny_Expr_any (thn (he pins s σ H _ I h) fun v s1 qz9 => ?_) I.quiet hs
  obtain ⟨x, H1, I1, r1, q1⟩ := qz9
  exact ⟨σ, H1, I1, q1⟩
noncomputable def tRet (te : TE) : TS := fun D σ H => te σ H D.rt
theorem ps_ret (he : PE X e te) : PS X (.Return (some e) pos) (tRet te) := by
  intro pins s σ H D I h
  refine wpAny_Return_some (thn (he pins s σ H _ I h) fun v s1 qz9 => ?_)
  obtain ⟨x, H1, I1, r1, q1⟩ := qz9
  exact ⟨x, σ, H1, I1, r1, q1⟩
noncomputable def tIfS (c : TT) (t u : TS) : TS := fun D σ H => c σ H fun b H1 => if b = true then t D σ H1 else u D σ H1
theorem ps_if {c : Expr} {a b : List Stmt} {tc : TT} (hc : PT X c tc) (ha : PSs X a t) (hb : PSs X b u) : PS X (.If c a b pos) (tIfS tc t u) := by
  intro pins s σ H D I h
  refine wpAny_If (thn (hc pins s σ H _ I h) fun d s1 qz9 => ?_)
  obtain ⟨H1, I1, q1⟩ := qz9
  cases d with
  | true => exact ha pins s1 σ H1 D I1 q1
  | false => exact hb pins s1 σ H1 D I1 q1
noncomputable def tNever : TS := fun _ _ _ => False
theorem ps_never : PS X st tNever := fun _ _ _ _ _ _ h => h.elim
end
noncomputable abbrev TG := V → St → Hp → (St → Hp → Prop) → Prop
noncomputable abbrev TGs := List V → St → Hp → (St → Hp → Prop) → Prop
noncomputable def PG (X : Cx) (target : Expr) (t : TG) : Prop :=
  ∀ (pins : List (Addr × Obj)) (s : Shared) (σ : St) (H : Hp) (v : V) (u : Value) (Q : St → Hp → Prop), Inv X pins σ H s → RelV v u → t v σ H Q →
    wpAny (model X.prog X.w) X.A (assign target X.env u) (fun _ s' => ∃ σ' H', Inv X pins σ' H' s' ∧ Q σ' H') X.xe s
noncomputable def PGs (X : Cx) (ts : List Expr) (t : TGs) : Prop :=
  ∀ (pins : List (Addr × Obj)) (s : Shared) (σ : St) (H : Hp) (vs : List V) (us : List Value) (Q : St → Hp → Prop), Inv X pins σ H s → Vals vs us → t vs σ H Q →
    wpAny (model X.prog X.w) X.A (assignInOrder ((assignEach ts X.env).map (·.2)) us) (fun _ s' => ∃ σ' H', Inv X pins σ' H' s' ∧ Q σ' H') X.xe s
noncomputable abbrev TSet := V → V → V → Hp → (Hp → Prop) → Prop
noncomputable def PSet (X : Cx) (t : TSet) : Prop :=
  ∀ (pins : List (Addr × Obj)) (s : Shared) (σ : St) (H : Hp) (o i v : V) (ov iv u : Value) (Q : Hp → Prop), Inv X pins σ H s → RelV o ov → RelV i iv → RelV v u → t o i v H Q →
    wpAny (model X.prog X.w) X.A (setItem ov iv u) (fun _ s' => ∃ H', Inv X pins σ H' s' ∧ Q H') X.xe s
noncomputable abbrev TIp := V → V → Hp → VK → Prop
section
variable {X : Cx} {pos : Pos}
noncomputable def gName (i : Nat) : TG := fun v σ H Q => Q (σ.set i (some v)) H
theorem pg_name {i : Nat} {x : Str} (hN : X.N.Nodup) (hi : X.N[i]? = some x) (hx : Loc X.env.scope x) (hf : X.fn x = true ∨ X.env.scope.names.lookup x = some .local := by first | exact .inl rfl | exact .inr rfl | assumption) : PG X (.Name x pos) (gName i) := by
  intro pins s σ H v u Q I r h
  exact wpAny_assign_Name (store_ok I hN hi hx r (fun s' I' => ⟨_, H, I', h⟩) hf)
noncomputable def gNil : TGs := fun vs σ H Q => vs = [] ∧ Q σ H
noncomputable def gCons (t : TG) (u : TGs) : TGs := fun vs σ H Q => ∃ v r, vs = v :: r ∧ t v σ H fun σ' H' => u r σ' H' Q
theorem pgs_nil : PGs X [] gNil := by
  intro pins s σ H vs us Q I r h
  obtain ⟨e, h⟩ := h
  subst e
  cases r
  exact assignInOrder_nil ⟨σ, H, I, h⟩
theorem pgs_cons {e : Expr} {es : List Expr} {t : TG} {u : TGs} (h1 : PG X e t) (h2 : PGs X es u)
    (hs : (assignEach (e :: es) X.env).map (·.2) = assign e X.env :: (assignEach es X.env).map (·.2) := by rfl) : PGs X (e :: es) (gCons t u) := by
  intro pins s σ H vs us Q I r h
  obtain ⟨v, vr, e1, h⟩ := h
  subst e1
  cases r with
  | cons r rr =>
    rw [hs]
    refine assignInOrder_cons (thn (h1 pins s σ H _ _ _ I r h) fun _ s1 qz9 => ?_)
    obtain ⟨σ1, H1, I1, q1⟩ := qz9
    exact h2 pins s1 σ1 H1 _ _ Q I1 rr q1
noncomputable def gTup (K : PySem.W.Frag) (n : Nat) (t : TGs) : TG := fun v σ H Q => ∃ a xs, v = .ref a ∧ SqT K H a xs ∧ xs.length = n ∧ t xs σ H Q
theorem pg_tup {es : List Expr} {k : Nat} {t : TGs} {n : Nat} (hc : X.calm = true) (h : PGs X es t)
    (hn : (assignEach es X.env).length = n := by rfl) (hst : (assignEach es X.env).findIdx? (·.1) = none := by rfl) : PG X (.Tuple es k pos) (gTup X.K n t) := by
  intro pins s σ H v u Q I r hw
  obtain ⟨a, xs, e1, hq, hl, hw⟩ := hw
  subst e1
  cases r
  obtain ⟨its, rv, ht, hz⟩ := I.tuple hq
  refine assign_Tuple_tuple (I.ok.hd hc) ht (by simp [hn, ← hl, rv.length]) hst fun h' hx => ?_
  have I1 : Inv X pins σ H { s with heap := h' } := I.kept (t' := s.toks) fun b o e => hx b o (Nat.ne_of_lt (Heap.lt_size e)) e
  exact h pins _ σ H xs _ Q I1 (by simpa using rv) hw
noncomputable def gSub (to ti : TE) (t : TSet) : TG := fun v σ H Q => to σ H fun o H1 => ti σ H1 fun i H2 => t o i v H2 fun H3 => Q σ H3
theorem pg_sub {o i : Expr} {to ti : TE} {t : TSet} (ho : PE X o to) (hi : PE X i ti) (hs : PSet X t)
    (ha : ∀ v, assign (.Subscript o i pos) X.env v = (do
      let ov ← holding [v] (eval o X.env)
      let iv ← holding [v, ov] (eval i X.env)
      standAt pos
      holding [v, ov, iv] (setItem ov iv v)
      release [v, ov, iv] []) := by intro _; rfl) : PG X (.Subscript o i pos) (gSub to ti t) := by
  intro pins s σ H v u Q I r h
  rw [ha]
  refine wpAny_bind (wpAny_holding (thn (ho pins s σ H _ I h) fun ov s1 qz9 => ?_))
  obtain ⟨x, H1, I1, r1, q1⟩ := qz9
  refine wpAny_bind (wpAny_holding (thn (hi pins s1 σ H1 _ I1 q1) fun iv s2 qz9 => ?_))
  obtain ⟨y, H2, I2, r2, q2⟩ := qz9
  refine wpAny_bind (wpAny_standAt (wpAny_bind (wpAny_holding (thn (hs pins s2 σ H2 x y v ov iv u _ I2 r1 r2 r q2) fun _ s3 qz9 => ?_))))
  obtain ⟨H3, I3, q3⟩ := qz9
  exact wpAny_release ⟨σ, H3, I3, q3⟩
noncomputable def tAsg (te : TE) (g : TG) : TS := fun D σ H => te σ H fun x H1 => g x σ H1 D.nx
theorem ps_asg {tg e : Expr} {te : TE} {g : TG} (he : PE X e te) (hg : PG X tg g) (hs : swapsWithSole [tg] e pos.line X.env = pure false := by rfl) (hw : swappedStores [tg] e X.env = pure none := by rfl)
    (h1 : (assignEach [tg] X.env).map (·.2) = [assign tg X.env] := by rfl) : PS X (.Assign [tg] e pos) (tAsg te g) := by
  intro pins s σ H D I h
  refine wpAny_Assign_stores (thn (he pins s σ H _ I h) fun v s1 qz9 => ?_) hs hw
  obtain ⟨x, H1, I1, r1, q1⟩ := qz9
  rw [h1]
  exact thn (hg pins s1 σ H1 x v _ I1 r1 q1) fun _ s2 q => q
theorem ps_set {i : Nat} {x : Str} {e : Expr} {te : TE} {pos' : Pos} (hN : X.N.Nodup) (hi : X.N[i]? = some x) (hx : Loc X.env.scope x) (he : PE X e te) (hs : swapsWith e (some (.Name x pos')) pos.line X.env = pure false := by rfl) (hf : X.fn x = true ∨ X.env.scope.names.lookup x = some .local := by first | exact .inl rfl | exact .inr rfl | assumption) :
    PS X (.Assign [.Name x pos'] e pos) (tAsg te (gName i)) := by
  intro pins s σ H D I h
  refine wpAny_Assign_Name (thn (he pins s σ H _ I h) fun v s1 qz9 => ?_) hs
  obtain ⟨y, H1, I1, r1, q1⟩ := qz9
  exact store_ok I1 hN hi hx r1 (fun s2 I2 => ⟨_, H1, I2, q1⟩) hf
noncomputable def tPar (i j : Nat) (ta : TA) : TS := fun D σ H => ta σ H fun vs H1 => ∃ v w, vs = [v, w] ∧ D.nx ((σ.set i (some v)).set j (some w)) H1
theorem ps_par {i j : Nat} {x y : Str} {a b : Expr} {ta : TA} {px py pt : Pos} {kt k2 pt2} (hc : X.calm = true) (hN : X.N.Nodup) (hi : X.N[i]? = some x) (hj : X.N[j]? = some y) (hij : i ≠ j)
    (hx : X.env.scope.names.lookup x = some .local) (hy : X.env.scope.names.lookup y = some .local) (ha : PA X [a, b] ta)
    (hw : swappedStores [.Tuple [.Name x px, .Name y py] kt pt] (.Tuple [a, b] k2 pt2) X.env = pure (some [x, y]))
    (hs : swapsWithSole [.Tuple [.Name x px, .Name y py] kt pt] (.Tuple [a, b] k2 pt2) pos.line X.env = pure false := by rfl) :
    PS X (.Assign [.Tuple [.Name x px, .Name y py] kt pt] (.Tuple [a, b] k2 pt2) pos) (tPar i j ta) := by
  intro pins s σ H D I h
  rw [exec_Assign_arm]
  refine wpAny_bind (wpAny_standAt ?_)
  rw [hs]
  refine wpAny_bind (wpAny_pure ?_)
  rw [if_neg (by decide)]
  refine wpAny_bind (Tuple_ (thn (ha _ pins s σ H _ I h) fun us s1 qz9 => ?_))
  obtain ⟨vs, H1, I1, r1, q1⟩ := qz9
  obtain ⟨v, w, e1, q1⟩ := q1
  subst e1
  obtain ⟨u1, u2, rfl, rv, rw'⟩ : ∃ u1 u2, us = [u1, u2] ∧ RelV v u1 ∧ RelV w u2 := by
    cases r1 with
    | cons p q =>
      cases q with
      | cons p' q' =>
        cases q'
        exact ⟨_, _, rfl, p, p'⟩
  refine wpAny_newObj_type ?_ (by show 2 ≤ sizeLine; decide)
  have I2 : Inv X pins σ H1 { s1 with heap := s1.heap.push { cls := .type "tuple", data := .seq [u1, u2].toArray } } := I1.kept (t' := s1.toks) fun b o e => Heap.get?_push_of_some _ e
  rw [hw]
  refine wpAny_bind (wpAny_pure ?_)
  show wpAny (model X.prog X.w) X.A (do rule "assign.swapped-stores"; let items ← unpackItems (.ref s1.heap.objs.size) 2 none; assignInOrder [fun v => bindName X.env y v, fun v => bindName X.env x v] items.reverse; pure Flow.next) _ _ _
  refine wpAny_bind (wpAny_rule (wpAny_bind (unpackItems_tuple (items := #[u1, u2]) (I.ok.hd hc) (IsTup.new s1.heap _) fun h' hx' => ?_)))
  have I3 := I2.kept (h' := h') (t' := s1.toks) fun b o e => hx' b o (Nat.ne_of_lt (Heap.lt_size e)) e
  show wpAny _ _ (assignInOrder [fun v => bindName X.env y v, fun v => bindName X.env x v] [u2, u1] >>= fun _ => pure Flow.next) _ _ _
  refine wpAny_bind (assignInOrder_cons (wpAny_bindName (store_ok I3 hN hj (.inl hy) rw' (fun s2 I4 => ?_) (.inr hy))))
  refine assignInOrder_cons (wpAny_bindName (store_ok I4 hN hi (.inl hx) rv (fun s3 I5 => assignInOrder_nil (wpAny_pure ?_)) (.inr hx)))
  rw [List.set_comm _ _ (Ne.symm hij)] at I5
  exact ⟨_, H1, I5, q1⟩
end
section
variable {X : Cx} {pos : Pos}
noncomputable def tWhile (c : TT) (tb : TS) : TS := fun D σ H => ∃ W : Nat → St → Hp → Prop, (∃ m, W m σ H) ∧ ∀ m σ H, W m σ H →
  c σ H fun b H1 => if b = true then ∃ N : St → Hp → Prop, (∀ σ' H', N σ' H' → ∃ m', m' < m ∧ W m' σ' H') ∧ tb { D with nx := N, ct := N, bk := D.nx } σ H1 else D.nx σ H1
theorem ps_while {c : Expr} {body : List Stmt} {tc : TT} {tb : TS} (hp : PassesOwn (model X.prog X.w) X.A X.env X.xe) (hc : PT X c tc) (hb : PSs X body tb) : PS X (.While c body [] pos) (tWhile tc tb) := by
  intro pins s σ H D I h
  obtain ⟨W, ⟨m0, w0⟩, turn⟩ := h
  refine wpAny_While (codeAny_whileLoop (fun n s' => ∃ σ' H', Inv X pins σ' H' s' ∧ W n σ' H') ?_ m0 ⟨σ, H, I, w0⟩)
  rintro n s1 ⟨σ1, H1, I1, w1⟩
  refine wpAny_passesOwn hp (thn (hc pins s1 σ1 H1 _ I1 (turn n σ1 H1 w1)) fun b s2 qz9 => ?_)
  obtain ⟨H2, I2, q2⟩ := qz9
  cases b with
  | true =>
    obtain ⟨N, hN, q2⟩ := q2
    rw [if_pos rfl]
    refine wpAny_passesOwn hp (thn (hb pins s2 σ1 H2 _ I2 q2) fun f s3 q3 => ?_)
    cases f with
    | next =>
      obtain ⟨σ3, H3, I3, n3⟩ := q3
      obtain ⟨m', hm, w3⟩ := hN σ3 H3 n3
      exact ⟨m', hm, σ3, H3, I3, w3⟩
    | cont =>
      obtain ⟨σ3, H3, I3, n3⟩ := q3
      obtain ⟨m', hm, w3⟩ := hN σ3 H3 n3
      exact ⟨m', hm, σ3, H3, I3, w3⟩
    | brk => exact q3
    | ret v => exact q3
  | false =>
    rw [if_neg Bool.false_ne_true]
    exact wpAny_execs_nil ⟨σ1, H2, I2, q2⟩
end
set_option genInjectivity false in
structure It where
  go : Nat → Hp → Prop
  yld : Nat → Hp → V → Hp → Prop
  stop : Nat → Hp → Prop
noncomputable def FpOk (X : Cx) (pins : List (Addr × Obj)) (H : Hp) (b : Addr) : Prop :=
  H b = none ∧ b ≠ X.env.locals ∧ b ∉ X.fs ∧ (b ∈ X.ex ∨ X.s₀.heap.objs.size ≤ b) ∧ (∀ x c, X.env.cells.lookup x = some c → c ≠ b) ∧ ∀ p ∈ X.pn ++ pins, p.1 ≠ b
theorem Inv.fpOk {X : Cx} {pins : List (Addr × Obj)} {σ : St} {H H' : Hp} {s : Shared} {b : Addr} (I : Inv X pins σ H s) (hb : s.heap.objs.size ≤ b) (hn : H' b = none) : FpOk X pins H' b := by
  refine ⟨hn, Nat.ne_of_gt (Nat.lt_of_lt_of_le I.lt hb), I.nofs hb, .inr (Nat.le_trans I.sz hb), fun x c e z => ?_, fun p hp z => ?_⟩
  · obtain ⟨v, q⟩ := I.cell x c e
    exact absurd (Nat.lt_of_lt_of_le q.lt (by rw [z]; exact hb)) (Nat.lt_irrefl _)
  · exact absurd (Nat.lt_of_lt_of_le (Heap.lt_size (I.pin p hp).1) (by rw [z]; exact hb)) (Nat.lt_irrefl _)
structure Turn (P : Program) (w : World) (K : PySem.W.Frag) (tg : Expr) (J : It) (fp : List Addr) (it : Addr) (tn : Nat → Heap → Prop) : Prop where
  mem : it ∈ fp
  obj : ∀ i h, tn i h → ∀ b ∈ fp, ∃ o, h.get? b = some o ∧ ∀ v, o.data ≠ .cell v
  keep : ∀ i h h', tn i h → (∀ b ∈ fp, ∀ o, h.get? b = some o → h'.get? b = some o) → tn i h'
  item : ∀ (X : Cx), X.prog = P → X.w = w → X.K = K → X.calm = true → ∀ (i : Nat) (pins : List (Addr × Obj)) (s : Shared) (σ : St) (H : Hp) (E : Value → Shared → Prop), Inv X pins σ H s → (∀ b ∈ fp, FpOk X pins H b) → tn i s.heap → J.go i H →
    wpAny (model P w) X.A (pyNext (.ref it)) (fun r s1 => ∃ u, r = some u ∧
      wpAny (model P w) X.A (letOwnedTupleGo tg (.ref it) u) (fun _ s2 => ∃ x H', Inv X pins σ H' s2 ∧ RelV x u ∧ J.yld i H x H' ∧ tn (i + 1) s2.heap ∧ ∀ b ∈ fp, H' b = none) E s1) E s
  done : ∀ (X : Cx), X.prog = P → X.w = w → X.K = K → X.calm = true → ∀ (i : Nat) (pins : List (Addr × Obj)) (s : Shared) (σ : St) (H : Hp) (E : Value → Shared → Prop), Inv X pins σ H s → (∀ b ∈ fp, FpOk X pins H b) → tn i s.heap → J.stop i H →
    wpAny (model P w) X.A (pyNext (.ref it)) (fun r s1 => r = none ∧ Inv X pins σ H s1) E s
  self : ∀ (A : Around) (i : Nat) (s : Shared) (Q : Value → Shared → Prop) (E : Value → Shared → Prop), tn i s.heap → Q (.ref it) s → wpAny (model P w) A (pyIter (.ref it)) Q E s
noncomputable abbrev TI := St → Hp → (It → Hp → Prop) → Prop
noncomputable def PIE (X : Cx) (pins : List (Addr × Obj)) (σ : St) (tg : Expr) (R : It → Hp → Prop) (itv : Value) (s2 : Shared) : Prop :=
  ∃ (it : Addr) (fp : List Addr) (tn : Nat → Heap → Prop) (J : It) (H' : Hp), itv = .ref it ∧ Inv X pins σ H' s2 ∧ Turn X.prog X.w X.K tg J fp it tn ∧ tn 0 s2.heap ∧ (∀ b ∈ fp, FpOk X pins H' b) ∧ R J H'
noncomputable def PI (X : Cx) (tg iter : Expr) (wi : TI) : Prop :=
  ∀ (pins : List (Addr × Obj)) (s : Shared) (σ : St) (H : Hp) (R : It → Hp → Prop), Inv X pins σ H s → wi σ H R →
    wpAny (model X.prog X.w) X.A (eval iter X.env) (fun v s1 => wpAny (model X.prog X.w) X.A (pyIter v) (PIE X pins σ tg R) X.xe s1) X.xe s
theorem go_of {M : Model} {A : Around} {E : Value → Shared → Prop} {s : Shared} {tg : Expr} {it : Addr} {u : Value} {o : Obj} {n : String} {vs : Array Value} {Q : Unit → Shared → Prop} (ho : s.heap.get? it = some o) (hc : o.cls = .type n) (hd : o.data = .fields vs)
    (hn : ["enumerate", "zip", "dict_itemiterator", "dict_reverseitemiterator", "odict_iterator", "itertools.zip_longest", "itertools.pairwise"].contains n = false) (hQ : Q () s) : wpAny M A (letOwnedTupleGo tg (.ref it) u) Q E s := by
  unfold letOwnedTupleGo
  cases tg <;> first
    | exact wpAny_pure hQ
    | (cases u <;> first
        | exact wpAny_pure hQ
        | (refine wpAny_bind (wpAny_load ho ?_)
           rw [hc, hd]
           show wpAny M A (if (["enumerate", "zip", "dict_itemiterator", "dict_reverseitemiterator", "odict_iterator", "itertools.zip_longest", "itertools.pairwise"].contains n && vs[0]? == some (rawInt _)) = true then _ else _) Q E s
           rw [if_neg (by intro h; rw [hn, Bool.false_and] at h; cases h)]
           exact wpAny_pure hQ))
noncomputable def Itl (K : PySem.W.Frag) (a : Addr) : It :=
  ⟨fun i H => ∃ xs x, SqL K H a xs ∧ xs[i]? = some x, fun i H x H' => H' = H ∧ ∀ xs, SqL K H a xs → xs[i]? = some x, fun i H => ∃ xs, SqL K H a xs ∧ xs.length ≤ i⟩
noncomputable def Itr (lo : Int) (n : Nat) : It := ⟨fun i _ => i < n, fun i H x H' => H' = H ∧ x = .int (lo + i), fun i _ => n ≤ i⟩
theorem turn_list {P : Program} {w : World} {K : PySem.W.Frag} {tg : Expr} (a it : Addr) : Turn P w K tg (Itl K a) [it] it (fun i h => h.IsListIter it a i) where
  mem := by simp
  obj := fun i h st b hb => by
    have e : b = it := by simpa using hb
    subst e
    obtain ⟨o, e, c, d⟩ := st
    exact ⟨o, e, fun v z => by rw [d] at z; cases z⟩
  keep := fun i h h' st k => st.at fun o e => k it (by simp) o e
  item := by
    intro X hP hw hK hc i pins s σ H E I hf st hg
    subst hP hw hK
    obtain ⟨xs, x, hq, hx⟩ := hg
    obtain ⟨its, rv, p, hz⟩ := I.list hq
    obtain ⟨u, hu, ru⟩ := rv.get hx
    obtain ⟨f0, f1, f2, f3, f4, f5⟩ := hf it (by simp)
    refine wpAny_pyNext_list_item st p.isList (x := u) (by simpa using hu) fun h' st' sb => ?_
    have I1 : Inv X pins σ H { s with heap := h' } := I.turned (t' := s.toks) (fun b o hb e => (sb.2 b hb).trans e) f0 f1 f3 f4 f5
    obtain ⟨o, e, c, d⟩ := id st'
    exact ⟨u, rfl, go_of (s := { s with heap := h' }) e c d (by decide) ⟨x, H, I1, ru, ⟨rfl, fun ys hy => by rw [I.list_inj hy hq]; exact hx⟩, st', fun b hb => (hf b hb).1⟩⟩
  done := by
    intro X hP hw hK hc i pins s σ H E I hf st hg
    subst hP hw hK
    obtain ⟨xs, hq, hx⟩ := hg
    obtain ⟨its, rv, p, hz⟩ := I.list hq
    obtain ⟨f0, f1, f2, f3, f4, f5⟩ := hf it (by simp)
    have hl := rv.length
    exact wpAny_pyNext_list_end (I.ok.hd hc) st p.isList (by simp; omega) fun h' eb => ⟨rfl, I.turned (t' := s.toks) (fun b o hb e => eb b o hb e) f0 f1 f3 f4 f5⟩
  self := fun _ _ _ _ _ st h => wpAny_pyIter_listiter st h
theorem turn_range {P : Program} {w : World} {K : PySem.W.Frag} {tg : Expr} (it : Addr) (lo : Int) (n : Nat) : Turn P w K tg (Itr lo n) [it] it (fun i h => IsRangeIter h it (lo + (i : Nat) * 1) ((n : Int) - (i : Nat)) 1) where
  mem := by simp
  obj := fun i h st b hb => by
    have e : b = it := by simpa using hb
    subst e
    exact ⟨_, st, fun v z => by
      have z' : Data.fields _ = Data.cell v := z
      cases z'⟩
  keep := fun i h h' st k => k it (by simp) _ st
  item := by
    intro X hP hw hK hc i pins s σ H E I hf st hg
    subst hP hw hK
    obtain ⟨f0, f1, f2, f3, f4, f5⟩ := hf it (by simp)
    have W := Walks.range (prog := X.prog) (w := X.w) (I.ok.hd hc) it lo 1 n
    refine W.item i s _ _ hg st fun v h' tk hv st' kk => ?_
    obtain ⟨t, rfl⟩ := hv
    have I1 : Inv X pins σ H { s with heap := h', toks := tk } := I.turned (fun b o hb e => kk b o (by simpa using hb) e) f0 f1 f3 f4 f5
    refine ⟨_, rfl, go_of (s := { s with heap := h', toks := tk }) (n := "range_iterator") st' rfl rfl (by decide) ⟨.int (lo + i), H, I1, ⟨t, ?_⟩, ⟨rfl, rfl⟩, st', fun b hb => (hf b hb).1⟩⟩
    rw [Int.mul_one]
  done := by
    intro X hP hw hK hc i pins s σ H E I hf st hg
    subst hP hw hK
    obtain ⟨f0, f1, f2, f3, f4, f5⟩ := hf it (by simp)
    exact wpAny_pyNext_range_end (I.ok.hd hc) st (by have : n ≤ i := hg; omega) fun h' eb => ⟨rfl, I.turned (t' := s.toks) (fun b o hb e => eb b o hb e) f0 f1 f3 f4 f5⟩
  self := fun _ _ _ _ _ st h => wpAny_pyIter_rangeiter st h
end L2
namespace L2
open PySem PySem.Spec PyProof.Rows
section
variable {X : Cx} {tg : Expr}
noncomputable def iList (K : PySem.W.Frag) (tl : TE) : TI := fun σ H R => tl σ H fun x H1 => ∃ a, x = .ref a ∧ (∃ xs, SqL K H1 a xs) ∧ R (Itl K a) H1
theorem pi_list {l : Expr} {tl : TE} (hl : PE X l tl) : PI X tg l (iList X.K tl) := by
  intro pins s σ H R I h
  refine thn (hl pins s σ H _ I h) fun v s1 qz9 => ?_
  obtain ⟨x, H1, I1, r1, q1⟩ := qz9
  obtain ⟨a, e, ⟨xs, hq⟩, q⟩ := q1
  subst e
  cases r1
  obtain ⟨its, rv, p, hz⟩ := I1.list hq
  refine wpAny_pyIter_list p.isList ?_
  refine ⟨s1.heap.objs.size, [s1.heap.objs.size], _, _, H1, rfl, I1.kept (t' := s1.toks) fun b o e => Heap.get?_push_of_some _ e, turn_list a _, ⟨_, Heap.get?_push_size _ rfl, rfl, rfl⟩, fun b hb => ?_, q⟩
  have e : b = s1.heap.objs.size := by simpa using hb
  subst e
  exact I1.fpOk (Nat.le_refl _) (I1.hok.fresh (Nat.le_refl _))
theorem range_it {pins : List (Addr × Obj)} {σ : St} {H : Hp} {s : Shared} {R : It → Hp → Prop} {E : Value → Shared → Prop} {lo hi : Int} {t u v : Tok} {tk : Nat} (I : Inv X pins σ H s) (h1 : -(2 ^ 62) ≤ lo) (h2 : lo < 2 ^ 62) (h3 : -(2 ^ 62) ≤ hi) (h4 : hi < 2 ^ 62)
    (q : R (Itr lo (hi - lo).toNat) H) : wpAny (model X.prog X.w) X.A (pyIter (.ref s.heap.objs.size)) (PIE X pins σ tg R) E { s with heap := s.heap.push { cls := .type "range", data := .fields #[.int lo t, .int hi u, .int 1 v] }, toks := tk } := by
  refine wpAny_pyIter_range (IsRange.new ..) (small_one h1 h2 h3 h4) ?_
  have I1 : Inv X pins σ H { s with heap := s.heap.push { cls := .type "range", data := .fields #[.int lo t, .int hi u, .int 1 v] }, toks := tk } := I.kept fun b o e => Heap.get?_push_of_some _ e
  refine ⟨(s.heap.push { cls := .type "range", data := .fields #[.int lo t, .int hi u, .int 1 v] }).objs.size, [(s.heap.push { cls := .type "range", data := .fields #[.int lo t, .int hi u, .int 1 v] }).objs.size], _, _, H, rfl,
    I1.kept (t' := tk) fun b o e => Heap.get?_push_of_some _ e, turn_range _ lo (hi - lo).toNat, ?_, fun b hb => ?_, q⟩
  · have e1 : lo + ((0 : Nat) : Int) * 1 = lo := by simp
    have e2 : (((hi - lo).toNat : Nat) : Int) - ((0 : Nat) : Int) = Builtin.Range.rangeSize lo hi 1 := by rw [rangeSize_one]; split <;> omega
    show IsRangeIter _ _ (lo + ((0 : Nat) : Int) * 1) ((((hi - lo).toNat : Nat) : Int) - ((0 : Nat) : Int)) 1
    rw [e1, e2]
    exact Heap.get?_push_size _ rfl
  · have e : b = (s.heap.push { cls := .type "range", data := .fields #[.int lo t, .int hi u, .int 1 v] }).objs.size := by simpa using hb
    subst e
    exact I1.fpOk (Nat.le_refl _) (I1.hok.fresh (Nat.le_refl _))
noncomputable def iRng1 (ta : TA) : TI := fun σ H R => ta σ H fun vs H1 => ∃ j : Int, vs = [.int j] ∧ -(2 ^ 62) ≤ j ∧ j < 2 ^ 62 ∧ R (Itr 0 j.toNat) H1
noncomputable def iRng2 (ta : TA) : TI := fun σ H R => ta σ H fun vs H1 => ∃ i j : Int, vs = [.int i, .int j] ∧ (-(2 ^ 62) ≤ i ∧ i < 2 ^ 62 ∧ -(2 ^ 62) ≤ j ∧ j < 2 ^ 62) ∧ R (Itr i (j - i).toNat) H1
theorem pi_range1 {a : Expr} {ta : TA} {p pos : Pos} (hg : Gl X "range") (hm : X.mg "range" = none) (ha : PA X [a] ta) (hs : starEach [a] X.env = [(false, eval a X.env)] := by rfl) : PI X tg (.Call (.Name "range" p) [a] [] pos) (iRng1 ta) := by
  intro pins s σ H R I h
  refine Call_ (ld_blt I hg hm boot_range (PyProof.Rows.callWith_type1 (thn (ha pos pins s σ H _ I h) fun us s1 qz9 => ?_) hs rfl))
  obtain ⟨vs, H1, I1, r1, q1⟩ := qz9
  obtain ⟨j, e, q1, q2, q⟩ := q1
  subst e
  cases r1 with
  | cons r rr =>
    cases rr
    obtain ⟨t, rfl⟩ := r
    exact call_range_1 (range_it I1 (by omega) (by omega) q1 q2 (by simpa using q))
theorem pi_range2 {a b : Expr} {ta : TA} {p pos : Pos} (hg : Gl X "range") (hm : X.mg "range" = none) (ha : PA X [a, b] ta) (hs : starEach [a, b] X.env = [(false, eval a X.env), (false, eval b X.env)] := by rfl) (hs2 : starEach [b] X.env = [(false, eval b X.env)] := by rfl) :
    PI X tg (.Call (.Name "range" p) [a, b] [] pos) (iRng2 ta) := by
  intro pins s σ H R I h
  refine Call_ (ld_blt I hg hm boot_range (PyProof.Rows.callWith_type1 (thn (ha pos pins s σ H _ I h) fun us s1 ⟨vs, H1, I1, r1, q1⟩ => ?_) (by rw [hs, hs2]) (by rw [hs2]; rfl)))
  obtain ⟨i, j, e, ⟨q1, q2, q3, q4⟩, q⟩ := q1
  subst e
  cases r1 with
  | cons r rr =>
    cases rr with
    | cons r' rr =>
      cases rr
      obtain ⟨t, rfl⟩ := r
      obtain ⟨t', rfl⟩ := r'
      exact call_range_2 (range_it I1 q1 q2 q3 q4 q)
noncomputable def tFor (wi : TI) (g : TG) (tb : TS) : TS := fun D σ H => wi σ H fun J H1 => ∃ W : Nat → Nat → St → Hp → Prop, (∃ m, W 0 m σ H1) ∧ ∀ i m σ H, W i m σ H →
  (J.stop i H ∧ D.nx σ H) ∨ (J.go i H ∧ ∃ N : St → Hp → Prop, (∀ σ' H', N σ' H' → ∃ m', m' < m ∧ W (i + 1) m' σ' H') ∧ ∀ x H', J.yld i H x H' → g x σ H' fun σ2 H2 => tb { D with nx := N, ct := N, bk := D.nx } σ2 H2)
noncomputable def pinsAt (fp : List Addr) (h : Heap) : List (Addr × Obj) := fp.filterMap fun b => (h.get? b).map fun o => (b, o)
theorem mem_pinsAt {fp : List Addr} {h : Heap} {b : Addr} {o : Obj} (hb : b ∈ fp) (e : h.get? b = some o) : (b, o) ∈ pinsAt fp h := List.mem_filterMap.mpr ⟨b, hb, by rw [e]; rfl⟩
theorem of_pinsAt {fp : List Addr} {h : Heap} {p : Addr × Obj} (hp : p ∈ pinsAt fp h) : p.1 ∈ fp ∧ h.get? p.1 = some p.2 := by
  obtain ⟨b, hb, e⟩ := List.mem_filterMap.mp hp
  cases q : h.get? b with
  | none => rw [q] at e; cases e
  | some o =>
    rw [q] at e
    have e' : (b, o) = p := Option.some.inj e
    subst e'
    exact ⟨hb, q⟩
theorem Inv.pinned {pins : List (Addr × Obj)} {σ : St} {H : Hp} {s : Shared} {fp : List Addr} (I : Inv X pins σ H s) (hf : ∀ b ∈ fp, FpOk X pins H b) (ho : ∀ b ∈ fp, ∃ o, s.heap.get? b = some o ∧ ∀ v, o.data ≠ .cell v) : Inv X (pins ++ pinsAt fp s.heap) σ H s :=
  I.pins_of fun p hp => (List.mem_append.mp hp).elim (fun z => I.pin p (List.mem_append_right _ z)) fun z => by
    obtain ⟨hb, e⟩ := of_pinsAt z
    obtain ⟨f0, f1, f2, _⟩ := hf p.1 hb
    obtain ⟨o, e', d⟩ := ho p.1 hb
    rw [e] at e'; cases e'
    exact ⟨e, f0, f1, f2, d⟩
theorem Inv.unpinned {pins pl : List (Addr × Obj)} {σ : St} {H : Hp} {s : Shared} (I : Inv X (pins ++ pl) σ H s) : Inv X pins σ H s := I.pins_of fun p hp => I.pin p (List.mem_append_right _ (List.mem_append_left _ hp))
theorem ps_for {iter : Expr} {body : List Stmt} {wi : TI} {g : TG} {tb : TS} {pos : Pos} (hp : PassesOwn (model X.prog X.w) X.A X.env X.xe) (hc : X.calm = true) (hi : PI X tg iter wi) (hg : PG X tg g) (hb : PSs X body tb)
    (hs : ∀ x, foldedSetIterable iter X.env x = pure x := by intro _; rfl) : PS X (.For tg iter body [] pos) (tFor wi g tb) := by
  intro pins s σ H D I h
  refine wpAny_For (thn (hi pins s σ H _ I h) fun v s1 h1 => thn h1 fun itv s2 h2 => ?_) hs
  obtain ⟨it, fp, tn, J, H2, e, I2, T, st2, f2, W, ⟨m0, w0⟩, turn⟩ := h2
  subst e
  -- what stays true of the iterator's objects through the loop
  have stat : ∀ {H' : Hp}, (∀ b ∈ fp, H' b = none) → ∀ b ∈ fp, FpOk X pins H' b := fun hn b hb => ⟨hn b hb, (f2 b hb).2⟩
  refine codeAny_forLoop_any (fun n s' => ∃ i σ' H', Inv X pins σ' H' s' ∧ tn i s'.heap ∧ (∀ b ∈ fp, H' b = none) ∧ W i n σ' H') ?_ m0 ⟨0, σ, H2, I2, st2, fun b hb => (f2 b hb).1, w0⟩
  rintro n s3 ⟨i, σ3, H3, I3, st3, fr3, w3⟩
  rcases turn i n σ3 H3 w3 with ⟨stop, qn⟩ | ⟨go, N, hN, step⟩
  · refine wpAny_passesOwn hp (thn (T.done X rfl rfl rfl hc i pins s3 σ3 H3 X.xe I3 (stat fr3) st3 stop) fun r s4 qz9 => ?_)
    obtain ⟨hr, I4⟩ := qz9
    subst hr
    exact wpAny_execs_nil ⟨σ3, H3, I4, qn⟩
  · refine wpAny_passesOwn hp (thn (T.item X rfl rfl rfl hc i pins s3 σ3 H3 X.xe I3 (stat fr3) st3 go) fun r s4 qz9 => ?_)
    obtain ⟨u, hr, h4⟩ := qz9
    subst hr
    refine wpAny_passesOwn hp (thn h4 fun _ s5 qz9 => ?_)
    obtain ⟨x, H5, I5, r5, y5, st5, fr5⟩ := qz9
    have I5' := I5.pinned (stat fr5) (T.obj _ _ st5)
    refine wpAny_passesOwn hp (thn (hg _ s5 σ3 H5 x u _ I5' r5 (step x H5 y5)) fun _ s6 qz9 => ?_)
    obtain ⟨σ6, H6, I6, q6⟩ := qz9
    refine wpAny_passesOwn hp (thn (hb _ s6 σ6 H6 _ I6 q6) fun f s7 q7 => ?_)
    have again : ∀ {σ7 : St} {H7 : Hp}, Inv X (pins ++ pinsAt fp s5.heap) σ7 H7 s7 → N σ7 H7 → ∃ m, m < n ∧ ∃ i σ' H', Inv X pins σ' H' s7 ∧ tn i s7.heap ∧ (∀ b ∈ fp, H' b = none) ∧ W i m σ' H' := fun {σ7 H7} I7 n7 => by
      obtain ⟨m', hm, w7⟩ := hN σ7 H7 n7
      refine ⟨m', hm, i + 1, σ7, H7, I7.unpinned, T.keep _ _ _ st5 fun b hb o e => (I7.pin (b, o) (List.mem_append_right _ (List.mem_append_right _ (mem_pinsAt hb e)))).1, fun b hb => ?_, w7⟩
      obtain ⟨o, e, d⟩ := T.obj _ _ st5 b hb
      exact (I7.pin (b, o) (List.mem_append_right _ (List.mem_append_right _ (mem_pinsAt hb e)))).2.1
    cases f with
    | next => obtain ⟨σ7, H7, I7, n7⟩ := q7; exact again I7 n7
    | cont => obtain ⟨σ7, H7, I7, n7⟩ := q7; exact again I7 n7
    | brk => obtain ⟨σ7, H7, I7, q7⟩ := q7; exact ⟨σ7, H7, I7.unpinned, q7⟩
    | ret v => obtain ⟨x7, σ7, H7, I7, r7, q7⟩ := q7; exact ⟨x7, σ7, H7, I7.unpinned, r7, q7⟩
end
theorem for_list {K : PySem.W.Frag} {a : Addr} {xs : List V} {g : TG} {tb : TS} {D : Ends} {σ : St} {H : Hp} (Pv : Nat → St → Hp → Prop) (h0 : Pv 0 σ H) (hl : ∀ i σ H, i ≤ xs.length → Pv i σ H → SqL K H a xs)
    (hs : ∀ i x σ H, xs[i]? = some x → Pv i σ H → g x σ H fun σ2 H2 => tb { D with nx := Pv (i + 1), ct := Pv (i + 1), bk := D.nx } σ2 H2) (hd : ∀ σ H, Pv xs.length σ H → D.nx σ H) :
    ∃ W : Nat → Nat → St → Hp → Prop, (∃ m, W 0 m σ H) ∧ ∀ i m σ H, W i m σ H →
      ((Itl K a).stop i H ∧ D.nx σ H) ∨ ((Itl K a).go i H ∧ ∃ N : St → Hp → Prop, (∀ σ' H', N σ' H' → ∃ m', m' < m ∧ W (i + 1) m' σ' H') ∧ ∀ x H', (Itl K a).yld i H x H' → g x σ H' fun σ2 H2 => tb { D with nx := N, ct := N, bk := D.nx } σ2 H2) := by
  refine ⟨fun i m σ H => m = xs.length - i ∧ i ≤ xs.length ∧ Pv i σ H, ⟨xs.length, by simp, Nat.zero_le _, h0⟩, ?_⟩
  rintro i m σ H ⟨rfl, hi, p⟩
  have q := hl i σ H hi p
  by_cases hlt : i < xs.length
  · refine .inr ⟨⟨xs, xs[i], q, by simp [hlt]⟩, Pv (i + 1), fun σ' H' p' => ⟨xs.length - (i + 1), by omega, rfl, hlt, p'⟩, fun x H' y => ?_⟩
    obtain ⟨e, y⟩ := y
    subst e
    exact hs i x σ _ (y xs q) p
  · have e : i = xs.length := by omega
    subst e
    exact .inl ⟨⟨xs, q, Nat.le_refl _⟩, hd σ H p⟩
end L2
namespace L2
open PySem PySem.Spec PyProof.Rows
noncomputable abbrev R2 := V → V → Hp → VK → Prop
noncomputable def OpR (X : Cx) (f : Value → Value → Sem Value) (r : R2) : Prop :=
  ∀ (pins : List (Addr × Obj)) (s : Shared) (σ : St) (H : Hp) (x y : V) (v u : Value) (Q : VK), Inv X pins σ H s → RelV x v → RelV y u → r x y H Q →
    wpAny (model X.prog X.w) X.A (f v u) (EP X pins σ Q) X.xe s
noncomputable def CallR (X : Cx) (f : Value) (r : List V → Hp → VK → Prop) : Prop :=
  ∀ (pins : List (Addr × Obj)) (s : Shared) (σ : St) (H : Hp) (xs : List V) (us : List Value) (Q : VK), Inv X pins σ H s → Vals xs us → r xs H Q →
    wpAny (model X.prog X.w) X.A (call f us) (EP X pins σ Q) X.xe s
noncomputable def TruR (X : Cx) (r : V → Hp → (Bool → Hp → Prop) → Prop) : Prop :=
  ∀ (pins : List (Addr × Obj)) (s : Shared) (σ : St) (H : Hp) (x : V) (v : Value) (Q : Bool → Hp → Prop), Inv X pins σ H s → RelV x v → r x H Q →
    wpAny (model X.prog X.w) X.A (truthy v) (TP X pins σ Q) X.xe s
noncomputable def tOp (r : R2) (ta tb : TE) : TE := fun σ H Q => ta σ H fun x H1 => tb σ H1 fun y H2 => r x y H2 Q
noncomputable def rI (C : Int → Int → Prop) (g : Int → Int → V) : R2 := fun x y H Q => ∃ i j, x = .int i ∧ y = .int j ∧ C i j ∧ Q (g i j) H
noncomputable def rI0 (g : Int → Int → V) : R2 := fun x y H Q => ∃ i j, x = .int i ∧ y = .int j ∧ Q (g i j) H
section
variable {X : Cx} {a b c : Expr} {ta tb tc : TE} {pos : Pos}
theorem binT (ha : PE X a ta) (hb : PE X b tb) {pins : List (Addr × Obj)} {s : Shared} {σ : St} {H : Hp} {R : V → V → Hp → Prop} (I : Inv X pins σ H s)
    (h : ta σ H fun x H1 => tb σ H1 fun y H2 => R x y H2) {Q : Value → Shared → Prop} {f : Value → Value → Sem Value}
    (hf : ∀ v u s2 x y H2, Inv X pins σ H2 s2 → RelV x v → RelV y u → R x y H2 → wpAny (model X.prog X.w) X.A (f v u) Q X.xe s2) :
    wpAny (model X.prog X.w) X.A (eval a X.env) (fun v s₁ => wpAny (model X.prog X.w) X.A (eval b X.env) (fun u s₂ => wpAny (model X.prog X.w) X.A (f v u) Q X.xe s₂) X.xe s₁) X.xe s := by
  refine thn (ha pins s σ H _ I h) fun v s1 qz9 => ?_
  obtain ⟨x, H1, I1, r1, q1⟩ := qz9
  refine thn (hb pins s1 σ H1 _ I1 q1) fun u s2 qz9 => ?_
  obtain ⟨y, H2, I2, r2, q2⟩ := qz9
  exact hf v u s2 x y H2 I2 r1 r2 q2
theorem pe_op {op : Operator} {r : R2} (ho : OpR X (binaryOp op) r) (ha : PE X a ta) (hb : PE X b tb) : PE X (.BinOp a op b pos) (tOp r ta tb) := by
  intro pins s σ H Q I h
  exact wpAny_BinOp (binT ha hb I h fun v u s2 x y H2 I2 rx ry q => ho pins s2 σ H2 x y v u Q I2 rx ry q)
theorem opI {f : Value → Value → Sem Value} {C : Int → Int → Prop} {g : Int → Int → Int}
    (rule : ∀ (i j : Int) (t u : Tok) (s : Shared) (Q : Value → Shared → Prop) (E : Value → Shared → Prop), C i j → Q (.int (g i j) s.toks) { s with toks := s.toks + 1 } → wpAny (model X.prog X.w) X.A (f (.int i t) (.int j u)) Q E s) :
    OpR X f (rI C fun i j => .int (g i j)) := by
  intro pins s σ H x y v u Q I rx ry h
  obtain ⟨i, j, rfl, rfl, hc, q⟩ := h
  obtain ⟨t, rfl⟩ := rx
  obtain ⟨t', rfl⟩ := ry
  exact rule i j t t' s _ _ hc ⟨.int (g i j), H, I.tok _, ⟨_, rfl⟩, q⟩
theorem opI0 {f : Value → Value → Sem Value} {g : Int → Int → Int}
    (rule : ∀ (i j : Int) (t u : Tok) (s : Shared) (Q : Value → Shared → Prop) (E : Value → Shared → Prop), Q (.int (g i j) s.toks) { s with toks := s.toks + 1 } → wpAny (model X.prog X.w) X.A (f (.int i t) (.int j u)) Q E s) :
    OpR X f (rI0 fun i j => .int (g i j)) := by
  intro pins s σ H x y v u Q I rx ry h
  obtain ⟨i, j, rfl, rfl, q⟩ := h
  obtain ⟨t, rfl⟩ := rx
  obtain ⟨t', rfl⟩ := ry
  exact rule i j t t' s _ _ ⟨.int (g i j), H, I.tok _, ⟨_, rfl⟩, q⟩
theorem opB0 {f : Value → Value → Sem Value} {g : Int → Int → Bool}
    (rule : ∀ (i j : Int) (t u : Tok) (s : Shared) (Q : Value → Shared → Prop) (E : Value → Shared → Prop), Q (.bool (g i j)) s → wpAny (model X.prog X.w) X.A (f (.int i t) (.int j u)) Q E s) :
    OpR X f (rI0 fun i j => .bl (g i j)) := by
  intro pins s σ H x y v u Q I rx ry h
  obtain ⟨i, j, rfl, rfl, q⟩ := h
  obtain ⟨t, rfl⟩ := rx
  obtain ⟨t', rfl⟩ := ry
  exact rule i j t t' s _ _ ⟨.bl (g i j), H, I, rfl, q⟩
noncomputable def CPow (i j : Int) : Prop := 0 ≤ j ∧ j ≤ 1000000 ∧ i.natAbs < 2 ^ 64
noncomputable def CMul (i j : Int) : Prop := (-(2 ^ 64) < i ∧ i < 2 ^ 64) ∨ (-(2 ^ 64) < j ∧ j < 2 ^ 64)
theorem CMul.ok {i j : Int} (h : CMul i j) : IntMulOk i j := by
  rcases h with ⟨h1, h2⟩ | ⟨h1, h2⟩
  · exact .of_left (intBits_le_64 h1 h2)
  · exact .of_right (intBits_le_64 h1 h2)
theorem op_add : OpR X (binaryOp .Add) (rI0 fun i j => .int (i + j)) := opI0 fun _ _ _ _ _ _ _ q => add_int q
theorem op_sub : OpR X (binaryOp .Sub) (rI0 fun i j => .int (i - j)) := opI0 fun _ _ _ _ _ _ _ q => sub_int q
theorem op_modN : OpR X (binaryOp .Mod) (rI (fun _ j => j ≠ 0) fun i j => .int (i.fmod j)) := opI fun _ _ _ _ _ _ _ hc q => mod_int' hc q
theorem op_pow : OpR X (binaryOp .Pow) (rI CPow fun i j => .int (i ^ j.toNat)) := opI fun _ _ _ _ _ _ _ hc q => pow_int_small hc.1 hc.2.1 hc.2.2 q
end
section
variable {X : Cx} {a b c : Expr} {ta tb tc : TE} {pos : Pos}
theorem fin_bl {pins : List (Addr × Obj)} {σ : St} {H : Hp} {s : Shared} {Q : VK} {k k' : Bool} (I : Inv X pins σ H s) (q : Q (.bl k) H) (e : k = k') : EP X pins σ Q (.bool k') s := by
  subst e
  exact ⟨.bl k, H, I, rfl, q⟩
theorem op_lt : OpR X (compareOp .Lt) (rI0 fun i j => .bl (decide (i < j))) := opB0 fun _ _ _ _ _ _ _ q => lt_int q
theorem op_le : OpR X (compareOp .LtE) (rI0 fun i j => .bl (decide (i ≤ j))) := opB0 fun _ _ _ _ _ _ _ q => le_int q
theorem op_ge : OpR X (compareOp .GtE) (rI0 fun i j => .bl (decide (j ≤ i))) := opB0 fun _ _ _ _ _ _ _ q => ge_int q
theorem op_isN : OpR X (compareOp .Is) (fun x y H Q => y = .non ∧ Q (.bl (decide (x = .non))) H) := by
  intro pins s σ H x y v u Q I rx ry h
  obtain ⟨rfl, q⟩ := h
  cases ry
  refine is_none_gen (fin_bl I q ?_)
  cases x <;> first
    | (cases rx; rfl)
    | (obtain ⟨t, rfl⟩ := rx; rfl)
theorem nomark (b : Expr) {op : CmpOp} (h : op ≠ .In := by decide) (h2 : op ≠ .NotIn := by decide) : behindInMarks op b = false := by
  have e1 : (op == CmpOp.In) = false := by cases op <;> first | rfl | exact absurd rfl h
  have e2 : (op == CmpOp.NotIn) = false := by cases op <;> first | rfl | exact absurd rfl h2
  cases b <;> simp [behindInMarks, e1, e2]
theorem pe_cmpR {op : CmpOp} {r : R2} (ho : OpR X (compareOp op) r) (ha : PE X a ta) (hb : PE X b tb) (hm : behindInMarks op b = false) : PE X (.Compare a [op] [b] pos) (tOp r ta tb) := by
  intro pins s σ H Q I h
  exact wpAny_Compare1 (binT ha hb I h fun v u s2 x y H2 I2 rx ry q => ho pins s2 σ H2 x y v u Q I2 rx ry q) hm
noncomputable def tTest (t : TE) : TT := fun σ H Q => t σ H fun x H' => ∃ k, x = .bl k ∧ Q k H'
theorem pt_cmpR {op : CmpOp} {r : R2} (ho : OpR X (compareOp op) r) (ha : PE X a ta) (hb : PE X b tb) (hm : behindInMarks op b = false) : PT X (.Compare a [op] [b] pos) (tTest (tOp r ta tb)) := by
  intro pins s σ H Q I h
  refine wpAny_isTrue_Compare1 (thn (ha pins s σ H _ I h) fun v s1 ⟨x, H1, I1, r1, q1⟩ => thn (hb pins s1 σ H1 _ I1 q1) fun u s2 ⟨y, H2, I2, r2, q2⟩ =>
    thn (ho pins s2 σ H2 x y v u _ I2 r1 r2 q2) fun c s3 ⟨z, H3, I3, r3, k, e, q3⟩ => ?_) hm
  subst e
  cases r3
  exact wpAny_truthy_bool ⟨H3, I3, q3⟩
noncomputable def tChain (r r' : R2) (ta tb tc : TE) : TE := fun σ H Q => ta σ H fun x H1 => tb σ H1 fun y H2 => r x y H2 fun z H3 => ∃ k, z = .bl k ∧
  (if k = true then tc σ H3 fun w' H4 => r' y w' H4 Q else Q (.bl false) H3)
theorem pe_chain {op op' : CmpOp} {r r' : R2} (ho : OpR X (compareOp op) r) (ho' : OpR X (compareOp op') r') (ha : PE X a ta) (hb : PE X b tb) (hc : PE X c tc)
    (hm : lastMarks [op, op'] [b, c] = false := by with_unfolding_all rfl) : PE X (.Compare a [op, op'] [b, c] pos) (tChain r r' ta tb tc) := by
  intro pins s σ H Q I h
  refine Compare_chain (thn (ha pins s σ H _ I h) fun v s1 ⟨x, H1, I1, r1, q1⟩ => chain_link (thn (hb pins s1 σ H1 _ I1 q1) fun u s2 ⟨y, H2, I2, r2, q2⟩ =>
    thn (ho pins s2 σ H2 x y v u _ I2 r1 r2 q2) fun d s3 ⟨z, H3, I3, r3, k, e, q3⟩ => ?_)) hm
  subst e
  cases r3
  refine wpAny_truthy_bool ?_
  cases k with
  | false => exact ite_ff ⟨.bl false, H3, I3, rfl, q3⟩
  | true => exact ite_tt (chain_last (thn (hc pins s3 σ H3 _ I3 q3) fun w' s4 ⟨z', H4, I4, r4, q4⟩ => ho' pins s4 σ H4 y z' u w' Q I4 r2 r4 q4))
theorem pt_chain {op op' : CmpOp} {r r' : R2} (ho : OpR X (compareOp op) r) (ho' : OpR X (compareOp op') r') (ha : PE X a ta) (hb : PE X b tb) (hc : PE X c tc)
    (hm : lastMarks [op, op'] [b, c] = false := by with_unfolding_all rfl) : PT X (.Compare a [op, op'] [b, c] pos) (tTest (tChain r r' ta tb tc)) := by
  intro pins s σ H Q I h
  refine isTrue_chain (thn (ha pins s σ H _ I h) fun v s1 ⟨x, H1, I1, r1, q1⟩ => test_link (thn (hb pins s1 σ H1 _ I1 q1) fun u s2 ⟨y, H2, I2, r2, q2⟩ =>
    thn (ho pins s2 σ H2 x y v u _ I2 r1 r2 q2) fun d s3 ⟨z, H3, I3, r3, k, e, q3⟩ => ?_)) hm
  subst e
  cases r3
  refine wpAny_truthy_bool ?_
  cases k with
  | false =>
    obtain ⟨k', e', q'⟩ := q3
    cases e'
    exact ite_ff ⟨H3, I3, q'⟩
  | true =>
    refine ite_tt (test_last (thn (hc pins s3 σ H3 _ I3 q3) fun w' s4 qz9 => ?_))
    obtain ⟨z', H4, I4, r4, q4⟩ := qz9
    refine thn (ho' pins s4 σ H4 y z' u w' _ I4 r2 r4 q4) fun d' s5 qz9 => ?_
    obtain ⟨z2, H5, I5, r5, k2, e2, q5⟩ := qz9
    subst e2
    cases r5
    exact wpAny_truthy_bool ⟨H5, I5, q5⟩
noncomputable def TruV (K : PySem.W.Frag) (x : V) (H : Hp) (k : Bool) : Prop :=
  match x with
  | .non => k = false
  | .bl b => k = b
  | .int i => k = (i != 0)
  | .str y => y.length ≤ sizeLine ∧ k = ((y.length : Int) != 0)
  | .byt y => y.size ≤ sizeLine ∧ k = ((y.size : Int) != 0)
  | .ref p => (∃ xs, SqL K H p xs ∧ k = !xs.isEmpty) ∨ (∃ xs, SqT K H p xs ∧ k = !xs.isEmpty) ∨ ∃ kvs, H p = some (.dK kvs) ∧ k = !kvs.isEmpty
  | _ => False
theorem isEmpty_kv {κ : Type} {kvs : List (κ × V)} {vs : List (κ × Value)} (r : KV kvs vs) : (!vs.isEmpty) = !kvs.isEmpty := by
  cases r <;> rfl
theorem isEmpty_of {xs : List V} {its : List Value} (r : Vals xs its) : (!its.toArray.isEmpty) = !xs.isEmpty := by
  cases r <;> simp
theorem line63 : (sizeLine : Nat) < 2 ^ 63 := by rw [sizeLine_eq]; decide
theorem tru_ok : TruR X (fun x H Q => ∃ k, TruV X.K x H k ∧ Q k H) := by
  intro pins s σ H x v Q I rx h
  obtain ⟨k, e, q⟩ := h
  have hl := line63
  have hs : sizeLine = 16777216 := sizeLine_eq
  cases x with
  | non =>
    cases rx
    have e' : k = false := e
    subst e'
    exact truthy_none ⟨H, I, q⟩
  | bl b =>
    cases rx
    have e' : k = b := e
    subst e'
    exact wpAny_truthy_bool ⟨H, I, q⟩
  | int i =>
    obtain ⟨t, rfl⟩ := rx
    have e' : k = (i != 0) := e
    subst e'
    exact PySem.P.truthy_int ⟨H, I, q⟩
  | str y =>
    obtain ⟨t, rfl⟩ := rx
    obtain ⟨hy, e'⟩ : y.length ≤ sizeLine ∧ k = ((y.length : Int) != 0) := e
    subst e'
    exact PySem.P.truthy_str (by omega) ⟨H, I.tok _, q⟩
  | byt y =>
    obtain ⟨t, rfl⟩ := rx
    obtain ⟨hy, e'⟩ : y.size ≤ sizeLine ∧ k = ((y.size : Int) != 0) := e
    subst e'
    exact PySem.W.truthy_bytes (by omega) ⟨H, I.tok _, q⟩
  | ref p =>
    cases rx
    have e' : (∃ xs, SqL X.K H p xs ∧ k = !xs.isEmpty) ∨ (∃ xs, SqT X.K H p xs ∧ k = !xs.isEmpty) ∨ ∃ kvs, H p = some (.dK kvs) ∧ k = !kvs.isEmpty := e
    rcases e' with ⟨xs, hx, e'⟩ | ⟨xs, hx, e'⟩ | ⟨kvs, hx, e'⟩
    · subst e'
      obtain ⟨its, r, pl, hz⟩ := I.list hx
      have hlen := r.length
      exact wpAny_truthy_list pl.isList (by simp only [List.size_toArray]; omega) ⟨H, I.tok _, by rw [isEmpty_of r]; exact q⟩
    · subst e'
      obtain ⟨its, r, pl, hz⟩ := I.tuple hx
      have hlen := r.length
      exact truthy_tuple pl (by simp only [List.size_toArray]; omega) ⟨H, I.tok _, by rw [isEmpty_of r]; exact q⟩
    · subst e'
      obtain ⟨hz, hS, vs, r, m⟩ : kvs.length ≤ sizeLine ∧ (p == sysModules) = false ∧ ∃ vs, KV kvs vs ∧ s.heap.DictOf (mixKind X.prog X.w) p vs := I.hok p _ hx
      have hlen : kvs.length = vs.length := Paired.length r
      exact wpAny_truthy_dict hS m (by omega) ⟨H, I.tok _, by rw [isEmpty_kv r]; exact q⟩
  | _ => exact (show False from e).elim
theorem pt_truth (ha : PE X a ta) (he : ∀ whole, isTrue a X.env whole = (do let v ← whole; standAt a.pos; holding [v] (truthy v))) :
    PT X a (fun σ H Q => ta σ H fun x H' => ∃ k, TruV X.K x H' k ∧ Q k H') := by
  intro pins s σ H Q I h
  refine isTrue_plain (thn (ha pins s σ H _ I h) fun v s1 qz9 => ?_) (he _)
  obtain ⟨x, H1, I1, r1, q1⟩ := qz9
  exact tru_ok pins s1 σ H1 x v Q I1 r1 q1
theorem op_add_str : OpR X (binaryOp .Add) (fun x y H Q => ∃ i j, x = .str i ∧ y = .str j ∧ i.length + j.length ≤ sizeLine ∧ Q (.str (i ++ j)) H) := by
  intro pins s σ H x y v u Q I rx ry h
  obtain ⟨i, j, rfl, rfl, hz, q⟩ := h
  obtain ⟨t, rfl⟩ := rx
  obtain ⟨t', rfl⟩ := ry
  exact add_str (fun t' tk => ⟨.str (i ++ j), H, I.tok _, ⟨_, rfl⟩, q⟩) hz
theorem vals1 {x : V} {us : List Value} (r : Vals [x] us) : ∃ u, us = [u] ∧ RelV x u := by
  cases r with
  | cons r1 r2 => cases r2; exact ⟨_, rfl, r1⟩
theorem vals2 {x y : V} {us : List Value} (r : Vals [x, y] us) : ∃ u w', us = [u, w'] ∧ RelV x u ∧ RelV y w' := by
  cases r with
  | cons r1 r2 =>
    cases r2 with
    | cons r3 r4 => cases r4; exact ⟨_, _, rfl, r1, r3⟩
theorem call_abs : CallR X (.builtin "abs") (fun xs H Q => ∃ i, xs = [.int i] ∧ Q (.int (if i < 0 then -i else i)) H) := by
  intro pins s σ H xs us Q I r h
  obtain ⟨i, rfl, q⟩ := h
  obtain ⟨u, rfl, t, rfl⟩ := vals1 r
  exact call_abs_int fun u tk => ⟨.int (if i < 0 then -i else i), H, I.tok _, ⟨_, rfl⟩, q⟩
theorem call_str_int : CallR X (.type "str") (fun xs H Q => ∃ i, xs = [.int i] ∧ i.natAbs.log2 < 1920 ∧ Q (.str (toString i)) H) := by
  intro pins s σ H xs us Q I r h
  obtain ⟨i, rfl, hz, q⟩ := h
  obtain ⟨u, rfl, t, rfl⟩ := vals1 r
  exact PySem.P.str_of_int hz ⟨.str _, H, I.tok _, ⟨_, rfl⟩, q⟩
end
end L2
namespace L2
open PySem PySem.Spec PyProof.Rows
structure ObjM (h : Heap) (x dx C : Addr) (mA : Str → Option Value) : Prop where
  obj : h.get? x = some (PySem.W.instObj C dx)
  ns : h.Ns1 dx mA
  ne : dx ≠ x
theorem lookIn_ns {h : Heap} {dx : Addr} {mA : Str → Option Value} (n : h.Ns1 dx mA) : ∃ od, h.get? dx = some od ∧ ∀ name, PySem.W.lookIn name od = some (mA name) := by
  obtain ⟨o, es, ep, ho, hd, hk, _, hm⟩ := n
  refine ⟨o, ho, fun name => ?_⟩
  have e := hm name
  unfold nsFind findBy at e
  rw [← Array.find?_toList] at e
  unfold PySem.W.lookIn
  rw [hd]
  dsimp only
  split
  · rename_i y q
    rw [q] at e
    exact congrArg some e
  · rename_i q
    rw [q] at e
    have a : es.toList.any (·.refKey) = false := by
      rw [List.any_eq_false]
      intro y hy
      obtain ⟨z, t, hkey⟩ := hk y (Array.mem_toList_iff.mp hy)
      simp [DictEntry.refKey, hkey]
    have a' : ¬ es.toList.any (·.refKey) = true := by rw [a]; exact Bool.false_ne_true
    rw [if_neg a']
    exact congrArg some e
theorem ObjM.look {h : Heap} {x dx C : Addr} {mA : Str → Option Value} (I : ObjM h x dx C mA) : ∃ od, PySem.W.InstAt h x (PySem.W.instObj C dx) C (some od) ∧ ∀ name, PySem.W.lookIn name od = some (mA name) :=
  let ⟨od, ho, hl⟩ := lookIn_ns I.ns
  ⟨od, ⟨I.obj, rfl, rfl, ho⟩, hl⟩
section
variable {prog : Program} {w : World} {A : Around} {E : Value → Shared → Prop} {s : Shared} {K : PySem.W.Frag} {x dx C f : Addr} {mA : Str → Option Value} {name : Str} {v : Value}
end
section
variable {P : Program} {w : World} {H H' : Hp} {h h' : Heap} {a C dx : Addr} {fs fs' : List (Str × V)}
theorem ins_get (hok : HOk P w H h) (e : H a = some (.ins C dx fs)) : ∃ mA, ObjM h a dx C mA ∧ (∀ f, RelO (fs.lookup f) (mA f)) ∧ PySem.Within mA (fs.map (·.1)) ∧ fs.length ≤ 1000 ∧ H dx = some (.own a) := by
  obtain ⟨d, z, ne, ob, mA, n, r, q⟩ := (show ObjOk P w H h a (.ins C dx fs) from hok a _ e)
  exact ⟨mA, ⟨ob, n, ne⟩, r, q, z, d⟩
end
structure Cls (K : PySem.W.Frag) (C : Addr) : Prop where
  pg : PySem.W.plainGet K C Str.empty = true
  hd : PySem.W.hasDictIn K C = true
  po : PySem.W.plainOver K C = true
  sa : PySem.W.findIn K (.ref C) "__setattr__" = some (some (.builtin "object.__setattr__"))
theorem Cls.get {K : PySem.W.Frag} {C : Addr} (c : Cls K C) (f : Str) : PySem.W.plainGet K C f = true := c.pg
structure Con (K : PySem.W.Frag) (C : Addr) (f : Str) (v : V) (u : Value) : Prop where
  at_ : PySem.W.findIn K (.ref C) f = some (some u)
  rel : RelV v u
  get : PySem.W.specialIn K u "__get__" = some none
  cp : PySem.W.copiedNames.contains f = false
structure Meth (K : PySem.W.Frag) (C : Addr) (m : Str) (f : Addr) : Prop where
  at_ : PySem.W.findIn K (.ref C) m = some (some (.ref f))
  fn : PySem.W.isFn K (.ref f) = true
  kp : PySem.W.keepIn K (.ref f) = true
section
variable {X : Cx} {pins : List (Addr × Obj)} {σ : St} {H : Hp} {s : Shared} {a C dx : Addr} {fs : List (Str × V)} {f : Str} {v : V} {A : Around} {E : Value → Shared → Prop}
end
section
variable {X : Cx} {o e value : Expr} {f : Str} {pos pos' tpos : Pos} {ta tv : TE}
end
section
variable {X : Cx} {pins : List (Addr × Obj)} {σ : St} {H : Hp} {s : Shared} {A : Around} {E : Value → Shared → Prop} {Q : Value → Shared → Prop} {c : Value} {b : Bool}
inductive TyOf (K : PySem.W.Frag) (H : Hp) : V → Value → Prop where
  | non : TyOf K H .non (.type "NoneType")
  | bl (x : Bool) : TyOf K H (.bl x) (.type "bool")
  | int (i : Int) : TyOf K H (.int i) (.type "int")
  | str (x : Str) : TyOf K H (.str x) (.type "str")
  | flt (x : UInt64) : TyOf K H (.flt x) (.type "float")
  | lst {a : Addr} {xs : List V} (e : H a = some (.lst xs)) : TyOf K H (.ref a) (.type "list")
  | frz {a : Addr} {o : Obj} {xs : List V} (e : H a = some (.frz o (.lst xs))) : TyOf K H (.ref a) (.type "list")
  | tup {a : Addr} {xs : List V} (e : H a = some (.tup xs)) : TyOf K H (.ref a) (.type "tuple")
  | dK {a : Addr} {kvs : List (Key × V)} (e : H a = some (.dK kvs)) : TyOf K H (.ref a) (.type "dict")
  | dT {a : Addr} {kvs : List (List Key × V)} (e : H a = some (.dT kvs)) : TyOf K H (.ref a) (.type "dict")
  | ins {a C dx : Addr} {fs : List (Str × V)} (e : H a = some (.ins C dx fs)) (cl : Cls K C) (ha : PySem.W.findIn K (.ref C) "__class__" = some (some (.builtin "object.__class__")))
      (hn : PySem.W.specialIn K (.builtin "object.__class__") "__get__" = some (some (.builtin "getset_descriptor.__get__"))) (htk : PySem.W.takesIn K (.builtin "object.__class__") = some true)
      (hm : PySem.W.mroIn K C (.type "object") = some true) : TyOf K H (.ref a) (.ref C)
theorem isinst_ok {x : V} {u t : Value} (I : Inv X pins σ H s) (rx : RelV x u) (ty : TyOf X.K H x t) (e : PySem.W.kitOne X.K t c = some b) (h : ∀ tk, Q (.bool b) { s with toks := tk }) :
    wpAny (model X.prog X.w) A (call (.builtin "isinstance") [u, c]) Q E s := by
  cases ty with
  | non => cases (show u = Value.none from rx); exact PySem.W.kia_one PySem.W.kitx_none I.kIn True.intro e (fun z => nomatch z) h
  | bl y => cases (show u = Value.bool y from rx); exact PySem.W.kia_one PySem.W.kitx_bool I.kIn True.intro e (fun z => nomatch z) h
  | int i => obtain ⟨t, q⟩ := (show ∃ t, u = Value.int i t from rx); cases q; exact PySem.W.kia_one PySem.W.kitx_int I.kIn True.intro e (fun z => nomatch z) h
  | str y => obtain ⟨t, q⟩ := (show ∃ t, u = Value.str y t from rx); cases q; exact PySem.W.kia_one PySem.W.kitx_str I.kIn True.intro e (fun z => nomatch z) h
  | flt y => obtain ⟨t, q⟩ := (show ∃ t, u = Value.float y t from rx); cases q; exact PySem.W.kia_one PySem.W.kitx_float I.kIn True.intro e (fun z => nomatch z) h
  | @lst a xs ea =>
    cases (show u = Value.ref a from rx)
    obtain ⟨_, _, n, _, h1⟩ := (show ObjOk X.prog X.w H s.heap a (.lst xs) from I.hok a _ ea)
    exact PySem.W.kia_one PySem.W.kitx_list I.kIn ⟨_, h1, rfl⟩ e (fun z => nomatch z) h
  | @frz a ob xs ea =>
    cases (show u = Value.ref a from rx)
    obtain ⟨_, _, _, n, _, h1⟩ := (show ObjOk X.prog X.w H s.heap a (.frz ob (.lst xs)) from I.hok a _ ea)
    exact PySem.W.kia_one PySem.W.kitx_list I.kIn ⟨_, h1, rfl⟩ e (fun z => nomatch z) h
  | @tup a xs ea =>
    cases (show u = Value.ref a from rx)
    obtain ⟨_, _, _, p⟩ := (show ObjOk X.prog X.w H s.heap a (.tup xs) from I.hok a _ ea)
    obtain ⟨o, h1, h2, _⟩ := p
    exact PySem.W.kia_one PySem.W.kitx_tuple I.kIn ⟨o, h1, h2⟩ e (fun z => nomatch z) h
  | @dK a kvs ea =>
    cases (show u = Value.ref a from rx)
    obtain ⟨_, _, vs, _, p⟩ := (show ObjOk X.prog X.w H s.heap a (.dK kvs) from I.hok a _ ea)
    obtain ⟨o, es, ep, h1, h2, _⟩ := p
    exact PySem.W.kia_one PySem.W.kitx_dict I.kIn ⟨o, h1, h2.1⟩ e (fun z => nomatch z) h
  | @dT a kvs ea =>
    cases (show u = Value.ref a from rx)
    obtain ⟨_, _, xs, _, o, es, ep, h1, h2, _⟩ := (show ObjOk X.prog X.w H s.heap a (.dT kvs) from I.hok a _ ea)
    exact PySem.W.kia_one PySem.W.kitx_dict I.kIn ⟨o, h1, h2.1⟩ e (fun z => nomatch z) h
  | @ins a C dx fs ea cl ha hn htk hm =>
    cases (show u = Value.ref a from rx)
    obtain ⟨mA, O, _⟩ := ins_get I.hok ea
    obtain ⟨od, J, _⟩ := O.look
    exact PySem.W.kia_one (PySem.W.kitx_own (cl.get _) cl.hd ha hn htk hm) I.kIn J e (fun z => nomatch z) h
end
end L2
namespace L2
open PySem PySem.Spec PyProof.Rows
structure Room (k : Nat) (A : Around) : Prop where
  hd : A.handled = none
  dp : A.depth + 3 * k + 5 < recursionLimit
  un : A.units + 16 * k + 200 < cLine
theorem Room.mono {j k : Nat} {A : Around} (r : Room k A) (h : j ≤ k) : Room j A := ⟨r.hd, by have := r.dp; omega, by have := r.un; omega⟩
theorem Room.deeper {k : Nat} {A : Around} (r : Room (k + 1) A) (env : Env) : Room k (A.deeper env) :=
  ⟨r.hd, by have := r.dp; show A.depth + 1 + 3 * k + 5 < _; omega, by have := r.un; show A.units + 3 + 16 * k + 200 < _; omega⟩
theorem Room.depth {k : Nat} {A : Around} (r : Room k A) : A.depth < recursionLimit := by have := r.dp; omega
theorem Room.units {k : Nat} {A : Around} (r : Room k A) : A.units + 64 < cLine := by have := r.un; omega
noncomputable def tNil : TA := fun _ H Q => Q [] H
noncomputable def tCons (ta : TE) (tr : TA) : TA := fun σ H Q => ta σ H fun x H1 => tr σ H1 fun xs H2 => Q (x :: xs) H2
section
variable {X : Cx} {e : Expr} {es : List Expr} {te : TE} {t : TA} {pos : Pos}
theorem pa_nil : PA X [] tNil := fun _ _ _ _ H Q I h => Calls.spliced_nil ⟨[], H, I, .nil, h⟩
theorem pa_cons (ha : PE X e te) (hr : PA X es t) (hs : starEach (e :: es) X.env = (false, eval e X.env) :: starEach es X.env := by rfl) : PA X (e :: es) (tCons te t) := by
  intro pos pins s σ H Q I h
  rw [hs]
  show wpAny _ _ (spliced ((false, eval e X.env) :: backTo pos (starEach es X.env))) _ _ s
  refine Calls.spliced_cons (thn (ha pins s σ H _ I h) fun u s1 qz9 => ?_)
  obtain ⟨x, H1, I1, r1, q1⟩ := qz9
  refine thn (hr pos pins s1 σ H1 _ I1 q1) fun us s2 qz9 => ?_
  obtain ⟨xs, H2, I2, r2, q2⟩ := qz9
  exact ⟨x :: xs, H2, I2, .cons r1 r2, q2⟩
noncomputable def tTup (t : TA) : TE := fun σ H Q => t σ H fun xs H1 => xs.length ≤ sizeLine ∧ ∀ p, H1 p = none → Q (.ref p) (upd H1 p (.tup xs))
noncomputable def tLst (t : TA) : TE := fun σ H Q => t σ H fun xs H1 => xs.length ≤ sizeLine ∧ ∀ p, H1 p = none → Q (.ref p) (upd H1 p (.lst xs))
theorem pe_tup {x1} (h : PA X es t) : PE X (.Tuple es x1 pos) (tTup t) := by
  intro pins s σ H Q I hq
  refine wpAny_Tuple_spliced (thn (h pos pins s σ H _ I hq) fun us s1 ⟨xs, H1, I1, r, z, q⟩ => ⟨by rw [← r.length]; exact z, ?_⟩)
  have hf : H1 s1.heap.objs.size = none := I1.hok.fresh (Nat.le_refl _)
  refine ⟨.ref s1.heap.objs.size, upd H1 s1.heap.objs.size (.tup xs), I1.laid (t' := s1.toks) (fun b u e => Heap.get?_push_of_some _ e) (Nat.le_refl _) ?_, rfl, q _ hf⟩
  exact ⟨z, us, r, ⟨_, Heap.get?_push_size _ rfl, rfl, _, rfl⟩⟩
theorem pe_lst (h : PA X es t) : PE X (.List es pos) (tLst t) := by
  intro pins s σ H Q I hq
  refine wpAny_List_spliced (thn (h pos pins s σ H _ I hq) fun us s1 ⟨xs, H1, I1, r, z, q⟩ => ⟨by rw [← r.length]; exact z, ?_⟩)
  have hf : H1 s1.heap.objs.size = none := I1.hok.fresh (Nat.le_refl _)
  refine ⟨.ref s1.heap.objs.size, upd H1 s1.heap.objs.size (.lst xs), I1.laid (t' := s1.toks) (fun b u e => Heap.get?_push_of_some _ e) (Nat.le_refl _) ?_, rfl, q _ hf⟩
  exact ⟨z, us, 0, r, Heap.get?_push_size _ rfl⟩
end
noncomputable abbrev Sp := List V → Hp → VK → XK → Prop
noncomputable abbrev CXT := List Env → Hp → Shared → XK → Value → Shared → Prop
structure Env0 (P : Program) (w : World) (K : PySem.W.Frag) (mg : Str → Option Value) (base : Heap) (A : Around) (outer : List Env) (s : Shared) (H : Hp) : Prop where
  frames : A.frames = some outer
  mod : Mod K mg base
  bs : ∀ b o, base.get? b = some o → s.heap.get? b = some o ∧ H b = none
  bsz : base.objs.size ≤ s.heap.objs.size
  funs : s.heap.FunFrames base outer
  frf : ∀ b ∈ frs outer, H b = none
  hok : HOk P w H s.heap
  bare : AllBare s.gens
noncomputable def CE (outer : List Env) (P : Program) (w : World) (H : Hp) (s : Shared) (Q : VK) (u : Value) (s' : Shared) : Prop :=
  ∃ v H', s'.os = s.os ∧ AllBare s'.gens ∧ Un (frs outer) [] H H' s.heap s'.heap ∧ HOk P w H' s'.heap ∧ RelV v u ∧ Q v H'
noncomputable def CR (CX : CXT) (outer : List Env) (P : Program) (w : World) (H : Hp) (s : Shared) (Q : VK) (E : XK) (r : Result) (s' : Shared) : Prop :=
  match r with
  | .ok (.ret u) => CE outer P w H s Q u s'
  | .ok _ => False
  | .error e => CX outer H s E e s'
structure FnOk (P : Program) (w : World) (K : PySem.W.Frag) (mg : Str → Option Value) (base : Heap) (CX : CXT) (k : Nat) (f : Addr) (fd : FuncData) (ps : List Str) (sp : Sp) : Prop where
  len : ∀ vs H Q E, sp vs H Q E → vs.length = ps.length
  run : ∀ (A : Around) (outer : List Env) (s : Shared) (H : Hp) (args : Args) (us : List Value) (vs : List V) (Q : VK) (E : XK), Room k A → Env0 P w K mg base A outer s H → BindsTo s fd args (ps.zip us) → Vals vs us → sp vs H Q E →
    codeAny (model P w) A (.call (.ref f) args) (CR CX outer P w H s Q E) s
theorem FnOk.imp {P : Program} {w : World} {K : PySem.W.Frag} {mg : Str → Option Value} {base : Heap} {CX : CXT} {k : Nat} {f : Addr} {fd : FuncData} {ps : List Str} {sp sp' : Sp} (F : FnOk P w K mg base CX k f fd ps sp)
    (h : ∀ vs H Q E, sp' vs H Q E → sp vs H Q E) : FnOk P w K mg base CX k f fd ps sp' :=
  ⟨fun vs H Q E q => F.len vs H Q E (h _ _ _ _ q), fun A outer s H args us vs Q E hr he hb hv hs => F.run A outer s H args us vs Q E hr he hb hv (h _ _ _ _ hs)⟩
section
variable {X : Cx} {pins : List (Addr × Obj)} {σ : St} {H : Hp} {s s' : Shared}
theorem Inv.env0 (I : Inv X pins σ H s) : Env0 X.prog X.w X.K X.mg X.base X.A X.stack s H :=
  ⟨I.ok.frames, I.ok.mod, I.bs, Nat.le_trans I.ok.bsz I.sz, I.stack, I.stkFree, I.hok, I.bare⟩
theorem Inv.after {Q : VK} {u : Value} (I : Inv X pins σ H s) (h : CE X.stack X.prog X.w H s Q u s') : EP X pins σ Q u s' := by
  obtain ⟨v, H', os, bare, un, hok, r, q⟩ := h
  obtain ⟨hh, g, d, t, os'⟩ := s'
  obtain rfl : os' = s.os := os
  exact ⟨v, H', I.call (h' := hh) (g' := g) (d' := d) (t' := t) (ch := []) un hok bare (fun b z => absurd z (by simp)), r, q⟩
end
noncomputable def tCall (sp : Sp) (dvs : List V) (E : XK) (t : TA) : TE := fun σ H Q => t σ H fun vs H1 => sp (vs ++ dvs) H1 Q E
noncomputable def Binds (K : PySem.W.Frag) (fd : FuncData) (ps : List Str) (ds : List Value) : Prop :=
  ∀ (s : Shared) (us : List Value), K.In s.heap → (us ++ ds).length = ps.length → BindsTo s fd ⟨us, []⟩ (ps.zip (us ++ ds))
theorem Binds.all {K : PySem.W.Frag} {fd : FuncData} {ps : List Str} (h : ∀ us : List Value, us.length = ps.length → bindArgs fd ⟨us, []⟩ = pure (ps.zip us)) : Binds K fd ps [] := fun s us _ hl => by
  rw [List.append_nil] at hl ⊢
  exact .of_eq (h us hl)
noncomputable def Passes (CX : CXT) (X : Cx) (E : XK) : Prop := ∀ (pins : List (Addr × Obj)) (σ : St) (H : Hp) (s : Shared) (e : Value) (s' : Shared), Inv X pins σ H s → CX X.stack H s E e s' → X.xe e s'
section
variable {X : Cx} {CX : CXT} {k : Nat} {f C : Addr} {fd : FuncData} {ps : List Str} {sp : Sp} {dvs : List V} {ds : List Value} {E : XK} {x m : Str} {p pos apos : Pos} {e o : Expr} {es : List Expr} {ta : TE} {t : TA}
theorem run_fn {pins : List (Addr × Obj)} {σ : St} {H : Hp} {s : Shared} {Q : VK} {us : List Value} {vs : List V} (F : FnOk X.prog X.w X.K X.mg X.base CX k f fd ps sp) (hr : Room k X.A) (hb : Binds X.K fd ps ds) (hd : Vals dvs ds) (hx : Passes CX X E)
    (I : Inv X pins σ H s) (r : Vals vs us) (h : sp (vs ++ dvs) H Q E) : wpAny (model X.prog X.w) X.A (call (.ref f) us) (EP X pins σ Q) X.xe s := by
  have r2 : Vals (vs ++ dvs) (us ++ ds) := r.append hd
  have hl : (us ++ ds).length = ps.length := by rw [← r2.length]; exact F.len _ _ _ _ h
  refine wpAny_call (codeAny_mono (F.run X.A X.stack s H ⟨us, []⟩ (us ++ ds) (vs ++ dvs) Q E hr I.env0 (hb s us I.kIn hl) r2 h) fun r s' hq => ?_)
  cases r with
  | error e => exact hx pins σ H s e s' I hq
  | ok fl =>
    cases fl with
    | ret u => exact I.after hq
    | next => exact False.elim hq
    | brk => exact False.elim hq
    | cont => exact False.elim hq
theorem pe_call (F : FnOk X.prog X.w X.K X.mg X.base CX k f fd ps sp) (hr : Room k X.A) (hg : Gl X x) (hm : X.mg x = some (.ref f)) (hk : PySem.W.keepIn X.K (.ref f) = true) (hb : Binds X.K fd ps ds) (hd : Vals dvs ds) (hx : Passes CX X E)
    (ha : PA X (e :: es) t) (hdb : (x == ("__debug__" : Str)) = false := by decide) (he : starEach (e :: es) X.env = (false, eval e X.env) :: starEach es X.env := by rfl) (hpl : (backTo pos (starEach es X.env)).any (·.1) = false := by rfl) :
    PE X (.Call (.Name x p) (e :: es) [] pos) (tCall sp dvs E t) := by
  intro pins s σ H Q I h
  refine wpAny_Call_Name_kw (ld_glob I hg hm ?_ hdb)
  refine PySem.W.callWith_K (h₀ := X.base) I.ok.mod.kin hk (thn (ha pos pins s σ H _ I h) fun us s1 qz9 => ?_) he hpl
  obtain ⟨vs, H1, I1, r, q⟩ := qz9
  refine ⟨I1.kIn, ?_⟩
  exact run_fn F hr hb hd hx I1 r q
structure Mk (K : PySem.W.Frag) (C f : Addr) : Prop where
  makes : PySem.W.makesIn K C = true
  init : PySem.W.findIn K (.ref C) "__init__" = some (some (.ref f))
  fn : PySem.W.isFn K (.ref f) = true
  kp : PySem.W.keepIn K (.ref C) = true
end
section
variable {X : Cx} {CX : CXT} {k : Nat} {f C : Addr} {fd : FuncData} {ps ks : List Str} {sp : Sp} {E : XK} {x m : Str} {p pos apos kpos : Pos} {e o : Expr} {es : List Expr} {kws : List Keyword} {te ta : TE} {t tk : TA} {nm : Option Str}
structure KBinds (K : PySem.W.Frag) (fd : FuncData) (ps ks : List Str) (g : List Value → List Value → List Value) (gV : List V → List V → List V) : Prop where
  to : ∀ (s : Shared) (us ws : List Value), K.In s.heap → (g us ws).length = ps.length → BindsTo s fd ⟨us, ks.zip ws⟩ (ps.zip (g us ws))
  rel : ∀ {vs : List V} {us : List Value} {zs : List V} {ws : List Value}, Vals vs us → Vals zs ws → Vals (gV vs zs) (g us ws)
variable {g : List Value → List Value → List Value} {gV : List V → List V → List V}
end
structure FnScope (N P : List Str) (sc : Scope) : Prop where
  kind : sc.kind = .function
  co : sc.isCoroutine = false
  gen : sc.isGenerator = false
  nd : N.Nodup
  pre : N.take P.length = P
  par : ∀ x ∈ P, sc.names.lookup x = some .local ∨ sc.names.lookup x = some .cell
  nofree : ∀ y ∈ sc.names, y.2 ≠ .free
theorem bindL_out {kindOf : Str → Option NameKind} {x : Str} : ∀ {binds : List (Str × Value)} {m : Str → Option Value}, (∀ v, (x, v) ∉ binds) → bindL kindOf binds m x = m x
  | [], _, _ => rfl
  | (n, v) :: r, m, h => by
    unfold bindL
    rw [bindL_out fun w hw => h w (List.mem_cons_of_mem _ hw)]
    split
    · have : x ≠ n := by rintro rfl; exact h v List.mem_cons_self
      simp [this]
    · rfl
theorem bindC_out {kindOf : Str → Option NameKind} {x : Str} : ∀ {binds : List (Str × Value)} {m : Str → Option Value}, (∀ v, (x, v) ∉ binds) → bindC kindOf binds m x = m x
  | [], _, _ => rfl
  | (n, v) :: r, m, h => by
    unfold bindC
    rw [bindC_out fun w hw => h w (List.mem_cons_of_mem _ hw)]
    split
    · rfl
    · have : x ≠ n := by rintro rfl; exact h v List.mem_cons_self
      simp [this]
theorem bindL_get {kindOf : Str → Option NameKind} {x : Str} {v : Value} : ∀ {P : List Str} {vs : List Value} {i : Nat} {m : Str → Option Value}, P.Nodup → P[i]? = some x → vs[i]? = some v → kindOf x = some .local →
    bindL kindOf (P.zip vs) m x = some v
  | [], _, _, _, _, h, _, _ => by simp at h
  | _ :: _, [], _, _, _, _, h, _ => by simp at h
  | p :: P, w :: vs, 0, m, nd, h1, h2, hk => by
    simp at h1 h2; subst h1; subst h2
    show bindL kindOf ((p, w) :: P.zip vs) m p = _
    unfold bindL
    rw [bindL_out fun v hv => (List.nodup_cons.mp nd).1 (List.of_mem_zip hv).1, if_pos hk]
    simp
  | p :: P, w :: vs, i + 1, m, nd, h1, h2, hk => by
    show bindL kindOf ((p, w) :: P.zip vs) m x = _
    unfold bindL
    exact bindL_get (i := i) (List.nodup_cons.mp nd).2 (by simpa using h1) (by simpa using h2) hk
theorem bindC_get {kindOf : Str → Option NameKind} {x : Str} {v : Value} : ∀ {P : List Str} {vs : List Value} {i : Nat} {m : Str → Option Value}, P.Nodup → P[i]? = some x → vs[i]? = some v → kindOf x ≠ some .local →
    bindC kindOf (P.zip vs) m x = some v
  | [], _, _, _, _, h, _, _ => by simp at h
  | _ :: _, [], _, _, _, _, h, _ => by simp at h
  | p :: P, w :: vs, 0, m, nd, h1, h2, hk => by
    simp at h1 h2; subst h1; subst h2
    show bindC kindOf ((p, w) :: P.zip vs) m p = _
    unfold bindC
    rw [bindC_out fun v hv => (List.nodup_cons.mp nd).1 (List.of_mem_zip hv).1, if_neg hk]
    simp
  | p :: P, w :: vs, i + 1, m, nd, h1, h2, hk => by
    show bindC kindOf ((p, w) :: P.zip vs) m x = _
    unfold bindC
    exact bindC_get (i := i) (List.nodup_cons.mp nd).2 (by simpa using h1) (by simpa using h2) hk
noncomputable def start (N : List Str) (vs : List V) : St := vs.map some ++ List.replicate (N.length - vs.length) none
noncomputable def cxOf (CX : CXT) (P : Program) (w : World) (K : PySem.W.Frag) (mg : Str → Option Value) (base : Heap) (N : List Str) (qual : Str) (scope : Scope) (f : Addr) (cd : Value) (A : Around) (outer : List Env) (s : Shared) (H : Hp) (E : XK) : Cx where
  prog := P
  w := w
  K := K
  mg := mg
  base := base
  A := A.deeper (envOfC qual scope s.heap.objs.size f cd)
  N := N
  s₀ := s
  H₀ := H
  env := envOfC qual scope s.heap.objs.size f cd
  outer := outer
  stack := envOfC qual scope s.heap.objs.size f cd :: outer
  ex := []
  calm := true
  fn := fun _ => true
  pn := []
  xe := fun e s' => wpAny (model P w) (A.deeper (envOfC qual scope s.heap.objs.size f cd)) (leaving (envOfC qual scope s.heap.objs.size f cd) e) (fun _ s'' => CX outer H s E e s'') (fun e' s'' => CX outer H s E e' s'') s'
theorem cell_has {sc : Scope} {n : Nat} {x : Str} (h : sc.names.lookup x = some .cell) : ∃ c, (cellsFrom n sc.names []).lookup x = some c := by
  have q := PySem.W.cellsFrom_some sc.names n [] (.inl h)
  exact Option.isSome_iff_exists.mp q
theorem inv_start {CX : CXT} {P : Program} {w : World} {K : PySem.W.Frag} {mg : Str → Option Value} {base : Heap} {N ps : List Str} {qual : Str} {scope : Scope} {f : Addr} {cd : Value} {A : Around} {outer : List Env} {s s1 : Shared} {H : Hp} {E : XK} {us : List Value} {vs : List V}
    (S : FnScope N ps scope) (hd : A.handled = none) (e0 : Env0 P w K mg base A outer s H) (hl : vs.length = ps.length) (r : Vals vs us)
    (x : InCallC s s.heap.objs.size (bindL (envOfC qual scope s.heap.objs.size f cd).kindOf (ps.zip us) fun _ => none) (cellsFrom (s.heap.objs.size + 1) scope.names []) (bindC (envOfC qual scope s.heap.objs.size f cd).kindOf (ps.zip us) fun _ => none) s1) :
    Inv (cxOf CX P w K mg base N qual scope f cd A outer s H E) [] (start N vs) H s1 := by
  have hpl : ps.length ≤ N.length := by have := congrArg List.length S.pre; rw [List.length_take] at this; omega
  obtain ⟨h1, tk, rfl, hk⟩ := x.done
  have noA : ∀ b : Addr, b ∉ (cxOf CX P w K mg base N qual scope f cd A outer s H E).ex := fun b z => absurd (show b ∈ ([] : List Addr) from z) (by simp)
  refine ⟨⟨e0.mod, S.kind, rfl, rfl, Nat.le_refl _, fun y z c h1 h2 => ?_, fun y hy => ?_, fun y c _ h => ?_, fun _ => hd, Around.frames_deeper e0.frames, .inr ⟨rfl, rfl⟩, fun b z => absurd z (noA b), e0.bs, e0.bsz, fun b _ _ => noA b, fun b z => absurd z (noA b), e0.funs, e0.frf⟩,
    rfl, e0.bare, Un.kept hk, ⟨_, x.toInCall.ns, fun i y v h1 h2 h3 => ?_⟩, fun y c h => ⟨_, x.cell y c h⟩, e0.hok.fresh (Nat.le_refl _), fun y c h => ?_, fun p hp => absurd (show p ∈ ([] : List (Addr × Obj)) from hp) (by simp), e0.hok.kept hk, ?_⟩
  · exact name_of_addr x.apart (PySem.mem_of_lookup h1) (PySem.mem_of_lookup h2)
  · have hy : scope.names.lookup y = some .cell ∨ scope.names.lookup y = some .free := hy
    rcases hy with hy | hy
    · exact cell_has hy
    · exact absurd rfl (S.nofree _ (PySem.mem_of_lookup hy))
  · exact Nat.le_of_lt (x.above y c (PySem.mem_of_lookup h))
  · have hi : i < vs.length := by
      unfold start at h2
      by_cases hi : i < vs.length
      · exact hi
      · rw [List.getElem?_append_right (by simpa using hi)] at h2
        rw [List.getElem?_replicate] at h2
        split at h2 <;> cases h2
    have ha : vs[i]? = some v := by
      unfold start at h2
      rw [List.getElem?_append_left (by simpa using hi), List.getElem?_map] at h2
      cases e : vs[i]? with
      | none => rw [e] at h2; cases h2
      | some a => rw [e] at h2; cases h2; rfl
    obtain ⟨u, hu, rv⟩ := r.get ha
    have hp : ps[i]? = some y := by
      rw [← S.pre, List.getElem?_take_of_lt (by omega)]; exact h1
    have ndP : ps.Nodup := by rw [← S.pre]; exact S.nd.sublist (List.take_sublist _ _)
    refine ⟨u, rv, ?_⟩
    rcases S.par y (List.mem_of_getElem? hp) with k | k
    · exact .inl ⟨k, bindL_get ndP hp hu k⟩
    · obtain ⟨c, e⟩ := cell_has (n := s.heap.objs.size + 1) k
      refine .inr ⟨.inl k, c, e, ?_⟩
      have q := x.cell y c e
      rw [bindC_get ndP hp hu (by show scope.names.lookup y ≠ _; rw [k]; decide)] at q
      exact q
  · exact e0.hok.fresh (Nat.le_of_lt (x.above y c (PySem.mem_of_lookup h)))
  · unfold start
    show _ = N.length
    rw [List.length_append, List.length_map, List.length_replicate]
    omega
theorem fn_of {CX : CXT} {P : Program} {w : World} {K : PySem.W.Frag} {mg : Str → Option Value} {base : Heap} {k : Nat} {f : Addr} {name qual : Str} {params : Arguments} {body : List Stmt} {scope : Scope} {dV kV doc pm cdv ct oc : Value} {an od : Option Addr}
    {osl : Array (Option Value)} {N ps : List Str} {sp : Sp} (lk : K.lookup f = some ⟨oc, od, .func (PySem.W.fnOf name qual params body scope dV kV doc pm an cdv ct), osl⟩) (hcd : PySem.W.codeIn K cdv qual = true) (S : FnScope N ps scope)
    (len : ∀ vs H Q E, sp vs H Q E → vs.length = ps.length)
    (hbody : ∀ (A : Around) (outer : List Env) (s : Shared) (H : Hp) (vs : List V) (Q : VK) (E : XK), Room k (A.deeper (envOfC qual scope s.heap.objs.size f cdv)) → sp vs H Q E →
      ∃ t, PSs (cxOf CX P w K mg base N qual scope f cdv A outer s H E) body t ∧ t { nx := fun _ H' => Q .non H', rt := Q } (start N vs) H) :
    FnOk P w K mg base CX (k + 1) f (PySem.W.fnOf name qual params body scope dV kV doc pm an cdv ct) ps sp := by
  refine ⟨len, fun A outer s H args us vs Q E hr e0 hb r hsp => ?_⟩
  have hl := len _ _ _ _ hsp
  have KX : K.In s.heap := e0.mod.kin.keeps fun b o e => (e0.bs b o e).1
  have lim : s.heap.NoLimit := e0.mod.nolimit.keeps fun b o e => (e0.bs b o e).1
  have hkind : ∀ y ∈ ps.zip us, scope.names.lookup y.1 = some .local ∨ (scope.names.lookup y.1 = some .cell ∧ ((cellsFrom (s.heap.objs.size + 1) scope.names []).lookup y.1).isSome = true) := fun ⟨n, v⟩ hy => by
    rcases S.par n (List.of_mem_zip hy).1 with q | q
    · exact .inl q
    · exact .inr ⟨q, PySem.W.cellsFrom_some _ _ _ (.inl q)⟩
  refine codeAny_call_function hr.depth (KX _ _ lk) rfl S.co S.gen rfl (PySem.W.codeRec_of KX hcd) (hb _ _ _ _ ?_)
  refine wpAny_newFunctionEnv_cells S.kind hkind fun env he s1 x => ?_
  subst he
  refine ⟨lim.keeps x.toInCall.keep, codeAny_func ?_⟩
  obtain ⟨t, ht, hq⟩ := hbody A outer s H vs Q E (hr.deeper _) hsp
  have I : Inv (cxOf CX P w K mg base N qual scope f cdv A outer s H E) [] (start N vs) H s1 := inv_start S hr.hd e0 hl r x
  refine wpAny_mono (ht [] s1 (start N vs) H _ I hq) (fun fl s' hs => ?_) fun e s' hs => hs
  have fin : ∀ {σ' : St} {H' : Hp} {v : V} {u : Value}, Inv (cxOf CX P w K mg base N qual scope f cdv A outer s H E) [] σ' H' s' → RelV v u → Q v H' → CE outer P w H s Q u s' :=
    fun {σ' H' v u} J rv q => ⟨v, H', J.os, J.bare, J.base, J.hok, rv, q⟩
  cases fl with
  | ret u =>
    obtain ⟨v, σ', H', J, rv, q⟩ := hs
    exact fin J rv q
  | next =>
    obtain ⟨σ', H', J, q⟩ := hs
    exact fin (v := V.non) (u := Value.none) J rfl q
  | brk =>
    obtain ⟨_, _, _, q⟩ := hs
    exact False.elim q
  | cont =>
    obtain ⟨_, _, _, q⟩ := hs
    exact False.elim q
end L2
namespace L2
open PySem PySem.Spec PyProof.Rows
section
variable {X : Cx} {x : Str} {p pos : Pos} {e : Expr} {es : List Expr} {t : TA} {id T : String} {r : List V → Hp → VK → Prop}
noncomputable def tCB (r : List V → Hp → VK → Prop) (t : TA) : TE := fun σ H Q => t σ H fun vs H1 => r vs H1 Q
theorem pe_callB (hc : CallR X (.builtin id) r) (hg : Gl X x) (hm : X.mg x = none) (hv : bootBuiltins x = some (.builtin id)) (ha : PA X (e :: es) t) (hn : x ≠ "__name__" := by decide) (hdb : (x == ("__debug__" : Str)) = false := by decide)
    (he : starEach (e :: es) X.env = (false, eval e X.env) :: starEach es X.env := by rfl) (hpl : (backTo pos (starEach es X.env)).any (·.1) = false := by rfl) : PE X (.Call (.Name x p) (e :: es) [] pos) (tCB r t) := by
  intro pins s σ H Q I h
  refine wpAny_Call_Name_kw (ld_blt I hg hm hv ?_ hn hdb)
  refine PyProof.Rows.callWith_builtin1 (thn (ha pos pins s σ H _ I h) fun us s1 qz9 => ?_) he hpl
  obtain ⟨vs, H1, I1, r1, q1⟩ := qz9
  exact hc pins s1 σ H1 vs us Q I1 r1 q1
theorem pe_callTy (hc : CallR X (.type T) r) (hg : Gl X x) (hm : X.mg x = none) (hv : bootBuiltins x = some (.type T)) (ha : PA X (e :: es) t) (hn : x ≠ "__name__" := by decide) (hdb : (x == ("__debug__" : Str)) = false := by decide)
    (he : starEach (e :: es) X.env = (false, eval e X.env) :: starEach es X.env := by rfl) (hpl : (backTo pos (starEach es X.env)).any (·.1) = false := by rfl) : PE X (.Call (.Name x p) (e :: es) [] pos) (tCB r t) := by
  intro pins s σ H Q I h
  refine wpAny_Call_Name_kw (ld_blt I hg hm hv ?_ hn hdb)
  refine PyProof.Rows.callWith_type1 (thn (ha pos pins s σ H _ I h) fun us s1 qz9 => ?_) he hpl
  obtain ⟨vs, H1, I1, r1, q1⟩ := qz9
  exact hc pins s1 σ H1 vs us Q I1 r1 q1
end
end L2
namespace HT
open PySem PyProof.Rows
section
open PySem.SeqAt
open PySem.AutoSeq1 (wpAny_loadPart')
open PySem.MeetsSeq PySem.MeetsSeq2 PySem.MeetsSeq3
end
section
variable {prog : Program} {w : World} {A : Around} {E : Value → Shared → Prop} {s : Shared}
noncomputable def sIx (n d : Nat) : Option Int → Nat
  | none => d
  | some v => if v < 0 then (v + (n : Int)).toNat else min v.toNat n
theorem sIx_nat (n d k : Nat) : sIx n d (some (k : Int)) = min k n := by
  show (if (k : Int) < 0 then ((k : Int) + (n : Int)).toNat else min (k : Int).toNat n) = min k n
  rw [if_neg (by omega), Int.toNat_natCast]
end
end HT
namespace L2
open PySem PySem.Spec PyProof.Rows
noncomputable abbrev TO := St → Hp → (Option Int → Hp → Prop) → Prop
noncomputable def PO (X : Cx) (e : Option Expr) (t : TO) : Prop :=
  ∀ (pins : List (Addr × Obj)) (s : Shared) (σ : St) (H : Hp) (Q : Option Int → Hp → Prop), Inv X pins σ H s → t σ H Q →
    wpAny (model X.prog X.w) X.A (evalPart e X.env) (fun u s' => ∃ o H', Inv X pins σ H' s' ∧ IsPart u o ∧ Q o H') X.xe s
noncomputable def tPart (t : TE) : TO := fun σ H Q => t σ H fun x H1 => ∃ i, x = .int i ∧ Q (some i) H1
section
variable {X : Cx} {e : Expr} {te : TE} {lo hi : Option Expr} {tl th : TO} {pos p2 : Pos}
theorem po_some (h : PE X e te) : PO X (some e) (tPart te) := by
  intro pins s σ H Q I hw
  rw [evalPart_some]
  refine thn (h pins s σ H _ I hw) fun u s1 qz9 => ?_
  obtain ⟨x, H1, I1, r1, q1⟩ := qz9
  obtain ⟨i, rfl, q⟩ := q1
  obtain ⟨t, rfl⟩ := r1
  exact ⟨some i, H1, I1, .int i t, q⟩
noncomputable def SlR (X : Cx) (r : V → Option Int → Option Int → Hp → VK → Prop) : Prop :=
  ∀ (pins : List (Addr × Obj)) (s : Shared) (σ : St) (H : Hp) (x : V) (v vl vu : Value) (lo hi : Option Int) (sl : Addr) (Q : VK), Inv X pins σ H s → RelV x v → s.heap.IsSliceOf sl vl vu .none → IsPart vl lo → IsPart vu hi → r x lo hi H Q →
    ∃ T id, typeLookup (.type T) "__getitem__" = pure (some (.builtin id)) ∧ s.TypeIs v T ∧ wpAny (model X.prog X.w) X.A (getItem v (.ref sl)) (EP X pins σ Q) X.xe s
noncomputable def tSl (r : V → Option Int → Option Int → Hp → VK → Prop) (te : TE) (tl th : TO) : TE := fun σ H Q => te σ H fun x H1 => tl σ H1 fun l H2 => th σ H2 fun u H3 => r x l u H3 Q
theorem pe_slice {r : V → Option Int → Option Int → Hp → VK → Prop} (hr : SlR X r) (he : PE X e te) (hl : PO X lo tl) (hu : PO X hi th) : PE X (.Subscript e (.Slice lo hi none p2) pos) (tSl r te tl th) := by
  intro pins s σ H Q I h
  refine Subscript_ (thn (he pins s σ H _ I h) fun v s1 qz9 => ?_)
  obtain ⟨x, H1, I1, r1, q1⟩ := qz9
  refine wpAny_Slice (thn (hl pins s1 σ H1 _ I1 q1) fun vl s2 qz9 => ?_)
  obtain ⟨l, H2, I2, pl, q2⟩ := qz9
  refine thn (hu pins s2 σ H2 _ I2 q2) fun vu s3 qz9 => ?_
  obtain ⟨u, H3, I3, pu, q3⟩ := qz9
  rw [evalPart_none]
  refine wpAny_pure ?_
  have I4 : Inv X pins σ H3 { s3 with heap := s3.heap.push { cls := .type "slice", data := .fields #[vl, vu, .none] } } := I3.kept (t' := s3.toks) fun b ob q => Heap.get?_push_of_some _ q
  obtain ⟨T, id, hT, ht, hg⟩ := hr pins { s3 with heap := s3.heap.push { cls := .type "slice", data := .fields #[vl, vu, .none] } } σ H3 x v vl vu l u s3.heap.objs.size Q I4 r1 (Heap.IsSliceOf.new ..) pl pu q3
  show wpAny (model X.prog X.w) X.A (subscriptTail e (.Slice lo hi none p2) v (.ref s3.heap.objs.size)) (EP X pins σ Q) X.xe { s3 with heap := s3.heap.push { cls := .type "slice", data := .fields #[vl, vu, .none] } }
  exact tail_any (ops := [.ref s3.heap.objs.size, v]) ht hT hg (by with_unfolding_all rfl)
noncomputable def cutV (xs : List V) (lo hi : Option Int) : List V := (xs.drop (HT.sIx xs.length 0 lo)).take (HT.sIx xs.length xs.length hi - HT.sIx xs.length 0 lo)
theorem cutV_length (xs : List V) (lo hi : Option Int) : (cutV xs lo hi).length ≤ xs.length := by
  unfold cutV
  rw [List.length_take, List.length_drop]
  omega
end
end L2
namespace L2
open PySem PySem.Spec PyProof.Rows
noncomputable def ixN (n : Nat) (i : Int) : Option Nat := if 0 ≤ i then (if i < n then some i.toNat else none) else if -(n : Int) ≤ i then some (i + n).toNat else none
noncomputable def atI {α : Type} (xs : List α) (i : Int) : Option α := (ixN xs.length i).bind fun j => xs[j]?
theorem ixN_seq {n : Nat} {i : Int} {j : Nat} (h : ixN n i = some j) : seqIndex? i n = some j ∧ j < n ∧ -(n : Int) ≤ i ∧ i < n := by
  unfold ixN at h
  by_cases h0 : 0 ≤ i
  · rw [if_pos h0] at h
    by_cases h1 : i < n
    · rw [if_pos h1] at h
      have e : i.toNat = j := Option.some.inj h
      exact ⟨by rw [seqIndex_of h0 h1, e], by omega, by omega, h1⟩
    · rw [if_neg h1] at h; cases h
  · rw [if_neg h0] at h
    by_cases h1 : -(n : Int) ≤ i
    · rw [if_pos h1] at h
      have e : (i + n).toNat = j := Option.some.inj h
      exact ⟨by rw [seqIndex_neg (by omega) h1, e], by omega, h1, by omega⟩
    · rw [if_neg h1] at h; cases h
theorem atI_get {α : Type} {xs : List α} {i : Int} {v : α} (h : atI xs i = some v) : ∃ j, seqIndex? i xs.length = some j ∧ xs[j]? = some v ∧ j < xs.length ∧ -(xs.length : Int) ≤ i ∧ i < xs.length := by
  unfold atI at h
  cases e : ixN xs.length i with
  | none => rw [e] at h; cases h
  | some j =>
    rw [e] at h
    obtain ⟨h1, h2, h3, h4⟩ := ixN_seq e
    exact ⟨j, h1, h, h2, h3, h4⟩
noncomputable def PlainIx (b : Expr) : Prop := ∀ o i, subscripted b false o i = operate [o, i] (getItem o i)
noncomputable def IxR (X : Cx) (r : R2) : Prop :=
  ∀ (value slice : Expr) (pins : List (Addr × Obj)) (s : Shared) (σ : St) (H : Hp) (x y : V) (v u : Value) (Q : VK), Inv X pins σ H s → RelV x v → RelV y u → r x y H Q →
    subscripted slice false v u = operate [v, u] (getItem v u) → wpAny (model X.prog X.w) X.A (subscriptTail value slice v u) (EP X pins σ Q) X.xe s
noncomputable def MtR (X : Cx) (id : String) (r : V → List V → Hp → VK → Prop) : Prop :=
  ∀ (pins : List (Addr × Obj)) (s : Shared) (σ : St) (H : Hp) (x : V) (xs : List V) (v : Value) (us : List Value) (Q : VK), Inv X pins σ H s → RelV x v → Vals xs us → r x xs H Q →
    wpAny (model X.prog X.w) X.A (call (.builtin id) (v :: us)) (EP X pins σ Q) X.xe s
section
variable {X : Cx} {a b : Expr} {ta tb : TE} {pos : Pos}
theorem IxR.or {r r' : R2} (h : IxR X r) (h' : IxR X r') : IxR X (fun x y H Q => r x y H Q ∨ r' x y H Q) := by
  intro value slice pins s σ H x y v u Q I rx ry q hs
  rcases q with q | q
  · exact h value slice pins s σ H x y v u Q I rx ry q hs
  · exact h' value slice pins s σ H x y v u Q I rx ry q hs
theorem pe_ix {r : R2} (hr : IxR X r) (ha : PE X a ta) (hb : PE X b tb) (hs : PlainIx b) : PE X (.Subscript a b pos) (tOp r ta tb) := by
  intro pins s σ H Q I h
  exact Subscript_ (binT ha hb I h fun v u s2 x y H2 I2 rx ry q => hr a b pins s2 σ H2 x y v u Q I2 rx ry q (hs _ _))
noncomputable def rIxL (K : PySem.W.Frag) : R2 := fun x y H Q => ∃ p xs i v, x = .ref p ∧ y = .int i ∧ SqL K H p xs ∧ atI xs i = some v ∧ Q v H
noncomputable def rIxT (K : PySem.W.Frag) : R2 := fun x y H Q => ∃ p xs i v, x = .ref p ∧ y = .int i ∧ SqT K H p xs ∧ atI xs i = some v ∧ Q v H
noncomputable def rIxS : R2 := fun x y H Q => ∃ z i c, x = .str z ∧ y = .int i ∧ z.length ≤ sizeLine ∧ atI z.cps.toList i = some c ∧ Q (.str ⟨#[c]⟩) H
theorem ix_list : IxR X (rIxL X.K) := by
  intro value slice pins s σ H x y v u Q I rx ry h hs
  obtain ⟨p, xs, i, z, rfl, rfl, hq, he, q⟩ := h
  cases rx
  obtain ⟨t, rfl⟩ := ry
  obtain ⟨its, r, pl, hz⟩ := I.list hq
  obtain ⟨j, h1, h2, h3, h4, h5⟩ := atI_get he
  obtain ⟨w, ew, rw'⟩ := r.get h2
  have hl := r.length
  have hn := line63
  have fin : EP X pins σ Q w s := ⟨z, H, I, rw', q⟩
  by_cases h0 : 0 ≤ i
  · have hj : i.toNat = j := by
      rw [seqIndex_of h0 h5] at h1
      exact Option.some.inj h1
    exact item_listR pl.isList h0 (by omega) (by rw [hj]; simpa using ew) fin hs
  · have hj : (i + (its.toArray.size : Int)).toNat = j := by
      rw [seqIndex_neg (by omega) h4] at h1
      rw [List.size_toArray, ← hl]
      exact Option.some.inj h1
    exact subscriptTail_builtinR (x := w) pl.isList.typeIs slot_list_getitem.lookup
      (wpAny_getItem_list_neg (Q := fun r s' => r = w ∧ EP X pins σ Q r s') pl.isList (by omega) (by rw [List.size_toArray] <;> omega) (by omega) (by rw [hj]; simpa using ew) ⟨rfl, fin⟩) hs
theorem ix_tup : IxR X (rIxT X.K) := by
  intro value slice pins s σ H x y v u Q I rx ry h hs
  obtain ⟨p, xs, i, z, rfl, rfl, hq, he, q⟩ := h
  cases rx
  obtain ⟨t, rfl⟩ := ry
  obtain ⟨its, r, pl, hz⟩ := I.tuple hq
  obtain ⟨j, h1, h2, h3, h4, h5⟩ := atI_get he
  obtain ⟨w, ew, rw'⟩ := r.get h2
  have hl := r.length
  have hn := line63
  have fin : EP X pins σ Q w s := ⟨z, H, I, rw', q⟩
  exact subscriptTail_builtinR (x := w) pl.typeIs slot_tuple_getitem.lookup
    (getItem_tuple (j := j) (Q := fun r s' => r = w ∧ EP X pins σ Q r s') pl (by omega) (by omega) (by rw [List.size_toArray, ← hl]; exact h1) (by simpa using ew) ⟨rfl, fin⟩) hs
theorem ix_str : IxR X rIxS := by
  intro value slice pins s σ H x y v u Q I rx ry h hs
  obtain ⟨z, i, c, rfl, rfl, hz, he, q⟩ := h
  obtain ⟨t, rfl⟩ := rx
  obtain ⟨t', rfl⟩ := ry
  obtain ⟨j, h1, h2, h3, h4, h5⟩ := atI_get he
  have hl : z.cps.toList.length = z.length := by simp [Str.length]
  rw [hl] at h1 h4 h5
  have hn := line63
  exact tail_any (typeIs_str s z t) slot_str_getitem.lookup (getItem_str (c := c) (by
    have e1 : decide (i < -(2 ^ 63 : Int)) = false := decide_eq_false (by omega)
    have e2 : decide (i ≥ 2 ^ 63) = false := decide_eq_false (by omega)
    rw [e1, e2, Bool.or_false]) (by rw [h1]; simpa using h2) ⟨.str ⟨#[c]⟩, H, I.tok _, ⟨_, rfl⟩, q⟩) hs
noncomputable def rIx (K : PySem.W.Frag) : R2 := fun x y H Q => rIxL K x y H Q ∨ rIxT K x y H Q ∨ rIxS x y H Q
theorem ix_seq : IxR X (rIx X.K) := ix_list.or (ix_tup.or ix_str)
theorem mapSeq_set (its : List Value) (n j : Nat) (u : Value) : Obj.mapSeq (·.setIfInBounds j u) { cls := .type "list", data := .seq its.toArray n } = { cls := .type "list", data := .seq (its.set j u).toArray n } := by
  simp [Obj.mapSeq]
theorem Inv.lst {pins : List (Addr × Obj)} {σ : St} {H : Hp} {s : Shared} {p : Addr} {xs : List V} (I : Inv X pins σ H s) (h : H p = some (.lst xs)) :
    ∃ (its : List Value) (n : Nat), Vals xs its ∧ s.heap.get? p = some { cls := .type "list", data := .seq its.toArray n } ∧ xs.length ≤ sizeLine := by
  obtain ⟨z, its, n, r, e⟩ := I.hok p _ h
  exact ⟨its, n, r, e, z⟩
theorem Inv.lstUpd {pins : List (Addr × Obj)} {σ : St} {H : Hp} {s : Shared} {p : Addr} {xs ys : List V} {its its' : List Value} {n n' : Nat} {f : Obj → Obj} (I : Inv X pins σ H s) (h : H p = some (.lst xs))
    (ho : s.heap.get? p = some { cls := .type "list", data := .seq its.toArray n }) (hf : f { cls := .type "list", data := .seq its.toArray n } = { cls := .type "list", data := .seq its'.toArray n' }) (r : Vals ys its') (hz : ys.length ≤ sizeLine) (t : Nat) :
    Inv X pins σ (upd H p (.lst ys)) { s with heap := s.heap.update p f, toks := t } := by
  have e : (s.heap.update p f).get? p = some { cls := .type "list", data := .seq its'.toArray n' } := by
    rw [Heap.get?_update_self f ho (by rw [hf] <;> rfl), hf]
  refine I.write (x := p) (e := p) (by rw [h]; trivial) (.inl rfl) (fun b u hb q => (Heap.get?_update_other _ _ (Ne.symm hb)).trans q) ⟨_, e⟩ ?_
  exact ⟨hz, its', n', r, e⟩
noncomputable def rSetL : V → V → V → Hp → (Hp → Prop) → Prop := fun o i v H Q => ∃ p xs k j, o = .ref p ∧ i = .int k ∧ H p = some (.lst xs) ∧ ixN xs.length k = some j ∧ Q (upd H p (.lst (xs.set j v)))
theorem set_list : PSet X rSetL := by
  intro pins s σ H o i v ov iv u Q I ro ri rv h
  obtain ⟨p, xs, k, j, rfl, rfl, hp, hj, q⟩ := h
  cases ro
  obtain ⟨t, rfl⟩ := ri
  obtain ⟨its, n, r, ho, hz⟩ := I.lst hp
  obtain ⟨h1, h2, h3, h4⟩ := ixN_seq hj
  have hl := r.length
  have hn := line63
  have I' : Inv X pins σ (upd H p (.lst (xs.set j v))) { s with heap := s.heap.update p (Obj.mapSeq (·.setIfInBounds j u)) } :=
    I.lstUpd hp ho (mapSeq_set its n j u) (r.set rv j) (by rw [List.length_set]; exact hz) s.toks
  by_cases h0 : 0 ≤ k
  · have hk : k.toNat = j := by
      rw [seqIndex_of h0 h4] at h1
      exact Option.some.inj h1
    exact PySem.W.ki_setAt ho h0 (by omega) (by rw [List.size_toArray, ← hl]; exact h4) (by rw [hk]; exact ⟨_, I', q⟩)
  · have hk : (k + (its.toArray.size : Int)).toNat = j := by
      rw [seqIndex_neg (by omega) h3] at h1
      rw [List.size_toArray, ← hl]
      exact Option.some.inj h1
    exact PySem.W.ki_setBack ho (by omega) (by rw [List.size_toArray, ← hl]; exact h3) (by omega) (by rw [hk]; exact ⟨_, I', q⟩)
theorem slice_bounds (lo hi : Option Int) (n : Nat) : (sliceBounds lo hi none n).1 = ((HT.sIx n 0 lo : Nat) : Int) ∧ (sliceBounds lo hi none n).2.1 = ((HT.sIx n n hi : Nat) : Int) ∧ (sliceBounds lo hi none n).2.2 = 1 := by
  refine ⟨?_, ?_, rfl⟩
  · cases lo with
    | none => simp [sliceBounds, HT.sIx]
    | some i =>
      simp only [sliceBounds, HT.sIx, Option.getD_none, show (1 : Int) > 0 by decide, if_true]
      by_cases h : i < 0
      · simp only [h, if_true] <;> omega
      · simp only [h, if_false] <;> omega
  · cases hi with
    | none => simp [sliceBounds, HT.sIx]
    | some i =>
      simp only [sliceBounds, HT.sIx, Option.getD_none, show (1 : Int) > 0 by decide, if_true]
      by_cases h : i < 0
      · simp only [h, if_true] <;> omega
      · simp only [h, if_false] <;> omega
theorem slicePick_cut (its : List Value) (lo hi : Option Int) : slicePick its.toArray lo hi none = ((its.drop (HT.sIx its.length 0 lo)).take (HT.sIx its.length its.length hi - HT.sIx its.length 0 lo)).toArray := by
  obtain ⟨h1, h2, h3⟩ := slice_bounds lo hi its.toArray.size
  unfold slicePick
  rw [h1, h2, h3]
  simp only [sliceRange_one, pick_run, List.size_toArray] <;> rfl
noncomputable def rSlL (K : PySem.W.Frag) : V → Option Int → Option Int → Hp → VK → Prop := fun x lo hi H Q => ∃ a xs, x = .ref a ∧ SqL K H a xs ∧ ∀ p, H p = none → Q (.ref p) (upd H p (.lst (cutV xs lo hi)))
theorem sl_list : SlR X (rSlL X.K) := by
  intro pins s σ H x v vl vu lo hi sl Q I rx hs pl pu h
  obtain ⟨a, xs, rfl, hx, q⟩ := h
  cases rx
  obtain ⟨its, r, ht, hz⟩ := I.list hx
  have hlen := r.length
  refine ⟨"list", _, slot_list_getitem.lookup, ht.isList.typeIs, ?_⟩
  refine wpAny_getItem_list_slice ht.isList hs pl pu .none (by simp) ?_ (by rw [List.size_toArray] <;> omega)
  rw [slicePick_cut, ← hlen]
  refine ⟨.ref s.heap.objs.size, _, I.laid (t' := s.toks) (o := .lst (cutV xs lo hi)) (fun b ob q => Heap.get?_push_of_some _ q) (Nat.le_refl _) ?_, rfl, q _ (I.hok.fresh (Nat.le_refl _))⟩
  exact ⟨Nat.le_trans (cutV_length xs lo hi) hz, _, 0, (r.drop (HT.sIx xs.length 0 lo)).take (HT.sIx xs.length xs.length hi - HT.sIx xs.length 0 lo), Heap.get?_push_size _ rfl⟩
theorem op_notIn_str : OpR X (compareOp .NotIn) (fun x y H Q => ∃ i j, x = .str i ∧ y = .str j ∧ Q (.bl (!(!(Builtin.Str.occurrences j i 0 j.length 1).isEmpty))) H) := by
  intro pins s σ H x y v u Q I rx ry h
  obtain ⟨i, j, rfl, rfl, q⟩ := h
  obtain ⟨t, rfl⟩ := rx
  obtain ⟨t', rfl⟩ := ry
  exact notIn_str ⟨.bl _, H, I, rfl, q⟩
theorem call_len_seq : CallR X (.builtin "len") (fun xs H Q => ∃ p ys, xs = [.ref p] ∧ (SqL X.K H p ys ∨ SqT X.K H p ys) ∧ Q (.int ys.length) H) := by
  intro pins s σ H xs us Q I r h
  obtain ⟨p, ys, rfl, hq, q⟩ := h
  obtain ⟨u, rfl, rx⟩ := vals1 r
  cases rx
  have hn := line63
  rcases hq with hq | hq
  · obtain ⟨its, r', pl, hz⟩ := I.list hq
    have hlen := r'.length
    exact Calls.call_len_list pl.isList (by simp only [List.size_toArray] <;> omega) ⟨.int ys.length, H, I.tok _, ⟨s.toks + 1, by rw [List.size_toArray, hlen]⟩, q⟩
  · obtain ⟨its, r', pl, hz⟩ := I.tuple hq
    have hlen := r'.length
    exact len_tuple pl (by simp only [List.size_toArray] <;> omega) ⟨.int ys.length, H, I.tok _, ⟨s.toks + 1, by rw [List.size_toArray, hlen]⟩, q⟩
theorem call_len_str : CallR X (.builtin "len") (fun xs H Q => ∃ z, xs = [.str z] ∧ z.length ≤ sizeLine ∧ Q (.int z.length) H) := by
  intro pins s σ H xs us Q I r h
  obtain ⟨z, rfl, hz, q⟩ := h
  obtain ⟨u, rfl, t, rfl⟩ := vals1 r
  have hn := line63
  exact len_str (by omega) ⟨.int z.length, H, I.tok _, ⟨_, rfl⟩, q⟩
theorem call_list_of : CallR X (.type "list") (fun xs H Q => ∃ p ys, xs = [.ref p] ∧ (SqL X.K H p ys ∨ SqT X.K H p ys) ∧ ∀ l, H l = none → Q (.ref l) (upd H l (.lst ys))) := by
  intro pins s σ H xs us Q I r h
  obtain ⟨p, ys, rfl, hq, q⟩ := h
  obtain ⟨u, rfl, rx⟩ := vals1 r
  cases rx
  have fin : ∀ (its : List Value), Vals ys its → ys.length ≤ sizeLine → ∀ (h' : Heap) (c' : Nat), (∀ b o', s.heap.get? b = some o' → h'.get? b = some o') →
      h'.get? s.heap.objs.size = some { cls := .type "list", dict := none, data := .seq its.toArray c', slots := #[] } → EP X pins σ Q (.ref s.heap.objs.size) { s with heap := h' } := fun its r' hz h' c' kp e =>
    ⟨.ref s.heap.objs.size, _, I.laid (t' := s.toks) kp (Nat.le_refl _) (show ObjOk X.prog X.w _ h' _ (.lst ys) from ⟨hz, its, c', r', e⟩), rfl, q _ (I.hok.fresh (Nat.le_refl _))⟩
  rcases hq with hq | hq
  · obtain ⟨its, r', pl, hz⟩ := I.list hq
    have hlen := r'.length
    obtain ⟨o, ho, hc, n, hd⟩ := pl.isList
    exact call_list_seq p (.inl rfl) ho hc hd (fun h' c' kp e => fin its r' hz h' c' kp e) (by simp only [List.size_toArray] <;> omega)
  · obtain ⟨its, r', pl, hz⟩ := I.tuple hq
    have hlen := r'.length
    obtain ⟨o, ho, hc, n, hd⟩ := pl
    exact call_list_seq p (.inr rfl) ho hc hd (fun h' c' kp e => fin its r' hz h' c' kp e) (by simp only [List.size_toArray] <;> omega)
theorem call_tuple_of : CallR X (.type "tuple") (fun xs H Q => ∃ p ys, xs = [.ref p] ∧ ((SqL X.K H p ys ∧ ∀ l, H l = none → Q (.ref l) (upd H l (.tup ys))) ∨ (SqT X.K H p ys ∧ Q (.ref p) H))) := by
  intro pins s σ H xs us Q I r h
  obtain ⟨p, ys, rfl, h⟩ := h
  obtain ⟨u, rfl, rx⟩ := vals1 r
  cases rx
  rcases h with ⟨hq, q⟩ | ⟨hq, q⟩
  · obtain ⟨its, r', pl, hz⟩ := I.list hq
    have hlen := r'.length
    refine call_tuple_list pl.isList (fun h' kp => ?_) (by simp only [List.size_toArray] <;> omega)
    have I1 : Inv X pins σ H { s with heap := h' } := I.kept (t' := s.toks) kp
    have I2 : Inv X pins σ (upd H h'.objs.size (.tup ys)) { s with heap := h'.push { cls := .type "tuple", data := .seq its.toArray } } :=
      I1.laid (t' := s.toks) (fun b o e => Heap.get?_push_of_some _ e) (Nat.le_refl _) (show ObjOk X.prog X.w _ _ _ (.tup ys) from ⟨hz, its, r', IsTup.new _ _⟩)
    exact ⟨.ref h'.objs.size, _, I2, rfl, q _ (I1.hok.fresh (Nat.le_refl _))⟩
  · obtain ⟨its, r', pl, hz⟩ := I.tuple hq
    exact call_tuple_same pl ⟨.ref p, H, I, rfl, q⟩
noncomputable def tyV (K : PySem.W.Frag) (T : String) (x : V) (H : Hp) : Prop := match x with
  | .str _ => T = "str"
  | .int _ => T = "int"
  | .ref p => (T = "list" ∧ ∃ xs, SqL K H p xs) ∨ (T = "tuple" ∧ ∃ o, K.lookup p = some o ∧ o.cls = .type "tuple" ∧ o.dict = none) ∨
      (T = "dict" ∧ ((∃ kvs, H p = some (.dK kvs)) ∨ ∃ kvs, H p = some (.dT kvs))) ∨ (T = "set" ∧ ∃ S n, H p = some (.set S n))
  | _ => False
theorem tyV_is {pins : List (Addr × Obj)} {σ : St} {H : Hp} {s : Shared} {T : String} {x : V} {v : Value} (I : Inv X pins σ H s) (r : RelV x v) (ty : tyV X.K T x H) :
    s.TypeIs v T ∧ ∀ a, v = .ref a → ∃ ob, s.heap.get? a = some ob ∧ ob.dict = none := by
  cases x with
  | str z =>
    obtain ⟨t, rfl⟩ := r
    cases (show T = "str" from ty)
    exact ⟨typeIs_str s z t, fun _ e => nomatch e⟩
  | int i =>
    obtain ⟨t, rfl⟩ := r
    cases (show T = "int" from ty)
    exact ⟨typeIs_int s i t, fun _ e => nomatch e⟩
  | ref p =>
    cases r
    rcases ty with ⟨rfl, xs, hq⟩ | ⟨rfl, o, hk, hc, hd⟩ | ⟨rfl, hk⟩ | ⟨rfl, S, n, hk⟩
    · obtain ⟨its, _, pl, _⟩ := I.list hq
      refine ⟨pl.isList.typeIs, fun a e => ?_⟩
      cases e
      obtain ⟨o, n, e, c, hd, _⟩ := pl
      exact ⟨o, e, hd⟩
    · refine ⟨⟨o, I.kIn p o hk, hc⟩, fun a e => ?_⟩
      cases e
      exact ⟨o, I.kIn _ o hk, hd⟩
    · have z : ∃ o, s.heap.get? p = some o ∧ o.ExactDict := by
        rcases hk with ⟨kvs, hk⟩ | ⟨kvs, hk⟩
        · obtain ⟨_, _, _, _, o, _, _, e, ex, _⟩ := I.hok p _ hk
          exact ⟨o, e, ex⟩
        · obtain ⟨_, _, _, _, o, _, _, e, ex, _⟩ := I.hok p _ hk
          exact ⟨o, e, ex⟩
      obtain ⟨o, e, ex⟩ := z
      refine ⟨⟨o, e, ex.1⟩, fun a e2 => ?_⟩
      cases e2
      exact ⟨o, e, ex.2.1⟩
    · obtain ⟨o, _, _, _, e, ex, _⟩ := I.hok p _ hk
      refine ⟨⟨o, e, ex.1⟩, fun a e2 => ?_⟩
      cases e2
      exact ⟨o, e, ex.2.1⟩
  | _ => exact False.elim ty
noncomputable def tBM (K : PySem.W.Frag) (T : String) (r : V → List V → Hp → VK → Prop) (to : TE) (t : TA) : TE := fun σ H Q => to σ H fun x H1 => tyV K T x H1 ∧ t σ H1 fun xs H2 => r x xs H2 Q
variable {o e : Expr} {es : List Expr} {to : TE} {t : TA} {name : Str} {apos cpos : Pos} {T id : String} {r : V → List V → Hp → VK → Prop}
theorem pe_bm (pa : PlainAttrs T) (slot : Slot T name id) (hty : typeOf (.builtin id) = pure (.type "method_descriptor")) (hm : MtR X id r) (ho : PE X o to) (ha : PA X (e :: es) t)
    (hbase : attributeBase o name X.env (eval o X.env) = eval o X.env := by rfl)
    (hfew : ((backTo cpos (starEach (e :: es) X.env)).all (fun x => !x.1) && (backToKw cpos (keywordEach [] X.env)).all (fun x => x.1.isSome)
      && decide ((e :: es).length + ([] : List Keyword).length + (if ([] : List Keyword).isEmpty then 0 else 1) < 30)) = true := by rfl)
    (hline : (apos.endLine == cpos.line) = true := by rfl) (hs : starEach (e :: es) X.env = (false, eval e X.env) :: starEach es X.env := by rfl) (hplain : (backTo cpos (starEach es X.env)).any (·.1) = false := by rfl) :
    PE X (.Call (.Attribute o name apos) (e :: es) [] cpos) (tBM X.K T r to t) := by
  intro pins s σ H Q I h
  refine wpAny_Call_method_late hbase hfew hline rfl (thn (ho pins s σ H _ I h) fun v s1 qz9 => ?_)
  obtain ⟨x, H1, I1, r1, ty, q1⟩ := qz9
  obtain ⟨h1, h2⟩ := tyV_is I1 r1 ty
  refine ⟨T, id, pa, slot, hty, h1, h2, ?_⟩
  have hA := ha cpos pins s1 σ H1 _ I1 q1
  rw [hs] at hA ⊢
  refine Calls.callWith_builtin (by show (false || (backTo cpos (starEach es X.env)).any (·.1)) = false; rw [hplain] <;> rfl) (Calls.evalArgs_plain ?_)
  refine thn hA fun us s2 qz9 => ?_
  obtain ⟨vs, H2, I2, r2, q2⟩ := qz9
  exact hm pins s2 σ H2 x vs v us Q I2 r1 r2 q2
end
end L2
namespace L2
open PySem PySem.Spec PyProof.Rows
noncomputable def MtM (X : Cx) (id : String) (r : V → List V → Hp → VK → Prop) : Prop :=
  ∀ (pins : List (Addr × Obj)) (s : Shared) (σ : St) (H : Hp) (x : V) (xs : List V) (v : Value) (us : List Value) (Q : VK), Inv X pins σ H s → RelV x v → Vals xs us → r x xs H Q →
    wpAny (model X.prog X.w) X.A (call (.builtin id) (v :: us)) (EP X pins σ Q) X.xe s
theorem Vals.one {x : V} {us : List Value} (h : Vals [x] us) : ∃ u, us = [u] ∧ RelV x u := by
  cases h with
  | cons r t => cases t; exact ⟨_, rfl, r⟩
theorem Vals.zero : ∀ {us : List Value}, Vals [] us → us = []
  | _, .nil => rfl
section
variable {X : Cx} {pins : List (Addr × Obj)} {σ : St} {H : Hp} {s : Shared} {l b : Addr} {xs ys zs : List V}
theorem Inv.lset {its its' : List Value} {n : Nat} {f : Array Value → Array Value} {t' : Nat} (I : Inv X pins σ H s) (hH : H l = some (.lst xs))
    (e : s.heap.get? l = some { cls := .type "list", data := .seq its.toArray n }) (hf : f its.toArray = its'.toArray) (hv : Vals ys its') (hz : ys.length ≤ sizeLine) :
    Inv X pins σ (upd H l (.lst ys)) { s with heap := s.heap.update l (Obj.mapSeq f), toks := t' } := by
  have q := PySem.IsL.update e f
  rw [hf] at q
  refine I.write (x := l) (e := l) (by rw [hH]; exact trivial) (.inl rfl) (fun b' u hb hu => (Heap.get?_update_other s.heap (Obj.mapSeq f) (Ne.symm hb)).trans hu) ⟨_, q⟩ ?_
  exact ⟨hz, its', _, hv, q⟩
theorem Inv.lnew {its : List Value} {t' : Nat} (I : Inv X pins σ H s) (hv : Vals ys its) (hz : ys.length ≤ sizeLine) :
    Inv X pins σ (upd H s.heap.objs.size (.lst ys)) { s with heap := s.heap.push { cls := .type "list", data := .seq its.toArray }, toks := t' } :=
  I.laid (fun _ _ q => Heap.get?_push_of_some _ q) (Nat.le_refl _) ⟨hz, its, 0, hv, Heap.get?_push_size _ rfl⟩
theorem Inv.fresh (I : Inv X pins σ H s) : H s.heap.objs.size = none := I.hok.fresh (Nat.le_refl _)
theorem Inv.lstM (I : Inv X pins σ H s) (hH : H l = some (.lst xs)) : xs.length ≤ sizeLine ∧ ∃ (its : List Value) (n : Nat), Vals xs its ∧ xs.length = its.length ∧ s.heap.get? l = some { cls := .type "list", data := .seq its.toArray n } := by
  obtain ⟨z, its, n, r, e⟩ := I.hok l _ hH
  exact ⟨z, its, n, r, r.length, e⟩
end
section
variable {X : Cx}
noncomputable def rAppend : V → List V → Hp → VK → Prop := fun x vs H Q => ∃ l xs y, x = .ref l ∧ vs = [y] ∧ H l = some (.lst xs) ∧ xs.length < sizeLine ∧ Q .non (upd H l (.lst (xs ++ [y])))
theorem mt_append : MtM X "list.append" rAppend := by
  intro pins s σ H x vs v us Q I rx rv h
  obtain ⟨l, xs, y, rfl, rfl, hH, hz, q⟩ := h
  cases rx
  obtain ⟨u, rfl, ru⟩ := rv.one
  obtain ⟨z, its, n, r, hl, e⟩ := I.lstM hH
  refine call_meets F.slot_list_append ⟨_, e, rfl⟩ F.entry_list_append (F.args_list_append_2 _ _) (PySem.list_append l its.toArray n u (by rw [List.size_toArray]; omega)) ⟨e, ?_⟩
  refine ⟨.non, _, I.lset (its' := its ++ [u]) hH e (by simp) (r.append (.cons ru .nil)) ?_, rfl, q⟩
  rw [List.length_append, List.length_singleton]
  omega
end
section
variable {prog : Program} {w : World} {A : Around} {E : Value → Shared → Prop} {s : Shared}
end
section
variable {X : Cx}
end
end L2
namespace Att
open PySem PySem.W PySem.Calls PyProof.Rows
theorem ints_of_wellAll {P : Params} {h : Heap} : ∀ (ns : List Int) (vs : List Value), WellAll P h vs (ns.map WData.int) → IntsAre vs ns := by
  intro ns
  induction ns with
  | nil =>
    intro vs w
    rw [List.map_nil] at w
    cases w
    exact .nil
  | cons n ns ih =>
    intro vs w
    rw [List.map_cons] at w
    cases w with
    | cons a b =>
      cases a
      exact .cons _ _ (ih _ b)
theorem script_of {l : OpenLaw} {n : Nat} (hn : l.most = some n) {P : Params} {h : Heap} {args : List WData} {vals : List Value}
    (hpre : l.row.toRowW.claim.pre args = true) (hwl : WellAll P h vals args) :
    ∃ a vs ns, vals = [Value.ref a] ∧ args = [WData.list (ns.map WData.int)] ∧ h.get? a = some { cls := .type "list", data := .seq vs.toArray } ∧ IntsAre vs ns ∧ ns.length ≤ n := by
  have hsh : WShape.hasAll [] args [.list .int] = true := (pre_splitW hpre).1
  have hc : l.pre.holds [] { args := args } = true := (pre_splitW hpre).2
  obtain ⟨d, r, rfl, h1, h2⟩ := hasAllW_cons hsh
  obtain rfl := hasAllW_nil h2
  obtain ⟨xs, rfl, h3⟩ := hasW_list h1
  obtain ⟨ns, rfl⟩ := items_int h3
  have hlen : ns.length ≤ n := by
    unfold OpenLaw.pre at hc
    have h4 : (WTm.not (.lt (.lit (.int (n : Int))) (.len (.arg 0)))).holds [] { args := [.list (ns.map .int)] } = true := by
      have h4 := (holds_andW hc).1
      rw [hn] at h4
      exact h4
    have h5 := condW_of h4 (w_not (w_lt w_lit (w_len_list (w_arg rfl))))
    rw [List.length_map] at h5
    refine Nat.le_of_not_lt fun q => ?_
    have q' : (n : Int) < ((ns.length : Nat) : Int) := by omega
    first
      | (rw [decide_eq_true q'] at h5; exact absurd h5 (by decide))
      | (simp at h5; omega)
  cases hwl with
  | cons w1 w2 =>
    cases w2
    cases w1 with
    | list ho hall => exact ⟨_, _, ns, rfl, rfl, ho, ints_of_wellAll ns _ hall, hlen⟩
theorem post_true (l : OpenLaw) (args : List WData) : l.row.toRowW.claim.post args (.bool true) args = true :=
  postW_of (r := l.row.toRowW) (X := (true == true))
    (show WShape.has [] (.bool true) .bool = true by first | rfl | decide | simp [WShape.has, WShape.arms, WShape.armsAll])
    (show (WTm.eq .res (.lit (.bool true))).value [] { args := args, res := some (.bool true), after := args } = some (.bool (true == true)) from w_eq_bool (w_res rfl) w_lit) rfl
theorem attach_call {l : OpenLaw} {n : Nat} {q : Program} {loose : List Str} {XP : (Str → Option Value) → Heap → Prop} {YP : World → Heap → Prop} {d : DefRec}
    (hn : l.most = some n) (hdf : d.params.defaults = [])
    (call : ∀ (w : World) (s₀ s₁ : Shared) (mg mb : Str → Option Value) (fa : Addr) (o : Obj) (pm cd doc : Value) (a : Addr) (vs : List Value) (ns : List Int),
      Ground q loose [] XP w s₀ mg mb s₁.heap → YP w s₁.heap →
      s₁.heap.get? fa = some o → o.data = .func (docDef d.name d.params d.body d.scope pm cd doc) → s₁.heap.CodeRec cd d.name → mg d.name = some (.ref fa) →
      s₁.heap.get? a = some { cls := .type "list", data := .seq vs.toArray } → IntsAre vs ns → ns.length ≤ n → s₁.gens = #[] →
      codeAny (model l.prog w) callerA (.call (.ref fa) ⟨[.ref a], []⟩) (fun r s' => r = .ok (.ret (.bool true)) ∧ OldK s₁.heap s'.heap ∧ s'.os = s₁.os ∧ AllBare s'.gens) s₁) :
    WalkO q loose XP YP l.row.toRowW d [] (fun f vs => PySem.call f vs) := by
  intro w s₀ s₁ mg mb G Y fa o pm cd doc dV kV ho hd hcd hD hmg hg args vals as hpre hlay hrd hwl hlo
  obtain rfl : dV = .none := Dflts.none hD hdf
  obtain rfl : kV = .none := Dflts.noKw hD
  obtain ⟨a, vs, ns, rfl, rfl, hobj, hints, hlen⟩ := script_of hn hpre hwl
  refine enter_call (codeAny_mono (call w s₀ s₁ mg mb fa o pm cd doc a vs ns G Y ho (fd_plain hd) hcd hmg hobj hints hlen hg) fun r s' hq => ?_)
  obtain ⟨rfl, h2, h3, h4⟩ := hq
  exact ⟨.inl ⟨.bool true, .bool true, [], rfl, fun _ => rfl, .bool true, post_true l _, fun _ => ⟨List.Pairwise.nil, fun _ hm => (nomatch hm)⟩⟩, h2, h3, h4⟩
section
variable {prog : Program} {w : World} {A : Around} {E : Value → Shared → Prop} {s : Shared} {K : Frag}
end
end Att
namespace L2
open PySem PySem.Spec PyProof.Rows
theorem vals_ints {vs : List Value} {ns : List Int} (h : IntsAre vs ns) : Vals (ns.map V.int) vs := by
  induction h with
  | nil => exact .nil
  | cons n t h ih => exact .cons ⟨t, rfl⟩ ih
noncomputable def Only (H : Hp) : Prop := ∀ b, H b = none ∨ ∃ o xs, H b = some (.frz o (.lst xs))
theorem law_call {P : Program} {w : World} {K : PySem.W.Frag} {mg mb : Str → Option Value} {CX : CXT} {k : Nat} {fa a : Addr} {fd : FuncData} {x : Str} {sp : Sp} {s₁ : Shared} {vs : List Value} {ns : List Int}
    (KX : K.In s₁.heap) (hns : s₁.heap.Ns mainGlobals mg) (hb : s₁.heap.Ns builtinsNs mb) (hbb : ∀ x : Str, x ≠ "__name__" → mb x = bootBuiltins x) (hlim : s₁.heap.NoLimit) (hg : s₁.gens = #[])
    (ha : s₁.heap.get? a = some { cls := .type "list", data := .seq vs.toArray }) (hi : IntsAre vs ns) (hl : ns.length ≤ sizeLine) (hr : Room k callerA)
    (F : ∀ base : Heap, K.In base → base.Ns mainGlobals mg → FnOk P w K mg base CX k fa fd [x] sp) (hbind : ∀ (s : Shared) (u : Value), BindsTo s fd ⟨[u], []⟩ [(x, u)])
    (hsp : ∀ H : Hp, Only H → SqL K H a (ns.map V.int) → sp [.ref a] H (fun v _ => v = .bl true) fun _ _ _ => False)
    (hCX : ∀ H e s', CX [] H s₁ (fun _ _ _ => False) e s' → False) :
    codeAny (model P w) callerA (.call (.ref fa) ⟨[.ref a], []⟩) (fun r s' => r = .ok (.ret (.bool true)) ∧ OldK s₁.heap s'.heap ∧ s'.os = s₁.os ∧ AllBare s'.gens) s₁ := by
  have rv := vals_ints hi
  have lenV := hi.length
  -- from an abstract heap in which nothing but the script may be tracked
  have core : ∀ H : Hp, Only H → SqL K H a (ns.map V.int) → HOk P w H s₁.heap → (∀ b, H b ≠ none → b = a) → (H a ≠ none → K.lookup a = none) →
      codeAny (model P w) callerA (.call (.ref fa) ⟨[.ref a], []⟩) (fun r s' => r = .ok (.ret (.bool true)) ∧ OldK s₁.heap s'.heap ∧ s'.os = s₁.os ∧ AllBare s'.gens) s₁ := by
    intro H hO hS hok hA hK
    have base_of : ∀ {b : Addr} {o : Obj}, s₁.heap.get? b = some o → H b = none → (hidT s₁.heap H).get? b = some o := fun e n => hidT_get e n
    have noA : ∀ {b : Addr} {o : Obj} {es : Array DictEntry} {ep : Nat}, s₁.heap.get? b = some o → o.data = .dict es ep → H b = none := fun {b o es ep} e d => by
      cases q : H b with
      | none => rfl
      | some u =>
        have e' : b = a := hA b (by rw [q]; simp)
        subst e'
        rw [ha] at e; cases e
        have d' : Data.seq vs.toArray _ = Data.dict es ep := d
        cases d'
    have nsK : ∀ {b : Addr} {m : Str → Option Value}, s₁.heap.Ns b m → (hidT s₁.heap H).Ns b m := fun {b m} ⟨o, es, ep, e, d, r⟩ => ⟨o, es, ep, base_of e (noA e d), d, r⟩
    have hKb : K.In (hidT s₁.heap H) := fun b o e => base_of (KX b o e) (by
      cases q : H b with
      | none => rfl
      | some u =>
        have e' : b = a := hA b (by rw [q]; simp)
        subst e'
        rw [hK (by rw [q]; simp)] at e; cases e)
    have hM : Mod K mg (hidT s₁.heap H) := ⟨hKb, nsK hns, ⟨mb, nsK hb, hbb⟩, let ⟨mc, h1, h2⟩ := hlim; ⟨mc, nsK h1, h2⟩⟩
    have e0 : Env0 P w K mg (hidT s₁.heap H) callerA [] s₁ H := ⟨rfl, hM, fun b o e => of_hidT e, Nat.le_of_eq (hidT_size _ _), trivial, fun b hb => absurd (show b ∈ ([] : List Addr) from hb) (by simp), hok, .of_eq hg⟩
    refine codeAny_mono ((F _ hKb (nsK hns)).run callerA [] s₁ H ⟨[.ref a], []⟩ [.ref a] [.ref a] _ _ hr e0 (hbind s₁ (.ref a)) (.cons rfl .nil) (hsp H hO hS)) fun r s' h => ?_
    cases r with
    | error e => exact (hCX H e s' h).elim
    | ok fl =>
      cases fl with
      | next => exact False.elim h
      | brk => exact False.elim h
      | cont => exact False.elim h
      | ret u =>
        obtain ⟨v, H', os, bare, un, hok', r', q⟩ := h
        have q' : v = .bl true := q
        subst q'
        obtain rfl : u = Value.bool true := r'
        refine ⟨rfl, OldK.of_keep fun b o e => ?_, os, bare⟩
        cases q : H b with
        | none => exact un.keep b o e q (by intro z; exact absurd (show b ∈ ([] : List Addr) from z) (by simp)) (by simp)
        | some u =>
          rcases hO b with z | ⟨ob, xs, z⟩
          · rw [q] at z; cases z
          · have z2 := un.frzs b ob _ z
            obtain ⟨e1, _⟩ := hok b _ z
            obtain ⟨e2, _⟩ := hok' b _ z2
            rw [e] at e1; cases e1
            exact e2
  cases hk : K.lookup a with
  | some o =>
    -- the script is one of the module's own objects
    have e := KX a o hk
    rw [ha] at e
    cases e
    refine core (fun _ => none) (fun _ => .inl rfl) (.inr ⟨_, vs.toArray, _, hk, rfl, rfl, rfl, by rw [List.size_toArray, lenV]; exact hl, by simpa using rv⟩) (fun b u z => by have z' : (none : Option HO) = some u := z; cases z') (fun b z => absurd rfl z) fun z => absurd rfl z
  | none =>
    refine core (fun b => if b = a then some (.frz { cls := .type "list", data := .seq vs.toArray } (.lst (ns.map V.int))) else none) (fun b => ?_) (.inl (.inr ⟨{ cls := .type "list", data := .seq vs.toArray }, if_pos rfl⟩)) (fun b u z => ?_) (fun b z => ?_) fun _ => hk
    · by_cases hb : b = a
      · exact .inr ⟨_, _, if_pos hb⟩
      · exact .inl (if_neg hb)
    · by_cases hb : b = a
      · have z' := (if_pos hb).symm.trans z
        cases z'
        subst hb
        exact ⟨ha, by rw [List.length_map]; exact hl, vs, _, rv, ha⟩
      · have z' := (if_neg hb).symm.trans z
        cases z'
    · by_cases hb : b = a
      · exact hb
      · exact absurd (if_neg hb) z
end L2
namespace L2
open PySem PySem.Spec PyProof.Rows
noncomputable abbrev KOf {K : PySem.W.Frag} {h : Heap} (_ : K.In h) : PySem.W.Frag := K
theorem walk_of {l : PySem.W.OpenLaw} {n k : Nat} {q : Program} {loose : List Str} {XP : (Str → Option Value) → Heap → Prop} {YP : World → Heap → Prop} {d : DefRec} {K : Params → PySem.W.Frag} {CX : World → CXT} {sp : World → Sp} {x : Str}
    (hn : l.most = some n) (hn2 : n ≤ sizeLine) (hdf : d.params.defaults = []) (hr : Room k callerA)
    (hY : ∀ (w : World) (h : Heap), YP w h → (K w.params).In h)
    (F : ∀ (w : World) (mg : Str → Option Value) (fa : Addr) (h : Heap), (K w.params).In h → h.Ns mainGlobals mg → mg d.name = some (.ref fa) →
      ∃ fd : FuncData, (∀ (s : Shared) (u : Value), BindsTo s fd ⟨[u], []⟩ [(x, u)]) ∧
        ∀ base : Heap, (K w.params).In base → base.Ns mainGlobals mg → FnOk l.prog w (K w.params) mg base (CX w) k fa fd [x] (sp w))
    (hsp : ∀ (w : World) (H : Hp) (a : Addr) (ns : List Int), ns.length ≤ n → Only H → SqL (K w.params) H a (ns.map V.int) → sp w [.ref a] H (fun v _ => v = .bl true) fun _ _ _ => False)
    (hCX : ∀ (w : World) (H : Hp) (s : Shared) (e : Value) (s' : Shared), CX w [] H s (fun _ _ _ => False) e s' → False) :
    PySem.W.WalkO q loose XP YP l.row.toRowW d [] (fun f vs => PySem.call f vs) := by
  refine Att.attach_call hn hdf fun w s₀ s₁ mg mb fa o pm cd doc a vs ns G Y ho hd hcd hmg hobj hints hlen hg => ?_
  have KX := hY w _ Y
  obtain ⟨fd, hb, hF⟩ := F w mg fa _ KX G.T.g hmg
  exact law_call KX G.T.g G.T.b G.T.builtins G.T.nolimit hg hobj hints (Nat.le_trans hlen hn2) hr hF hb (fun H hO hS => hsp w H a ns hlen hO hS) fun H e s' => hCX w H s₁ e s'
end L2
namespace L2
open PySem PySem.Spec PyProof.Rows
noncomputable def defArgs (s : Stmt) : Arguments := match s with
  | .FunctionDef _ a _ _ _ _ _ _ _ _ => a
  | _ => { posonlyargs := [], args := [], vararg := none, kwonlyargs := [], kw_defaults := [], kwarg := none, defaults := [] }
noncomputable def defBody (s : Stmt) : List Stmt := match s with
  | .FunctionDef _ _ b _ _ _ _ _ _ _ => b
  | _ => []
noncomputable def defScope (s : Stmt) : Scope := match s with
  | .FunctionDef _ _ _ _ _ _ sc _ _ _ => sc
  | _ => { kind := .function, names := [], isGenerator := false, isCoroutine := false }
noncomputable abbrev CX0 : CXT := fun _ _ _ _ _ _ => False
noncomputable abbrev E0 : XK := fun _ _ _ => False
theorem pass0 {X : Cx} : Passes CX0 X E0 := fun _ _ _ _ _ _ _ h => h.elim
structure Fun (K : PySem.W.Frag) (x qual : Str) (st : Stmt) (f : Addr) (fd : FuncData) : Prop where
  ex : ∃ (oc : Value) (od : Option Addr) (kV doc pm : Value) (an : Option Addr) (cdv ct : Value) (osl : Array (Option Value)),
    fd = PySem.W.fnOf x qual (defArgs st) (defBody st) (defScope st) .none kV doc pm an cdv ct ∧ K.lookup f = some ⟨oc, od, .func fd, osl⟩ ∧ PySem.W.codeIn K cdv qual = true
  kp : PySem.W.keepIn K (.ref f) = true
section
variable {P : Program} {w : World} {K : PySem.W.Frag} {mg : Str → Option Value} {base : Heap}
theorem Fun.ok {x qual : Str} {st : Stmt} {f : Addr} {fd : FuncData} {N ps : List Str} {k : Nat} {sp : Sp} (F : Fun K x qual st f fd) (S : FnScope N ps (defScope st)) (len : ∀ vs H Q E, sp vs H Q E → vs.length = ps.length)
    (hbody : ∀ (cdv : Value) (A : Around) (outer : List Env) (s : Shared) (H : Hp) (vs : List V) (Q : VK) (E : XK), Room k (A.deeper (envOfC qual (defScope st) s.heap.objs.size f cdv)) → sp vs H Q E →
      ∃ t, PSs (cxOf CX0 P w K mg base N qual (defScope st) f cdv A outer s H E).nox (defBody st) t ∧ t { nx := fun _ H' => Q .non H', rt := Q } (start N vs) H) : FnOk P w K mg base CX0 (k + 1) f fd ps sp := by
  obtain ⟨oc, od, kV, doc, pm, an, cdv, ct, osl, rfl, lk, hcd⟩ := F.ex
  refine fn_of lk hcd S len fun A outer s H vs Q E hr hsp => ?_
  obtain ⟨t, h, q⟩ := hbody cdv A outer s H vs Q E hr hsp
  exact ⟨t, h.nox, q⟩
theorem Fun.binds {x qual : Str} {st : Stmt} {f : Addr} {fd : FuncData} {ps : List Str} (F : Fun K x qual st f fd)
    (h : ∀ (kV doc pm : Value) (an : Option Addr) (cdv ct : Value) (us : List Value), us.length = ps.length → bindArgs (PySem.W.fnOf x qual (defArgs st) (defBody st) (defScope st) .none kV doc pm an cdv ct) ⟨us, []⟩ = pure (ps.zip us)) : Binds K fd ps [] := by
  obtain ⟨oc, od, kV, doc, pm, an, cdv, ct, osl, rfl, lk, hcd⟩ := F.ex
  exact .all (h kV doc pm an cdv ct)
theorem fun_mk {x qual : Str} {st : Stmt} {f : Addr} {oc : Value} {od an : Option Addr} {osl : Array (Option Value)} {kV doc pm cdv ct : Value} (l : K.lookup f = some ⟨oc, od, .func (PySem.W.fnOf x qual (defArgs st) (defBody st) (defScope st) .none kV doc pm an cdv ct), osl⟩)
    (c : PySem.W.codeIn K cdv qual = true) (k : PySem.W.keepIn K (.ref f) = true) : Fun K x qual st f (PySem.W.fnOf x qual (defArgs st) (defBody st) (defScope st) .none kV doc pm an cdv ct) := ⟨⟨oc, od, kV, doc, pm, an, cdv, ct, osl, rfl, l, c⟩, k⟩
end
section
variable {X : Cx}
theorem pv (i : Nat) {x : Str} {pos : Pos} (hN : X.N[i]? = some x := by rfl) (hv : Vis X.env.scope x := by first | exact Or.inl rfl | exact Or.inr (Or.inl rfl) | exact Or.inr (Or.inr rfl)) (hd : (x == ("__debug__" : Str)) = false := by decide)
    (hcd : (x == ("__classdict__" : Str)) = false := by decide) : PE X (.Name x pos) (tVar i) := pe_var hN hv hd hcd
end
noncomputable def Same (H H' : Hp) : Prop := ∀ b o, H b = some o → H' b = some o
theorem Same.refl (H : Hp) : Same H H := fun _ _ h => h
theorem Same.trans {H H1 H2 : Hp} (a : Same H H1) (b : Same H1 H2) : Same H H2 := fun c o h => b c o (a c o h)
theorem Same.free {H H' : Hp} (e : Same H H') {l : Addr} (h : H' l = Option.none) : H l = Option.none := by
  cases q : H l with
  | none => rfl
  | some o =>
    rw [e l o q] at h
    cases h
end L2
set_option maxHeartbeats 4000000
namespace L2
open PySem PySem.Spec PyProof.Rows
noncomputable def Bt (n : Nat) (x : Int) : Prop := x.natAbs < 2 ^ n
theorem Bt.neg {m : Nat} {x : Int} (h : Bt m x) : Bt m (-x) := by
  unfold Bt at *
  rw [Int.natAbs_neg]
  exact h
theorem Bt.of_le {m : Nat} {x y : Int} (h : Bt m x) (k : y.natAbs ≤ x.natAbs) : Bt m y := Nat.lt_of_le_of_lt k h
theorem Bt.of_lt {m : Nat} {x : Int} (h1 : -(2 ^ m) < x) (h2 : x < 2 ^ m) : Bt m x := by
  unfold Bt
  have e : ((2 ^ m : Nat) : Int) = 2 ^ m := by simp
  omega
noncomputable def DivOk (_ j : Int) : Prop := j ≠ 0 ∧ j.natAbs.log2 < 9000
theorem DivOk.of {i j : Int} {n : Nat} (h0 : j ≠ 0) (h : Bt n j) (hn : n ≤ 9000 := by decide) : DivOk i j := by
  refine ⟨h0, ?_⟩
  have hp : j.natAbs ≠ 0 := by omega
  have := (Nat.log2_lt hp).mpr h
  omega
section
variable {X : Cx}
theorem op_mulG : OpR X (binaryOp .Mult) (rI IntMulOk fun i j => .int (i * j)) := opI fun _ _ _ _ _ _ _ hc q => mul_int q hc
theorem op_fdivG : OpR X (binaryOp .FloorDiv) (rI DivOk fun i j => .int (i.fdiv j)) := opI fun _ _ _ _ _ _ _ hc q => floordiv_int hc.1 q (.inl (PyProof.noPylong_of_log2 hc.2))
theorem op_powG : OpR X (binaryOp .Pow) (rI CPow fun i j => .int (i ^ j.toNat)) := op_pow
end
theorem compTurn_list' (elt target iter : Expr) (ifs : List Expr) (scope : Scope) (pos : Pos) (it acc : Value) (env : Env) :
    compTurn (.ListComp elt [⟨target, iter, ifs, 0⟩] scope pos) 0 it acc env = (standAt iter.pos >>= fun _ => pyNext it >>= fun r => match r with
      | none => pure (.done .next)
      | some v => letOwnedTupleGo target it v >>= fun _ => assign target env v >>= fun _ =>
        (forIn ifs true fun c r => if r = true then do let ok ← isTrue c env (eval c env); pure (ForInStep.yield ok) else pure (ForInStep.yield r)) >>= fun ok =>
          if ok = true then ((eval elt env >>= fun x => call (.builtin "list.append") [acc, x] >>= fun _ => pure ()) >>= fun _ =>
            again (.compLoop (.ListComp elt [⟨target, iter, ifs, 0⟩] scope pos) 0 it acc env))
          else again (.compLoop (.ListComp elt [⟨target, iter, ifs, 0⟩] scope pos) 0 it acc env)) := by rfl
end L2
namespace L2
open PySem PySem.Spec PyProof.Rows
theorem compLoop_any {prog : Program} {w : World} {A : Around} {R : Result → Shared → Prop} {s : Shared} {elt target iter : Expr} {ifs : List Expr} {scope : Scope} {pos : Pos} {it acc : Value} {env : Env} (I : Nat → Shared → Prop)
    (turn : ∀ n s, I n s → wpAny (model prog w) A (pyNext it) (fun r s₁ => match r with
      | none => R (.ok .next) s₁
      | some v => wpAny (model prog w) A (letOwnedTupleGo target it v) (fun _ s₁ => wpAny (model prog w) A (assign target env v) (fun _ s₂ =>
          wpAny (model prog w) A (forIn ifs true fun c r => if r = true then do let ok ← isTrue c env (eval c env); pure (ForInStep.yield ok) else pure (ForInStep.yield r)) (fun ok s₃ =>
            if ok = true then wpAny (model prog w) A (eval elt env) (fun x s₄ =>
              wpAny (model prog w) A (call (.builtin "list.append") [acc, x]) (fun _ s₅ => ∃ m, m < n ∧ I m s₅) (notedBy (model prog w) A env fun e s' => R (.error e) s') s₄) (notedBy (model prog w) A env fun e s' => R (.error e) s') s₃
            else ∃ m, m < n ∧ I m s₃) (notedBy (model prog w) A env fun e s' => R (.error e) s') s₂) (notedBy (model prog w) A env fun e s' => R (.error e) s') s₁) (notedBy (model prog w) A env fun e s' => R (.error e) s') s₁) (notedBy (model prog w) A env fun e s' => R (.error e) s') s)
    (n : Nat) (h : I n s) :
    codeAny (model prog w) A (.compLoop (.ListComp elt [⟨target, iter, ifs, 0⟩] scope pos) 0 it acc env) R s := by
  refine codeAny_loop rfl I (fun n s hI => ?_) n h
  show wpAny _ A ((compTurn (.ListComp elt [⟨target, iter, ifs, 0⟩] scope pos) 0 it acc env).onRaise (fun x => do noteFrame x env; theTreesLotGoes x)) _ _ s
  refine wpAny_noted ?_
  rw [compTurn_list']
  refine wpAny_bind (wpAny_standAt (wpAny_bind (wpAny_mono (turn n s hI) (fun r s₁ h₁ => ?_) fun _ _ h' => h')))
  cases r with
  | none => exact wpAny_pure h₁
  | some v =>
    refine wpAny_bind (wpAny_mono h₁ (fun _ s₂ h₂ => ?_) fun _ _ h' => h')
    refine wpAny_bind (wpAny_mono h₂ (fun _ s₂ h₂ => wpAny_bind (wpAny_mono h₂ (fun ok s₃ h₃ => ?_) fun _ _ h' => h')) fun _ _ h' => h')
    cases ok with
    | false => exact wpAny_pure ⟨rfl, h₃⟩
    | true =>
      exact wpAny_bind (wpAny_bind (wpAny_mono h₃ (fun x s₄ h₄ => wpAny_bind (wpAny_mono h₄ (fun _ s₅ h₅ => wpAny_pure (wpAny_pure ⟨rfl, h₅⟩)) fun _ _ h' => h')) fun _ _ h' => h'))
noncomputable def clOf (env : Env) : List (Str × NameKind) → List (Str × Addr) → List (Str × Addr)
  | [], acc => acc
  | (n, k) :: r, acc => if k == .free then clOf env r ((n, (env.cells.lookup n).getD 0) :: acc) else clOf env r acc
theorem forIn_cl {env : Env} : ∀ (names : List (Str × NameKind)) (acc : List (Str × Addr)), (∀ y ∈ names, y.2 = .free → ∃ c, env.cells.lookup y.1 = some c) →
    (forIn names acc (fun (y : Str × NameKind) cs => (if y.2 == .free then (cellOf env y.1 >>= fun c => pure (ForInStep.yield ((y.1, c) :: cs))) else pure (ForInStep.yield cs) : Sem (ForInStep (List (Str × Addr)))))) = pure (clOf env names acc)
  | [], acc, _ => by rw [List.forIn_nil]; rfl
  | (n, k) :: r, acc, h => by
    by_cases hk : k = .free
    · subst hk
      obtain ⟨c, hc⟩ := h (n, .free) (.head _) rfl
      have hc' : env.cells.lookup n = some c := hc
      have e := forIn_cl (env := env) r ((n, c) :: acc) fun y hy => h y (.tail _ hy)
      have ec : cellOf env n = pure c := by
        unfold cellOf
        rw [hc']
      rw [List.forIn_cons]
      simp only [beq_self_eq_true, if_true]
      rw [ec]
      simp only [clOf, beq_self_eq_true, if_true, hc', Option.getD_some]
      exact e
    · have e := forIn_cl (env := env) r acc fun y hy => h y (.tail _ hy)
      have hb : (k == NameKind.free) = false := by simpa using hk
      rw [List.forIn_cons]
      simp only [clOf, hb, Bool.false_eq_true, if_false]
      exact e
theorem closureFor_all {scope : Scope} {env : Env} (h : ∀ y ∈ scope.names, y.2 = .free → ∃ c, env.cells.lookup y.1 = some c) : closureFor scope env = pure (clOf env scope.names []) := by
  have e := forIn_cl scope.names [] h
  have e' : (forIn scope.names ([] : List (Str × Addr)) (fun (y : Str × NameKind) cs => (match y with | (name, kind) => do
      if kind == .free then do let a ← cellOf env name; pure (ForInStep.yield ((name, a) :: cs)) else pure (ForInStep.yield cs) : Sem (ForInStep (List (Str × Addr)))))) = pure (clOf env scope.names []) := e
  exact congrArg (fun (m : Sem (List (Str × Addr))) => m >>= fun x => pure x) e'
theorem clOf_mem {env : Env} : ∀ (names : List (Str × NameKind)) (acc : List (Str × Addr)), (∀ y ∈ names, y.2 = .free → ∃ c, env.cells.lookup y.1 = some c) →
    ∀ n c, (n, c) ∈ clOf env names acc → (n, c) ∈ acc ∨ ((n, NameKind.free) ∈ names ∧ env.cells.lookup n = some c)
  | [], acc, _, n, c, h => .inl h
  | (m, k) :: r, acc, h, n, c, hm => by
    by_cases hk : k = .free
    · subst hk
      obtain ⟨d, hd⟩ := h (m, .free) (.head _) rfl
      have hd' : env.cells.lookup m = some d := hd
      simp only [clOf, beq_self_eq_true, if_true, hd', Option.getD_some] at hm
      rcases clOf_mem r _ (fun y hy => h y (.tail _ hy)) n c hm with z | ⟨z1, z2⟩
      · rcases List.mem_cons.mp z with z | z
        · cases z; exact .inr ⟨.head _, hd'⟩
        · exact .inl z
      · exact .inr ⟨.tail _ z1, z2⟩
    · have hb : (k == NameKind.free) = false := by simpa using hk
      simp only [clOf, hb, Bool.false_eq_true, if_false] at hm
      refine (clOf_mem r _ (fun y hy => h y (.tail _ hy)) n c hm).imp id fun qz9 => ?_
      obtain ⟨z1, z2⟩ := qz9
      exact ⟨.tail _ z1, z2⟩
theorem clOf_old {env : Env} : ∀ (names : List (Str × NameKind)) (acc : List (Str × Addr)), ∀ p ∈ acc, p ∈ clOf env names acc
  | [], _, _, h => h
  | (m, k) :: r, acc, p, h => by
    unfold clOf
    split
    · exact clOf_old r _ p (.tail _ h)
    · exact clOf_old r _ p h
theorem clOf_has {env : Env} : ∀ (names : List (Str × NameKind)) (acc : List (Str × Addr)) (n : Str), (n, NameKind.free) ∈ names → ∃ c, (n, c) ∈ clOf env names acc
  | [], _, _, h => nomatch h
  | (m, k) :: r, acc, n, h => by
    rcases List.mem_cons.mp h with z | z
    · cases z
      exact ⟨_, by
        simp only [clOf, beq_self_eq_true, if_true]
        exact clOf_old _ _ _ (.head _)⟩
    · unfold clOf
      split
      · exact clOf_has r _ n z
      · exact clOf_has r _ n z
theorem clOf_apart {env : Env} (inj : ∀ x y c, env.cells.lookup x = some c → env.cells.lookup y = some c → x = y) : ∀ (names : List (Str × NameKind)) (acc : List (Str × Addr)),
    (∀ y ∈ names, y.2 = .free → ∃ c, env.cells.lookup y.1 = some c) → (names.map (·.1)).Nodup → (∀ p ∈ acc, env.cells.lookup p.1 = some p.2) → (∀ p ∈ acc, p.1 ∉ names.map (·.1)) → (acc.Pairwise fun x y => x.2 ≠ y.2) →
    (clOf env names acc).Pairwise fun x y => x.2 ≠ y.2
  | [], _, _, _, _, _, h => h
  | (m, k) :: r, acc, hf, hn, ha, hd, hp => by
    rw [List.map_cons, List.nodup_cons] at hn
    have hf' : ∀ y ∈ r, y.2 = .free → ∃ c, env.cells.lookup y.1 = some c := fun y hy => hf y (.tail _ hy)
    have hd' : ∀ p ∈ acc, p.1 ∉ r.map (·.1) := fun p hp z => hd p hp (by rw [List.map_cons]; exact .tail _ z)
    by_cases hk : k = .free
    · subst hk
      obtain ⟨d, hd0⟩ := hf (m, .free) (.head _) rfl
      have hd1 : env.cells.lookup m = some d := hd0
      simp only [clOf, beq_self_eq_true, if_true, hd1, Option.getD_some]
      refine clOf_apart inj r _ hf' hn.2 (fun p hp' => ?_) (fun p hp' => ?_) (List.pairwise_cons.mpr ⟨fun p hp' z => ?_, hp⟩)
      · rcases List.mem_cons.mp hp' with rfl | hp'
        · exact hd1
        · exact ha p hp'
      · rcases List.mem_cons.mp hp' with rfl | hp'
        · exact hn.1
        · exact hd' p hp'
      · have e : m = p.1 := inj m p.1 d hd1 (by rw [ha p hp', ← z])
        exact hd p hp' (by rw [List.map_cons, ← e]; exact .head _)
    · have hb : (k == NameKind.free) = false := by simpa using hk
      simp only [clOf, hb, Bool.false_eq_true, if_false]
      exact clOf_apart inj r _ hf' hn.2 ha hd' hp
structure BlockCells (h : Heap) (lo : Nat) (names : List (Str × NameKind)) (acc cs : List (Str × Addr)) : Prop where
  mem : ∀ n c, (n, c) ∈ cs → (n, c) ∈ acc ∨ (h.IsCell c none ∧ lo ≤ c ∧ (n, NameKind.cell) ∈ names)
  has : ∀ n, (n, NameKind.cell) ∈ names → ∃ c, (n, c) ∈ cs
  old : ∀ p ∈ acc, p ∈ cs
theorem blockCells : ∀ (names : List (Str × NameKind)) (h : Heap) (lo : Nat) (acc : List (Str × Addr)), lo ≤ h.objs.size → BlockCells (pushCells h names) lo names acc (cellsFrom h.objs.size names acc)
  | [], _, _, _, _ => ⟨fun _ _ m => .inl m, (fun _ m => nomatch m), fun _ m => m⟩
  | (name, kind) :: r, h, lo, acc, hlo => by
    by_cases hk : (kind == NameKind.cell) = true
    · have ek : kind = .cell := by simpa using hk
      subst ek
      have ih := blockCells r (h.push { cls := .type "cell", data := .cell none }) lo ((name, h.objs.size) :: acc) (by rw [Heap.size_push]; omega)
      rw [Heap.size_push] at ih
      have e1 : cellsFrom h.objs.size ((name, .cell) :: r) acc = cellsFrom (h.objs.size + 1) r ((name, h.objs.size) :: acc) := by
        rw [cellsFrom, if_pos hk]
      have e2 : pushCells h ((name, .cell) :: r) = pushCells (h.push { cls := .type "cell", data := .cell none }) r := by
        rw [pushCells, if_pos hk]
      rw [e1, e2]
      refine ⟨fun n c m => ?_, fun n m => ?_, fun p m => ih.old p (.tail _ m)⟩
      · rcases ih.mem n c m with z | ⟨z1, z2, z3⟩
        · rcases List.mem_cons.mp z with z | z
          · cases z
            exact .inr ⟨⟨_, pushCells_keeps _ _ _ _ (Heap.get?_push_size _ rfl), rfl⟩, hlo, .head _⟩
          · exact .inl z
        · exact .inr ⟨z1, z2, .tail _ z3⟩
      · rcases List.mem_cons.mp m with z | z
        · cases z
          exact ⟨_, ih.old _ (.head _)⟩
        · exact ih.has n z
    · have ih := blockCells r h lo acc hlo
      have e1 : cellsFrom h.objs.size ((name, kind) :: r) acc = cellsFrom h.objs.size r acc := by
        rw [cellsFrom, if_neg hk]
      have e2 : pushCells h ((name, kind) :: r) = pushCells h r := by
        rw [pushCells, if_neg hk]
      rw [e1, e2]
      refine ⟨fun n c m => (ih.mem n c m).imp id fun ⟨z1, z2, z3⟩ => ⟨z1, z2, .tail _ z3⟩, fun n m => ?_, ih.old⟩
      rcases List.mem_cons.mp m with z | z
      · cases z
        exact absurd rfl hk
      · exact ih.has n z
theorem cellsFrom_apart (names : List (Str × NameKind)) : ∀ (h : Heap) (acc : List (Str × Addr)), (acc.Pairwise fun x y => x.2 ≠ y.2) → (∀ p ∈ acc, p.2 < h.objs.size) → (cellsFrom h.objs.size names acc).Pairwise fun x y => x.2 ≠ y.2 := by
  induction names with
  | nil => intro h acc ha _; exact ha
  | cons y r ih =>
    intro h acc ha hb
    obtain ⟨name, kind⟩ := y
    unfold cellsFrom
    split
    · have := ih (h.push { cls := .type "cell", data := .cell none }) ((name, h.objs.size) :: acc) (List.pairwise_cons.mpr ⟨fun p hp => Nat.ne_of_gt (hb p hp), ha⟩) (fun p hp => by
        rw [Heap.size_push]
        rcases List.mem_cons.mp hp with rfl | hp
        · exact Nat.lt_succ_self _
        · exact Nat.lt_succ_of_lt (hb p hp))
      rwa [Heap.size_push] at this
    · exact ih h acc ha hb
theorem wpAny_blockEnv {M : Model} {A : Around} {E : Value → Shared → Prop} {s : Shared} {scope : Scope} {globals : Addr} {cl : List (Str × Addr)} {qual : Str} {env : Env} {Q : Env → Shared → Prop}
    (hQ : Q (newEnv scope s.heap.objs.size globals (cellsFrom (s.heap.objs.size + 1) scope.names cl) qual none .none (some env) builtinsNs)
      { s with heap := pushCells (s.heap.push { cls := .type "dict", data := .dict #[] }) scope.names }) :
    wpAny M A (newFunctionEnv scope globals cl [] qual none .none (some env)) Q E s := by
  simp only [newFunctionEnv, Option.isSome_some, if_true]
  refine wpAny_bind (wpAny_alloc ?_)
  refine wpAny_bind (wpAny_layCells _ (fun name kind cells => by cases hkc : kind == NameKind.cell <;> simp [hkc]) _ _ _ _ ?_)
  rw [show ({ s with heap := s.heap.push { cls := .type "dict", data := .dict #[] } } : Shared).heap.objs.size = s.heap.objs.size + 1 from Heap.size_push ..]
  rw [List.forIn_nil]
  exact wpAny_bind (wpAny_pure (wpAny_pure hQ))
end L2
namespace L2
open PySem PySem.Spec PyProof.Rows
noncomputable def compCx (X : Cx) (N' : List Str) (sc : Scope) (C : Addr) (cells : List (Str × Addr)) (s₂ : Shared) (H₂ : Hp) (fp : List Addr) : Cx :=
  { X with N := N', s₀ := s₂, H₀ := H₂, env := compEnvC sc cells C X.env, outer := X.stack, stack := X.stack, ex := fp, fn := fun x => sc.names.lookup x == some .cell, pn := [], xe := fun _ _ => False }
theorem lookup_relabel {env : Env} : ∀ {names : List (Str × NameKind)} {x : Str} {k : NameKind}, names.lookup x = some k →
    (names.map fun (n, k) => if (k == NameKind.free && env.scope.kind == .function && env.kindOf n == some .cell) then (n, NameKind.cell) else (n, k)).lookup x =
      some (if (k == NameKind.free && env.scope.kind == .function && env.kindOf x == some .cell) then NameKind.cell else k)
  | [], _, _, h => by simp at h
  | (n, k') :: r, x, k, h => by
    have ih := @lookup_relabel env r x k
    show List.lookup x ((if (k' == NameKind.free && env.scope.kind == .function && env.kindOf n == some .cell) = true then (n, NameKind.cell) else (n, k')) :: _) = _
    cases hx : x == n with
    | true =>
      simp only [List.lookup_cons, hx] at h
      cases h
      have e := beq_iff_eq.mp hx
      subst e
      split <;> simp [List.lookup_cons]
    | false =>
      simp only [List.lookup_cons, hx] at h
      split
      · simp only [List.lookup_cons, hx]; exact ih h
      · simp only [List.lookup_cons, hx]; exact ih h
theorem relabel_none {env : Env} : ∀ {names : List (Str × NameKind)} {x : Str}, names.lookup x = none →
    (names.map fun (n, k) => if (k == NameKind.free && env.scope.kind == .function && env.kindOf n == some .cell) then (n, NameKind.cell) else (n, k)).lookup x = none
  | [], _, _ => rfl
  | (n, k') :: r, x, h => by
    have ih := @relabel_none env r x
    show List.lookup x ((if (k' == NameKind.free && env.scope.kind == .function && env.kindOf n == some .cell) = true then (n, NameKind.cell) else (n, k')) :: _) = _
    cases hx : x == n with
    | true =>
      simp only [List.lookup_cons, hx] at h
      cases h
    | false =>
      simp only [List.lookup_cons, hx] at h
      split
      · simp only [List.lookup_cons, hx]; exact ih h
      · simp only [List.lookup_cons, hx]; exact ih h
theorem lookup_of_mem {α : Type} : ∀ {l : List (Str × α)} {n : Str} {c : α}, (l.map (·.1)).Nodup → (n, c) ∈ l → l.lookup n = some c
  | (k, v) :: r, n, c, hd, h => by
    rw [List.map_cons, List.nodup_cons] at hd
    rcases List.mem_cons.mp h with e | hr
    · cases e
      simp [List.lookup_cons]
    · have hne : (n == k) = false := by
        refine Bool.eq_false_iff.mpr fun z => hd.1 ?_
        have e : n = k := beq_iff_eq.mp z
        rw [← e]
        exact List.mem_map.mpr ⟨(n, c), hr, rfl⟩
      rw [List.lookup_cons, hne]
      exact lookup_of_mem hd.2 hr
theorem lookup_some_of_mem {α : Type} : ∀ {l : List (Str × α)} {n : Str} {c : α}, (n, c) ∈ l → ∃ d, l.lookup n = some d ∧ (n, d) ∈ l
  | (k, v) :: r, n, c, h => by
    by_cases e : n = k
    · subst e
      exact ⟨v, by simp [List.lookup_cons], List.mem_cons_self⟩
    · have hne : (n == k) = false := by simpa using e
      rcases List.mem_cons.mp h with z | z
      · cases z; exact absurd rfl e
      · obtain ⟨d, h1, h2⟩ := lookup_some_of_mem z
        exact ⟨d, by rw [List.lookup_cons, hne]; exact h1, .tail _ h2⟩
structure CompScope (X : Cx) (own : List Str) (caps : List Nat) (N' : List Str) (sc : Scope) : Prop where
  kind : sc.kind = .function
  nd : N'.Nodup
  names : N' = own ++ caps.map fun i => X.N.getD i Str.empty
  nn : (sc.names.map (·.1)).Nodup
  free : (sc.names.all fun y => y.2 != .free || (X.env.kindOf y.1 == some .cell || X.env.kindOf y.1 == some .free)) = true
  caps : (caps.all fun i => sc.names.lookup (X.N.getD i Str.empty) == some .free) = true
noncomputable def start' (own : List Str) (caps : List Nat) (σ : St) : St := own.map (fun _ => none) ++ caps.map fun i => (σ[i]?).getD none
section
variable {X : Cx} {own : List Str} {caps : List Nat} {N' : List Str} {sc : Scope}
theorem CompScope.lk (S : CompScope X own caps N' sc) {n : Str} {k : NameKind} (h : (n, k) ∈ sc.names) : sc.names.lookup n = some k := lookup_of_mem S.nn h
theorem CompScope.fr (S : CompScope X own caps N' sc) {n : Str} (h : (n, NameKind.free) ∈ sc.names) : X.env.kindOf n = some .cell ∨ X.env.kindOf n = some .free := by
  have := List.all_eq_true.mp S.free _ h
  simpa using this
theorem comp_start {pins : List (Addr × Obj)} {σ : St} {H : Hp} {s : Shared} {fp : List Addr} {cl : List (Str × Addr)} (S : CompScope X own caps N' sc) (I : Inv X pins σ H s)
    (f : ∀ b ∈ fp, FpOk X pins H b) (fo : ∀ b ∈ fp, ∃ o, s.heap.get? b = some o)
    (hcl : ∀ n c, (n, c) ∈ cl → (n, NameKind.free) ∈ sc.names ∧ X.env.cells.lookup n = some c) (hcl2 : ∀ n, (n, NameKind.free) ∈ sc.names → ∃ c, (n, c) ∈ cl) (hapart : cl.Pairwise fun x y => x.2 ≠ y.2) :
    Inv (compCx X N' sc (s.heap.objs.size + 1) (cellsFrom (s.heap.objs.size + 2) sc.names cl) s H fp) [] (start' own caps σ) (upd H s.heap.objs.size (.lst []))
      { s with heap := pushCells ((s.heap.push { cls := .type "list", data := .seq #[] }).push { cls := .type "dict", data := .dict #[] }) sc.names } := by
  generalize hh1 : s.heap.push { cls := .type "list", data := .seq #[] } = h1
  have z1 : h1.objs.size = s.heap.objs.size + 1 := by rw [← hh1, Heap.size_push]
  generalize hh2 : h1.push { cls := .type "dict", data := .dict #[] } = h2
  have z2 : h2.objs.size = s.heap.objs.size + 2 := by rw [← hh2, Heap.size_push, z1]
  have BC := blockCells sc.names h2 (s.heap.objs.size + 2) cl (by omega)
  have AP := cellsFrom_apart sc.names h2 cl hapart (fun p hp => by
    obtain ⟨v, hv⟩ := I.cell p.1 p.2 (hcl p.1 p.2 hp).2
    exact Nat.lt_of_lt_of_le hv.lt (by omega))
  rw [z2] at BC AP
  have keep : ∀ b o, s.heap.get? b = some o → (pushCells h2 sc.names).get? b = some o := fun b o e => pushCells_keeps _ _ _ _ (by
    rw [← hh2]
    refine Heap.get?_push_of_some _ ?_
    rw [← hh1]
    exact Heap.get?_push_of_some _ e)
  have hD : (pushCells h2 sc.names).get? s.heap.objs.size = some { cls := .type "list", data := .seq #[] } := pushCells_keeps _ _ _ _ (by
    rw [← hh2]
    refine Heap.get?_push_of_some _ ?_
    rw [← hh1]
    exact Heap.get?_push_size _ rfl)
  have hC : (pushCells h2 sc.names).Ns (s.heap.objs.size + 1) (fun _ => none) := by
    refine Heap.Ns.keeps ?_ (pushCells_keeps _ _)
    have := Heap.Ns.new h1 (.type "dict")
    rw [hh2, z1] at this
    exact this
  have cellOld : ∀ n c, X.env.cells.lookup n = some c → c < s.heap.objs.size := fun n c e => by
    obtain ⟨v, hv⟩ := I.cell n c e
    exact hv.lt
  have lk' : ∀ n c, (cellsFrom (s.heap.objs.size + 2) sc.names cl).lookup n = some c → (n, c) ∈ cellsFrom (s.heap.objs.size + 2) sc.names cl := fun n c e => PySem.mem_of_lookup e
  have hnD : H s.heap.objs.size = none := I.fresh
  have fresh : ∀ c, s.heap.objs.size < c → upd H s.heap.objs.size (.lst []) c = none := fun c hc => by
    rw [upd_ne (Nat.ne_of_gt hc)]
    exact I.hok.fresh (Nat.le_of_lt hc)
  have isc : ∀ n c, (n, c) ∈ cellsFrom (s.heap.objs.size + 2) sc.names cl → ∃ v, (pushCells h2 sc.names).IsCell c v := fun n c m => by
    rcases BC.mem n c m with z | ⟨z, _⟩
    · obtain ⟨v, hv⟩ := I.cell n c (hcl n c z).2
      exact ⟨v, hv.keeps keep⟩
    · exact ⟨none, z⟩
  have okH : HOk X.prog X.w (upd H s.heap.objs.size (.lst [])) (pushCells h2 sc.names) := by
    refine I.hok.laid keep (Nat.le_refl _) ?_
    exact ⟨Nat.zero_le _, [], 0, .nil, hD⟩
  have kinds : ∀ x k, sc.names.lookup x = some k → (relabel sc X.env).names.lookup x = some (if (k == NameKind.free && X.env.scope.kind == .function && X.env.kindOf x == some .cell) then NameKind.cell else k) := fun x k e => lookup_relabel e
  have kindsR : ∀ x k, (relabel sc X.env).names.lookup x = some k → ∃ k', (x, k') ∈ sc.names ∧ k = (if (k' == NameKind.free && X.env.scope.kind == .function && X.env.kindOf x == some .cell) then NameKind.cell else k') := fun x k e => by
    cases q : sc.names.lookup x with
    | none =>
      have := relabel_none (env := X.env) q
      rw [show (relabel sc X.env).names.lookup x = _ from this] at e
      cases e
    | some k' =>
      refine ⟨k', PySem.mem_of_lookup q, ?_⟩
      rw [kinds x k' q] at e
      exact (Option.some.inj e).symm
  refine ⟨⟨I.ok.mod, S.kind, I.ok.glob, I.ok.blt, ?_, ?_, ?_, ?_, I.ok.hd, I.ok.frames, .inl rfl, ?_, ?_, ?_, ?_, ?_, ?_, ?_⟩, rfl, I.bare, ?_, ?_, ?_, ?_, ?_, (fun p hp => nomatch hp), okH, ?_⟩
  · show s.heap.objs.size ≤ s.heap.objs.size + 1; omega
  · intro x y c e1 e2
    exact name_of_addr AP (lk' x c e1) (lk' y c e2)
  · intro x hx
    rcases hx with hx | hx
    · obtain ⟨k', hm, hk'⟩ := kindsR x _ hx
      cases k' with
      | cell =>
        obtain ⟨c, hc⟩ := BC.has x hm
        obtain ⟨d, h1, _⟩ := lookup_some_of_mem hc
        exact ⟨d, h1⟩
      | free =>
        obtain ⟨c, hc⟩ := hcl2 _ hm
        obtain ⟨d, h1, _⟩ := lookup_some_of_mem (BC.old _ hc)
        exact ⟨d, h1⟩
      | _ => simp at hk'
    · obtain ⟨k', hm, hk'⟩ := kindsR x _ hx
      cases k' with
      | free =>
        obtain ⟨c, hc⟩ := hcl2 _ hm
        obtain ⟨d, h1, _⟩ := lookup_some_of_mem (BC.old _ hc)
        exact ⟨d, h1⟩
      | _ => simp at hk'
  · intro x c hf e
    have hf' : sc.names.lookup x = some .cell := by simpa [compCx] using hf
    rcases BC.mem x c (lk' x c e) with z | ⟨_, z, _⟩
    · -- a free one and a cell at once: the name stands once
      exfalso
      have q := S.lk (hcl x c z).1
      rw [hf'] at q
      cases q
    · show s.heap.objs.size ≤ c; omega
  · intro b hb
    obtain ⟨o, ho⟩ := fo b hb
    have hlt := Heap.lt_size ho
    refine ⟨Nat.ne_of_lt (Nat.lt_trans hlt (Nat.lt_succ_self _)), fun x c e z => ?_⟩
    rcases BC.mem x c (lk' x c e) with q | ⟨_, q, _⟩
    · exact (f b hb).2.2.2.2.1 x c (hcl x c q).2 z
    · subst z
      exact absurd hlt (Nat.not_lt.mpr (Nat.le_trans (Nat.le_add_right _ 2) q))
  · exact I.bs
  · exact Nat.le_trans I.ok.bsz I.sz
  · intro b o e hb
    rcases (f b hb).2.2.2.1 with z | z
    · exact I.ok.noex b o e z
    · exact absurd (Nat.lt_of_lt_of_le (Heap.lt_size e) I.ok.bsz) (Nat.not_lt.mpr z)
  · intro b hb z
    rcases List.mem_cons.mp (I.stkSub b z) with q | q
    · exact (f b hb).2.1 q
    · exact (f b hb).2.2.1 q
  · exact I.stack
  · exact I.stkFree
  · exact Un.laid keep (Nat.le_refl _) hnD
  · refine ⟨_, hC, fun i x v e1 e2 e3 => ?_⟩
    have e1' : (own ++ caps.map fun i => X.N.getD i Str.empty)[i]? = some x := by rw [← S.names]; exact e1
    have e2' : (own.map (fun _ => (none : Option V)) ++ caps.map fun i => (σ[i]?).getD none)[i]? = some (some v) := e2
    by_cases hi : i < own.length
    · rw [List.getElem?_append_left (by simpa using hi), List.getElem?_map] at e2'
      cases q : own[i]? with
      | none => rw [q] at e2'; cases e2'
      | some y => rw [q] at e2'; cases e2'
    · rw [List.getElem?_append_right (by simpa using hi), List.getElem?_map] at e2'
      rw [List.getElem?_append_right (by omega), List.getElem?_map] at e1'
      rw [List.length_map] at e2'
      cases q : caps[i - own.length]? with
      | none => rw [q] at e2'; cases e2'
      | some j =>
        rw [q] at e1' e2'
        have e1 : X.N.getD j Str.empty = x := Option.some.inj e1'
        have e2 : (σ[j]?).getD none = some v := Option.some.inj e2'
        have e4 : σ[j]? = some (some v) := by
          cases r : σ[j]? with
          | none => rw [r] at e2; cases e2
          | some o => rw [r] at e2; exact congrArg some e2
        have hj : j < X.N.length := by rw [← I.len]; exact (List.getElem?_eq_some_iff.mp e4).1
        have e5 : X.N[j]? = some x := by rw [← e1]; simp [List.getD_eq_getElem?_getD, hj]
        have hc := List.all_eq_true.mp S.caps j (List.mem_of_getElem? q)
        have e6 : sc.names.lookup x = some .free := by rw [← e1]; simpa using hc
        have hm := PySem.mem_of_lookup e6
        have kx := S.fr hm
        obtain ⟨m, hn, hl⟩ := I.loc
        obtain ⟨u, ru, lo⟩ := hl j x v e5 e4 (by rcases kx with z | z; exact .inr (.inl z); exact .inr (.inr z))
        refine ⟨u, ru, .inr ⟨?_, ?_⟩⟩
        · have := kinds x _ e6
          show (relabel sc X.env).names.lookup x = _ ∨ (relabel sc X.env).names.lookup x = _
          rw [this]
          split
          · exact .inl rfl
          · exact .inr rfl
        · rcases lo with ⟨z, _⟩ | ⟨_, c, hc1, hc2⟩
          · rcases kx with w | w <;> (rw [w] at z; cases z)
          · obtain ⟨d, hd⟩ := hcl2 x hm
            obtain ⟨d', h1, h2⟩ := lookup_some_of_mem (BC.old _ hd)
            refine ⟨d', h1, ?_⟩
            rcases BC.mem x d' h2 with w | ⟨_, _, w⟩
            · have w' := (hcl x d' w).2
              rw [hc1] at w'
              cases w'
              exact hc2.keeps keep
            · have := S.lk w
              rw [e6] at this
              cases this
  · intro x c e
    exact isc x c (lk' x c e)
  · exact fresh _ (Nat.lt_succ_self _)
  · intro x c e
    rcases BC.mem x c (lk' x c e) with z | ⟨_, z, _⟩
    · have e' := (hcl x c z).2
      have hlt := cellOld x c e'
      rw [upd_ne (Nat.ne_of_lt hlt)]
      exact I.freeC x c e'
    · exact fresh c (by omega)
  · show (start' own caps σ).length = N'.length
    rw [S.names]
    unfold start'
    simp
end
end L2
namespace L2
open PySem PySem.Spec PyProof.Rows
noncomputable def cLoop (J : It) (g : TG) (tt : TT) (te : TE) (σ0 : St) (D : Addr) (Q : Hp → Prop) (H1 : Hp) : Prop :=
  ∃ W : Nat → Nat → St → Hp → Prop, (∃ m, W 0 m σ0 (upd H1 D (.lst []))) ∧ ∀ i m σ' H', W i m σ' H' →
    (J.stop i H' ∧ Q H') ∨ (J.go i H' ∧ ∀ x H2, J.yld i H' x H2 → g x σ' H2 fun σ2 H3 => tt σ2 H3 fun b H4 =>
      if b = true then te σ2 H4 fun y H5 => ∃ ys, H5 D = some (.lst ys) ∧ ys.length < sizeLine ∧ ∃ m', m' < m ∧ W (i + 1) m' σ2 (upd H5 D (.lst (ys ++ [y])))
      else ∃ m', m' < m ∧ W (i + 1) m' σ2 H4)
noncomputable def tComp (own : List Str) (caps : List Nat) (wi : TI) (g : TG) (tt : TT) (te : TE) : TE := fun σ H Q => wi σ H fun J H1 => ∀ D, H1 D = none → cLoop J g tt te (start' own caps σ) D (Q (.ref D)) H1
noncomputable def tTrue : TT := fun _ H Q => Q true H
noncomputable def PIfs (X : Cx) (ifs : List Expr) (t : TT) : Prop :=
  ∀ (pins : List (Addr × Obj)) (s : Shared) (σ : St) (H : Hp) (Q : Bool → Hp → Prop), Inv X pins σ H s → t σ H Q →
    wpAny (model X.prog X.w) X.A (forIn ifs true fun c r => if r = true then do let ok ← isTrue c X.env (eval c X.env); pure (ForInStep.yield ok) else pure (ForInStep.yield r)) (TP X pins σ Q) X.xe s
theorem pif_nil {X : Cx} : PIfs X [] tTrue := fun pins s σ H Q I h => by
  rw [List.forIn_nil]
  exact wpAny_pure ⟨H, I, h⟩
theorem pif_one {X : Cx} {c : Expr} {t : TT} (h : PT X c t) : PIfs X [c] t := fun pins s σ H Q I q => wpAny_tests_one (h pins s σ H Q I q)
theorem noXe {M : Model} {A : Around} {α : Type} {t : Sem α} {Q Q' : α → Shared → Prop} {E : Value → Shared → Prop} {s : Shared} (h : wpAny M A t Q (fun _ _ => False) s) (hQ : ∀ a s, Q a s → Q' a s) : wpAny M A t Q' E s :=
  wpAny_mono h hQ fun _ _ z => z.elim
section
variable {X : Cx} {own : List Str} {caps : List Nat} {N' : List Str} {sc : Scope} {tg elt iter : Expr} {ifs : List Expr} {pos : Pos} {wi : TI} {g : TG} {tt : TT} {te : TE}
theorem comp_end {pins p' : List (Addr × Obj)} {σ σ' : St} {H H' : Hp} {s s' : Shared} {fp : List Addr} {C : Addr} {cells : List (Str × Addr)} {h' : Heap} (I : Inv X pins σ H s) (f : ∀ b ∈ fp, FpOk X pins H b)
    (I' : Inv (compCx X N' sc C cells s H fp) p' σ' H' s') (hs : Heap.SameBut C s'.heap h') : Inv X pins σ H' { s' with heap := h' } := by
  have hC : s.heap.objs.size ≤ C := I'.ok.above
  have B := I'.base
  have ne : ∀ b o, s.heap.get? b = some o → b ≠ C := fun b o e => Nat.ne_of_lt (Nat.lt_of_lt_of_le (Heap.lt_size e) hC)
  obtain ⟨m, ⟨oC, _, _, hoC, _⟩, _⟩ := I'.loc
  refine I.call' (ch := fp) (s' := { s' with heap := h' }) I'.os ⟨fun b o e n hb hx => ?_, fun b o e n hb hx => ?_, B.free, fun b o e hx => ?_, B.tups, B.frzs, B.tbls⟩ (fun b ob e => ?_) I'.bare fun b hb => ?_
  · exact (hs.2 b (ne b o e)).trans (B.keep b o e n hb hx)
  · obtain ⟨sl, q⟩ := B.slot b o e n hb hx
    exact ⟨sl, (hs.2 b (ne b o e)).trans q⟩
  · obtain ⟨o', q⟩ := B.there b o e hx
    exact ⟨o', (hs.2 b (ne b o e)).trans q⟩
  · have hfree : H' C = none := I'.free
    refine (I'.hok b ob e).stay (fun c w' hc q => (hs.2 c ?_).trans q) (fun _ q => q) fun _ _ q => q
    rintro rfl
    rcases hc with rfl | hc
    · rw [hfree] at e; cases e
    · rw [hfree] at hc; cases hc
  · obtain ⟨_, f1, _, f3, f4, f5⟩ := f b hb
    exact ⟨f3, f1, f4, f5⟩
theorem comp_block {Qf : Result → Shared → Prop} (S : CompScope X own caps N' sc) (hc : X.calm = true)
    (hg : ∀ C cells s₂ H₂ fp, PG (compCx X N' sc C cells s₂ H₂ fp) tg g) (ht : ∀ C cells s₂ H₂ fp, PIfs (compCx X N' sc C cells s₂ H₂ fp) ifs tt) (he : ∀ C cells s₂ H₂ fp, PE (compCx X N' sc C cells s₂ H₂ fp) elt te)
    {pins : List (Addr × Obj)} {σ : St} {H : Hp} {s : Shared} {fp : List Addr} {it : Addr} {tn : Nat → Heap → Prop} {J : It} {Q : Hp → Prop} (I : Inv X pins σ H s) (T : Turn X.prog X.w X.K tg J fp it tn) (st : tn 0 s.heap) (f : ∀ b ∈ fp, FpOk X pins H b)
    (h : cLoop J g tt te (start' own caps σ) s.heap.objs.size Q H)
    (fin : ∀ s' σ' H' p' C cells, Inv (compCx X N' sc C cells s H fp) p' σ' H' s' → C = s.heap.objs.size + 1 → Q H' → Qf (.ok .next) s') :
    wpAny (model X.prog X.w) X.A (newFunctionEnv sc X.env.globals (clOf X.env sc.names []) [] X.env.qual none .none (some X.env)) (fun cenv s₄ =>
      cenv.locals = s.heap.objs.size + 1 ∧ codeAny (model X.prog X.w) X.A (.compStart (.ListComp elt [⟨tg, iter, ifs, 0⟩] sc pos) 0 (.ref it) (.ref s.heap.objs.size) { cenv with scope := relabel sc X.env }) Qf s₄) X.xe
        { s with heap := s.heap.push { cls := .type "list", data := .seq #[] } } := by
  have hf : ∀ y ∈ sc.names, y.2 = .free → ∃ c, X.env.cells.lookup y.1 = some c := fun y hy e => by
    obtain ⟨n, k⟩ := y
    have e' : k = .free := e
    subst e'
    exact I.ok.has n (S.fr hy)
  have hcl : ∀ n c, (n, c) ∈ clOf X.env sc.names [] → (n, NameKind.free) ∈ sc.names ∧ X.env.cells.lookup n = some c := fun n c m => (clOf_mem sc.names [] hf n c m).elim (fun z => nomatch z) id
  have hap := clOf_apart I.ok.inj sc.names [] hf S.nn (fun _ z => nomatch z) (fun _ z => nomatch z) .nil
  have I0 := comp_start (cl := clOf X.env sc.names []) S I f (fun b hb => let ⟨o, e, _⟩ := T.obj _ _ st b hb; ⟨o, e⟩) hcl (fun n m => clOf_has sc.names [] n m) hap
  refine wpAny_blockEnv ?_
  rw [show ({ s with heap := s.heap.push { cls := .type "list", data := .seq #[] } } : Shared).heap.objs.size = s.heap.objs.size + 1 from Heap.size_push ..]
  refine ⟨rfl, ?_⟩
  dsimp only
  generalize hs0 : ({ s with heap := pushCells ((s.heap.push { cls := .type "list", data := .seq #[] }).push { cls := .type "dict", data := .dict #[] }) sc.names } : Shared) = s0 at I0 ⊢
  have st0 : tn 0 s0.heap := T.keep _ _ _ st fun b hb o e => by
    rw [← hs0]
    exact pushCells_keeps _ _ _ _ (Heap.get?_push_of_some _ (Heap.get?_push_of_some _ e))
  generalize hcells : cellsFrom (s.heap.objs.size + 1 + 1) sc.names (clOf X.env sc.names []) = cells at I0 ⊢
  -- the loop
  obtain ⟨W, ⟨m0, w0⟩, turn⟩ := h
  have loop : codeAny (model X.prog X.w) X.A (.compLoop (.ListComp elt [⟨tg, iter, ifs, 0⟩] sc pos) 0 (.ref it) (.ref s.heap.objs.size) (compCx X N' sc (s.heap.objs.size + 1) cells s H fp).env) Qf s0 := by
    generalize hX' : compCx X N' sc (s.heap.objs.size + 1) cells s H fp = X' at I0 ⊢
    have hg' := hg (s.heap.objs.size + 1) cells s H fp
    have ht' := ht (s.heap.objs.size + 1) cells s H fp
    have he' := he (s.heap.objs.size + 1) cells s H fp
    have fin' := fun s' σ' H' p' (z : Inv (compCx X N' sc (s.heap.objs.size + 1) cells s H fp) p' σ' H' s') => fin s' σ' H' p' _ _ z rfl
    rw [hX'] at hg' ht' he' fin'
    have hxe : X'.xe = fun _ _ => False := by rw [← hX']; rfl
    have hpr : X'.prog = X.prog := by rw [← hX']; rfl
    have hw : X'.w = X.w := by rw [← hX']; rfl
    have hK : X'.K = X.K := by rw [← hX']; rfl
    have hA : X'.A = X.A := by rw [← hX']; rfl
    have hcm : X'.calm = true := by rw [← hX']; exact hc
    have hex : X'.ex = fp := by rw [← hX']; rfl
    have hpn : X'.pn = [] := by rw [← hX']; rfl
    have stat : ∀ {H' : Hp}, (∀ b ∈ fp, H' b = none) → ∀ b ∈ fp, FpOk X' [] H' b := fun hn b hb => by
      have e1 := I0.ok.exf b (by rw [hex]; exact hb)
      have e2 := I0.ok.exfs b (by rw [hex]; exact hb)
      exact ⟨hn b hb, e1.1, e2, .inl (by rw [hex]; exact hb), e1.2, fun p hp => by rw [hpn] at hp; exact nomatch hp⟩
    have frD : ∀ b ∈ fp, (upd H s.heap.objs.size (.lst [])) b = none := fun b hb => by
      obtain ⟨o, e, _⟩ := T.obj _ _ st b hb
      rw [upd_ne (Nat.ne_of_lt (Heap.lt_size e))]
      exact (f b hb).1
    have T' : Turn X'.prog X'.w X'.K tg J fp it tn := by rw [hpr, hw, hK]; exact T
    rw [← hpr, ← hw, ← hA]
    refine compLoop_any (fun n s' => ∃ i σ' H', Inv X' [] σ' H' s' ∧ tn i s'.heap ∧ (∀ b ∈ fp, H' b = none) ∧ W i n σ' H') ?_ m0 ⟨0, _, _, I0, st0, frD, w0⟩
    rintro n s3 ⟨i, σ3, H3, I3, st3, fr3, w3⟩
    rcases turn i n σ3 H3 w3 with ⟨stop, qn⟩ | ⟨go, step⟩
    · refine noXe (T'.done X' rfl rfl rfl hcm i [] s3 σ3 H3 _ I3 (stat fr3) st3 stop) fun r s4 qz9 => ?_
      obtain ⟨hr, I4⟩ := qz9
      subst hr
      exact fin' s4 σ3 H3 [] I4 qn
    · refine noXe (T'.item X' rfl rfl rfl hcm i [] s3 σ3 H3 _ I3 (stat fr3) st3 go) fun r s4 qz9 => ?_
      obtain ⟨u, hr, h4⟩ := qz9
      subst hr
      refine noXe h4 fun _ s5 qz9 => ?_
      obtain ⟨x, H5, I5, r5, y5, st5, fr5⟩ := qz9
      have I5' := I5.pinned (stat fr5) (T.obj _ _ st5)
      have hgg := hg' _ s5 σ3 H5 x u _ I5' r5 (step x H5 y5)
      rw [hxe] at hgg
      refine noXe hgg fun _ s6 qz9 => ?_
      obtain ⟨σ6, H6, I6, q6⟩ := qz9
      have htt := ht' _ s6 σ6 H6 _ I6 q6
      rw [hxe] at htt
      refine noXe htt fun ok s7 qz9 => ?_
      obtain ⟨H7, I7, q7⟩ := qz9
      have again : ∀ {σ7 : St} {H7 : Hp} {s7 : Shared} {m : Nat}, Inv X' ([] ++ pinsAt fp s5.heap) σ7 H7 s7 → W (i + 1) m σ7 H7 → m < n → ∃ m, m < n ∧ ∃ i σ' H', Inv X' [] σ' H' s7 ∧ tn i s7.heap ∧ (∀ b ∈ fp, H' b = none) ∧ W i m σ' H' := fun {σ7 H7 s7 m} I7 w7 hm => by
        refine ⟨m, hm, i + 1, σ7, H7, I7.unpinned, T.keep _ _ _ st5 fun b hb o e => (I7.pin (b, o) (List.mem_append_right _ (List.mem_append_right _ (mem_pinsAt hb e)))).1, fun b hb => ?_, w7⟩
        obtain ⟨o, e, d⟩ := T.obj _ _ st5 b hb
        exact (I7.pin (b, o) (List.mem_append_right _ (List.mem_append_right _ (mem_pinsAt hb e)))).2.1
      cases ok with
      | false =>
        obtain ⟨m', hm, w7⟩ := q7
        rw [if_neg Bool.false_ne_true]
        exact again I7 w7 hm
      | true =>
        rw [if_pos rfl]
        have hee := he' _ s7 σ6 H7 _ I7 q7
        rw [hxe] at hee
        refine noXe hee fun y s8 qz9 => ?_
        obtain ⟨vy, H8, I8, r8, ys, hD, hlen, m', hm, w8⟩ := qz9
        have hap := mt_append (X := X') _ s8 σ6 H8 (.ref s.heap.objs.size) [vy] (.ref s.heap.objs.size) [y] (fun _ H' => W (i + 1) m' σ6 H') I8 rfl (.cons r8 .nil) ⟨_, ys, vy, rfl, rfl, hD, hlen, w8⟩
        rw [hxe] at hap
        refine noXe hap fun z s9 qz9 => ?_
        obtain ⟨_, H9, I9, _, w9⟩ := qz9
        exact again I9 w9 hm
  exact codeAny_compStart_list loop (T.self _ 0 _ _ _ st0 loop)
theorem pe_comp (S : CompScope X own caps N' sc) (hc : X.calm = true) (hi : PI X tg iter wi)
    (hg : ∀ C cells s₂ H₂ fp, PG (compCx X N' sc C cells s₂ H₂ fp) tg g) (ht : ∀ C cells s₂ H₂ fp, PIfs (compCx X N' sc C cells s₂ H₂ fp) ifs tt) (he : ∀ C cells s₂ H₂ fp, PE (compCx X N' sc C cells s₂ H₂ fp) elt te)
    (hs : ∀ x, foldedSetIterable iter X.env x = pure x := by intro _; rfl) : PE X (.ListComp elt [⟨tg, iter, ifs, 0⟩] sc pos) (tComp own caps wi g tt te) := by
  intro pins s σ H Q I h
  rw [eval_ListComp]
  have hf : ∀ y ∈ sc.names, y.2 = .free → ∃ c, X.env.cells.lookup y.1 = some c := fun y hy e => by
    obtain ⟨n, k⟩ := y
    have e' : k = .free := e
    subst e'
    exact I.ok.has n (S.fr hy)
  refine wpAny_comprehension_free (use := none) rfl hs (closureFor_all hf) S.kind (fun y hy e => by obtain ⟨n, k⟩ := y; have e' : k = .local := e; subst e'; exact S.lk hy) ?_
  refine thn (hi pins s σ H _ I h) fun v s1 h1 => thn h1 fun itv s2 h2 => ?_
  obtain ⟨it, fp, tn, J, H2, e, I2, T, st2, f2, q⟩ := h2
  subst e
  refine wpAny_newObj_type ?_
  refine thn (comp_block (iter := iter) (pos := pos) (Qf := compPost (model X.prog X.w) X.A X.xe none (EP X pins σ Q) (.ref s2.heap.objs.size) (s2.heap.objs.size + 1)) S hc hg ht he I2 T st2 f2 (q s2.heap.objs.size I2.fresh) ?_) fun cenv s4 ⟨hl, hr⟩ => ?_
  · intro s' σ' H' p' C cells I' eC q'
    subst eC
    obtain ⟨m, hn, _⟩ := id I'.loc
    exact ⟨m, hn, fun h' hs' => ⟨.ref s2.heap.objs.size, H', comp_end I2 f2 I' hs', rfl, q'⟩⟩
  · rw [← hl] at hr
    exact hr
end
end L2
namespace L2
open PySem PySem.Spec PyProof.Rows
section
variable {X : Cx} {own : List Str} {caps : List Nat} {N' : List Str} {sc : Scope} {tg elt iter : Expr} {ifs : List Expr} {pos : Pos} {wi : TI} {g : TG} {tt : TT} {te : TE}
theorem ps_setcomp {i : Nat} {y : Str} {py spos : Pos} (hN : X.N.Nodup) (hy : X.N[i]? = some y) (hx : Loc X.env.scope y) (S : CompScope X own caps N' sc) (hc : X.calm = true) (hi : PI X tg iter wi)
    (hg : ∀ C cells s₂ H₂ fp, PG (compCx X N' sc C cells s₂ H₂ fp) tg g) (ht : ∀ C cells s₂ H₂ fp, PIfs (compCx X N' sc C cells s₂ H₂ fp) ifs tt) (he : ∀ C cells s₂ H₂ fp, PE (compCx X N' sc C cells s₂ H₂ fp) elt te)
    (hsw : swapsWith (.ListComp elt [⟨tg, iter, ifs, 0⟩] sc pos) (some (.Name y py)) spos.line X.env = pure true := by rfl)
    (hs : ∀ x, foldedSetIterable iter X.env x = pure x := by intro _; rfl) (hf : X.fn y = true ∨ X.env.scope.names.lookup y = some .local := by first | exact .inl rfl | exact .inr rfl | assumption) :
    PS X (.Assign [.Name y py] (.ListComp elt [⟨tg, iter, ifs, 0⟩] sc pos) spos) (tAsg (tComp own caps wi g tt te) (gName i)) := by
  intro pins s σ H D I h
  have hfr : ∀ y ∈ sc.names, y.2 = .free → ∃ c, X.env.cells.lookup y.1 = some c := fun y hy e => by
    obtain ⟨n, k⟩ := y
    have e' : k = .free := e
    subst e'
    exact I.ok.has n (S.fr hy)
  rw [exec_Assign_Name_used _ _ _ _ hsw]
  refine wpAny_bind (wpAny_standAt (wpAny_bind ?_))
  show wpAny _ X.A (do let _ ← comprehension (.ListComp elt [⟨tg, iter, ifs, 0⟩] sc pos) sc X.env _ (newList []) false (eval iter X.env) (some (assign (.Name y py) X.env))) _ _ s
  refine wpAny_bind (wpAny_mono (wpAny_comprehension_free (use := some (assign (.Name y py) X.env)) (Q := fun _ s' => SP X pins D .next s') rfl hs (closureFor_all hfr) S.kind (fun y hy e => by obtain ⟨n, k⟩ := y; have e' : k = .local := e; subst e'; exact S.lk hy) ?_) (fun _ s' hq => wpAny_pure (wpAny_pure hq)) fun _ _ e => e)
  refine thn (hi pins s σ H _ I h) fun v s1 h1 => thn h1 fun itv s2 h2 => ?_
  obtain ⟨it, fp, tn, J, H2, e, I2, T, st2, f2, q⟩ := h2
  subst e
  refine wpAny_newObj_type ?_
  refine thn (comp_block (iter := iter) (pos := pos) (Qf := compPost (model X.prog X.w) X.A X.xe (some (assign (.Name y py) X.env)) (fun _ s' => SP X pins D .next s') (.ref s2.heap.objs.size) (s2.heap.objs.size + 1)) S hc hg ht he I2 T st2 f2 (q s2.heap.objs.size I2.fresh) ?_) fun cenv s4 ⟨hl, hr⟩ => ?_
  · intro s' σ' H' p' C cells I' eC q'
    subst eC
    obtain ⟨m, hn, _⟩ := id I'.loc
    have I3 : Inv X pins σ H' s' := comp_end I2 f2 I' (.refl ..)
    show wpAny _ X.A (assign (.Name y py) X.env (.ref s2.heap.objs.size)) _ _ s'
    refine wpAny_assign_Name (store_ok2 (v := .ref s2.heap.objs.size) I3 hN hy hx rfl (fun s5 I5 hsb => ?_) hf)
    have hC : s2.heap.objs.size < s2.heap.objs.size + 1 := Nat.lt_succ_self _
    have ltL : X.env.locals < s2.heap.objs.size := I2.lt
    have ltC : ∀ x c, X.env.cells.lookup x = some c → c < s2.heap.objs.size := fun x c e => by
      obtain ⟨w', z⟩ := I2.cell x c e
      exact z.lt
    refine ⟨m, ?_, fun h' hs' => ⟨σ.set i (some (.ref s2.heap.objs.size)), H', ?_, q'⟩⟩
    · obtain ⟨a, hsa, ha⟩ := hsb
      refine hn.sameBut hsa ?_
      rcases ha with ha | ha
      · rw [ha]; exact Nat.ne_of_gt (Nat.lt_trans ltL hC)
      · exact Nat.ne_of_gt (Nat.lt_trans (ltC _ _ ha) hC)
    · refine I5.turned (t' := s5.toks) (it := s2.heap.objs.size + 1) (fun b o hb e => (hs'.2 b hb).trans e) I'.free (Nat.ne_of_gt (Nat.lt_trans ltL hC)) (.inr (Nat.le_trans I2.sz (Nat.le_of_lt hC))) (fun x c e => Nat.ne_of_lt (Nat.lt_trans (ltC x c e) hC)) fun p hp => ?_
      obtain ⟨e, _⟩ := I2.pin p hp
      exact Nat.ne_of_lt (Nat.lt_trans (Heap.lt_size e) hC)
  · rw [← hl] at hr
    exact hr
end
section
variable (n : Nat) (D : Addr) (Pv : Nat → List V → St → Hp → Prop)
variable {n D Pv}
end
end L2
namespace L2
open PySem PySem.Spec PyProof.Rows
mutual
inductive Is (H : Hp) (L : Addr → Prop) : V → PyData → Prop where
  | non : Is H L .non .none
  | bl (b : Bool) : Is H L (.bl b) (.bool b)
  | int (i : Int) : Is H L (.int i) (.int i)
  | str (x : Str) : Is H L (.str x) (.str x)
  | lst {a : Addr} {xs : List V} {ds : List PyData} : L a → H a = some (.lst xs) → IsAll H L xs ds → Is H L (.ref a) (.list ds)
  | tup {a : Addr} {xs : List V} {ds : List PyData} : H a = some (.tup xs) → IsAll H L xs ds → Is H L (.ref a) (.tuple ds)
inductive IsAll (H : Hp) (L : Addr → Prop) : List V → List PyData → Prop where
  | nil : IsAll H L [] []
  | cons {x : V} {xs : List V} {d : PyData} {ds : List PyData} : Is H L x d → IsAll H L xs ds → IsAll H L (x :: xs) (d :: ds)
end
section
variable {H H' : Hp} {L L' : Addr → Prop}
theorem IsAll.ind {Q : List V → List PyData → Prop} (n : Q [] []) (c : ∀ {x : V} {xs : List V} {d : PyData} {ds : List PyData}, Is H L x d → IsAll H L xs ds → Q xs ds → Q (x :: xs) (d :: ds)) : ∀ {xs ds}, IsAll H L xs ds → Q xs ds := fun h =>
  IsAll.rec (motive_1 := fun _ _ _ => True) (motive_2 := fun xs ds _ => Q xs ds) trivial (fun _ => trivial) (fun _ => trivial) (fun _ => trivial) (fun _ _ _ _ => trivial) (fun _ _ _ => trivial) n (fun p q _ r => c p q r) h
theorem IsAll.length {xs : List V} {ds : List PyData} (h : IsAll H L xs ds) : xs.length = ds.length := IsAll.ind (Q := fun xs ds => xs.length = ds.length) rfl (fun _ _ r => congrArg (· + 1) r) h
theorem IsAll.set {xs : List V} {ds : List PyData} {x : V} {d : PyData} (i : Nat) (h : IsAll H L xs ds) (k : Is H L x d) : IsAll H L (xs.set i x) (ds.set i d) :=
  IsAll.ind (Q := fun xs ds => ∀ i, IsAll H L (xs.set i x) (ds.set i d)) (fun _ => .nil) (fun h q r i => Nat.casesOn i (.cons k q) fun i => .cons h (r i)) h i
end
section
variable {X : Cx} {pins : List (Addr × Obj)} {σ : St} {H : Hp} {s : Shared} {L L' : Addr → Prop}
end
noncomputable abbrev Shp (d : PyData) : Prop := SeqAt.shaped d = true
section
variable {X : Cx}
end
mutual
noncomputable def plainD : PyData → Bool
  | .none => true
  | .int _ => true
  | .str _ => true
  | .list ds => plainDs ds
  | .tuple ds => plainDs ds
  | _ => false
noncomputable def plainDs : List PyData → Bool
  | [] => true
  | d :: ds => plainD d && plainDs ds
end
mutual
theorem eqv_iff : ∀ (d e : PyData), plainD d = true → plainD e = true → (PyData.eqv d e = true ↔ d = e)
  | .none, e, _, he => by cases e <;> simp_all [PyData.eqv, plainD]
  | .int i, e, _, he => by cases e <;> simp_all [PyData.eqv, plainD]
  | .str i, e, _, he => by cases e <;> simp_all [PyData.eqv, plainD]
  | .list ds, e, hd, he => by
    cases e with
    | list es =>
      rw [plainD] at hd he
      rw [PyData.eqv, PyData.list.injEq]
      exact eqvAll_iff ds es hd he
    | _ => simp_all [PyData.eqv, plainD]
  | .tuple ds, e, hd, he => by
    cases e with
    | tuple es =>
      rw [plainD] at hd he
      rw [PyData.eqv, PyData.tuple.injEq]
      exact eqvAll_iff ds es hd he
    | _ => simp_all [PyData.eqv, plainD]
  | .bool b, e, hd, _ => by simp [plainD] at hd
  | .dict b, e, hd, _ => by simp [plainD] at hd
theorem eqvAll_iff : ∀ (ds es : List PyData), plainDs ds = true → plainDs es = true → (PyData.eqvAll ds es = true ↔ ds = es)
  | [], [], _, _ => by simp [PyData.eqvAll]
  | [], _ :: _, _, _ => by simp [PyData.eqvAll]
  | _ :: _, [], _, _ => by simp [PyData.eqvAll]
  | d :: ds, e :: es, hd, he => by
    rw [plainDs, Bool.and_eq_true] at hd he
    rw [PyData.eqvAll, Bool.and_eq_true, eqv_iff d e hd.1 he.1, eqvAll_iff ds es hd.2 he.2, List.cons.injEq]
end
theorem eqv_eq {d e : PyData} (h : plainD d = true) (k : plainD e = true) (q : d = e) : PyData.eqv d e = true := (eqv_iff d e h k).mpr q
theorem eqv_ne {d e : PyData} (h : plainD d = true) (k : plainD e = true) (q : d ≠ e) : PyData.eqv d e = false := Bool.eq_false_iff.mpr fun z => q ((eqv_iff d e h k).mp z)
noncomputable def fr (a b : Int) : PyData := .tuple [.int a, .int b]
theorem plain_fr (a b : Int) : plainD (fr a b) = true := rfl
theorem fr_inj {a b c d : Int} : fr a b = fr c d ↔ a = c ∧ b = d := by
  unfold fr
  simp
end L2
namespace L2
open PySem PySem.Spec PyProof.Rows
theorem gcd_pos' {t b : Int} (hb : b ≠ 0) : 0 < (Int.gcd t b : Int) := by
  have := Int.gcd_pos_of_ne_zero_right t hb
  omega
theorem fdiv_of_dvd {t g : Int} (hg : 0 < g) : t.fdiv g = t / g := Int.fdiv_eq_ediv_of_nonneg t (by omega)
theorem fdiv_neg_of_dvd {t g : Int} (hg : 0 < g) (h : g ∣ t) : t.fdiv (-g) = -(t / g) := by
  obtain ⟨k, rfl⟩ := h
  rw [Int.mul_ediv_cancel_left _ (by omega)]
  have e : g * k = (-k) * (-g) := by rw [Int.neg_mul_neg, Int.mul_comm]
  rw [e, Int.mul_fdiv_cancel _ (by omega)]
noncomputable def shr (t b : Int) : Int := if b < 0 then -(Int.gcd t b : Int) else (Int.gcd t b : Int)
theorem low_num {t b : Int} (hb : b ≠ 0) : t.fdiv (shr t b) = (Rat.divInt t b).num := by
  have hg := gcd_pos' (t := t) hb
  have hd : (Int.gcd t b : Int) ∣ t := Int.gcd_dvd_left ..
  rw [Rat.num_divInt, Int.gcd_comm b t]
  unfold shr
  by_cases h : b < 0
  · rw [if_pos h, fdiv_neg_of_dvd hg hd, Int.sign_eq_neg_one_of_neg h, Int.neg_one_mul, Int.neg_ediv_of_dvd hd]
  · rw [if_neg h, fdiv_of_dvd hg, Int.sign_eq_one_of_pos (by omega), Int.one_mul]
theorem low_den {t b : Int} (hb : b ≠ 0) : b.fdiv (shr t b) = ((Rat.divInt t b).den : Int) := by
  have hg := gcd_pos' (t := t) hb
  have hd : (Int.gcd t b : Int) ∣ b := Int.gcd_dvd_right ..
  rw [Rat.den_divInt, if_neg hb, Int.gcd_comm b t]
  unfold shr
  by_cases h : b < 0
  · have e : (b.natAbs : Int) = -b := by omega
    rw [if_pos h, fdiv_neg_of_dvd hg hd, Int.natCast_ediv, e, Int.neg_ediv_of_dvd hd]
  · have e : (b.natAbs : Int) = b := by omega
    rw [if_neg h, fdiv_of_dvd hg, Int.natCast_ediv, e]
theorem shr_ne {t b : Int} (hb : b ≠ 0) : shr t b ≠ 0 := by
  have hg := gcd_pos' (t := t) hb
  unfold shr
  split <;> omega
theorem shr_bt {n : Nat} {t b : Int} (hb : b ≠ 0) (h : Bt n b) : Bt n (shr t b) := by
  have h1 : Bt n (Int.gcd t b : Int) := by
    refine Bt.of_le h ?_
    have := Int.gcd_le_natAbs_right t hb
    omega
  unfold shr
  split
  · exact h1.neg
  · exact h1
theorem den_pos' (q : Rat) : (0 : Int) < (q.den : Int) := by
  have := q.den_pos
  omega
noncomputable def frD (q : Rat) : PyData := fr q.num (q.den : Int)
theorem frD_inj {q r : Rat} : frD q = frD r ↔ q = r := by
  unfold frD
  rw [fr_inj]
  constructor
  · rintro ⟨h1, h2⟩
    exact Rat.ext h1 (by omega)
  · rintro rfl
    exact ⟨rfl, rfl⟩
theorem eqv_fr (q r : Rat) : PyData.eqv (frD q) (frD r) = decide (q = r) := by
  by_cases h : q = r
  · rw [decide_eq_true h]
    exact eqv_eq (plain_fr _ _) (plain_fr _ _) (frD_inj.mpr h)
  · rw [decide_eq_false h]
    exact eqv_ne (plain_fr _ _) (plain_fr _ _) fun z => h (frD_inj.mp z)
noncomputable def BQ (n : Nat) (q : Rat) : Prop := Bt n q.num ∧ Bt n (q.den : Int)
theorem BQ.zero : BQ 1 0 := ⟨by unfold Bt; decide, by unfold Bt; decide⟩
end L2
namespace L2
open PySem PySem.Spec PyProof.Rows
section
variable {X : Cx}
end
end L2
namespace L2
open PySem PySem.Spec PyProof.Rows
section
variable {X : Cx} {K : PySem.W.Frag} {a b o e : Expr} {ta tb tl to : TE} {pos : Pos}
theorem ix_listK (hK : X.K = K) : IxR X (rIxL K) := hK ▸ ix_list
theorem ix_seqK (hK : X.K = K) : IxR X (rIx K) := hK ▸ ix_seq
theorem sl_listK (hK : X.K = K) : SlR X (rSlL K) := hK ▸ sl_list
noncomputable def rLen (K : PySem.W.Frag) : List V → Hp → VK → Prop := fun xs H Q => ∃ p ys, xs = [.ref p] ∧ (SqL K H p ys ∨ SqT K H p ys) ∧ Q (.int ys.length) H
theorem call_lenK (hK : X.K = K) : CallR X (.builtin "len") (rLen K) := by subst hK; exact call_len_seq
noncomputable def rListOf (K : PySem.W.Frag) : List V → Hp → VK → Prop := fun xs H Q => ∃ p ys, xs = [.ref p] ∧ (SqL K H p ys ∨ SqT K H p ys) ∧ ∀ l, H l = none → Q (.ref l) (upd H l (.lst ys))
theorem call_listK (hK : X.K = K) : CallR X (.type "list") (rListOf K) := by subst hK; exact call_list_of
noncomputable def rTupOf (K : PySem.W.Frag) : List V → Hp → VK → Prop := fun xs H Q => ∃ p ys, xs = [.ref p] ∧ ((SqL K H p ys ∧ ∀ l, H l = none → Q (.ref l) (upd H l (.tup ys))) ∨ (SqT K H p ys ∧ Q (.ref p) H))
theorem call_tupleK (hK : X.K = K) : CallR X (.type "tuple") (rTupOf K) := by subst hK; exact call_tuple_of
noncomputable def tTru (K : PySem.W.Frag) (ta : TE) : TT := fun σ H Q => ta σ H fun x H' => ∃ k, TruV K x H' k ∧ Q k H'
theorem pt_truK (hK : X.K = K) (ha : PE X a ta) (he : ∀ whole, isTrue a X.env whole = (do let v ← whole; standAt a.pos; holding [v] (truthy v))) : PT X a (tTru K ta) := by subst hK; exact pt_truth ha he
theorem pi_listK {tg l : Expr} (hK : X.K = K) (hl : PE X l tl) : PI X tg l (iList K tl) := by subst hK; exact pi_list hl
end
end L2
namespace L2
open PySem PySem.Spec PyProof.Rows
theorem same_new {H : Hp} {p : Addr} (h : H p = none) (o : HO) : Same H (upd H p o) := fun b u q => by rw [upd_ne (ne_of_none q h)]; exact q
noncomputable def But (p : Addr) (H H' : Hp) : Prop := ∀ b o, b ≠ p → H b = some o → H' b = some o
theorem But.upd (p : Addr) (H : Hp) (o : HO) : But p H (upd H p o) := fun b u n e => by rw [upd_ne n]; exact e
noncomputable def Pl (H : Hp) (p : Addr) (n : Nat) : Prop := ∃ a b c : Int, H p = some (.lst [.int a, .int b, .int c]) ∧ 0 ≤ c ∧ c ≤ n
theorem Pl.at {H : Hp} {p : Addr} {n : Nat} (h : Pl H p n) : ∃ xs, H p = some (.lst xs) := by
  obtain ⟨a, b, c, e, h1, h2⟩ := h
  exact ⟨_, e⟩
namespace B
theorem boot_abs : bootBuiltins "abs" = some (.builtin "abs") := by decide +kernel
theorem boot_len : bootBuiltins "len" = some (.builtin "len") := by decide +kernel
theorem boot_isinstance : bootBuiltins "isinstance" = some (.builtin "isinstance") := by decide +kernel
theorem boot_int : bootBuiltins "int" = some (.type "int") := by decide +kernel
theorem boot_bool : bootBuiltins "bool" = some (.type "bool") := by decide +kernel
theorem boot_str : bootBuiltins "str" = some (.type "str") := by decide +kernel
theorem boot_list : bootBuiltins "list" = some (.type "list") := by decide +kernel
theorem boot_tuple : bootBuiltins "tuple" = some (.type "tuple") := by decide +kernel
theorem boot_range : bootBuiltins "range" = some (.type "range") := by decide +kernel
theorem boot_zip : bootBuiltins "zip" = some (.type "zip") := by decide +kernel
end B
theorem fmod_pos {a b : Int} (hb : 0 < b) : a.fmod b = a % b := Int.fmod_eq_emod_of_nonneg a (by omega)
theorem gcd_step {x y : Int} (hx : 0 ≤ x) (hy : 0 < y) : Int.gcd y (x.fmod y) = Int.gcd x y := by
  rw [fmod_pos hy, Int.gcd_comm x y]
  have e := Int.emod_add_mul_ediv x y
  conv => rhs; rw [← e]
  rw [Int.gcd_add_mul_left_right]
theorem two_le : (2 : Nat) ≤ sizeLine := by decide
end L2
namespace L2
open PySem PySem.Spec PyProof.Rows
section
variable {X : Cx} {K : PySem.W.Frag} {pos : Pos}
end
end L2
namespace L2
open PySem PySem.Spec PyProof.Rows
end L2
namespace L2
open PySem PySem.Spec PyProof.Rows
section
variable {X : Cx}
end
end L2
namespace L2
open PySem PySem.Spec PyProof.Rows
theorem BQ.n {n : Nat} {q : Rat} (h : BQ n q) : Bt n q.num := h.1
theorem BQ.d {n : Nat} {q : Rat} (h : BQ n q) : Bt n (q.den : Int) := h.2
end L2
namespace L2
end L2
namespace L2
end L2
namespace L2
open PySem PySem.Spec PyProof.Rows
variable {G : PySem.W.Frag}
noncomputable def KS (G : PySem.W.Frag) (a : Addr) (ns : List Int) : Prop := ∃ (o : Obj) (its : Array Value) (n : Nat), G.lookup a = some o ∧ o.cls = .type "list" ∧ o.dict = none ∧ o.data = .seq its n ∧ its.size ≤ sizeLine ∧ Vals (ns.map V.int) its.toList
theorem KS.sq {G : PySem.W.Frag} {H : Hp} {a : Addr} {ns : List Int} (h : KS G a ns) : SqL G H a (ns.map V.int) := .inr h
noncomputable def exD (x : Str) : PyData := .dict [(.str x, .none)]
noncomputable def fnD (x : Str) : PyData := .dict [(.str x, .bool true)]
noncomputable def isFnD : PyData → Bool | .dict ((_, .bool _) :: _) => true | _ => false
noncomputable def ClsAt (G : PySem.W.Frag) (x : Str) (C : Addr) : Prop := PySem.W.nsIn G mainGlobals x = some (some (.ref C))
structure ExCls (G : PySem.W.Frag) (C : Addr) : Prop where
  ga : PySem.W.findIn G (.ref C) "__getattribute__" = some (some (.builtin "BaseException.__getattribute__"))
  gt : PySem.W.findIn G (.ref C) "__getattr__" = some none
  cl : PySem.W.findIn G (.ref C) "__class__" = some (some (.builtin "object.__class__"))
  isB : PySem.W.subIn G (.ref C) (.type "BaseException") = some true
  isO : PySem.W.subIn G (.ref C) (.type "object") = some true
  isC : (PySem.W.clsIn G C).isSome = true
  k1 : PySem.W.kitOne G (.ref C) (.type "int") = some false
  k2 : PySem.W.kitOne G (.ref C) (.type "bool") = some false
  k3 : PySem.W.kitOne G (.ref C) (.type "str") = some false
  k4 : PySem.W.kitOne G (.ref C) (.type "list") = some false
  k5 : PySem.W.kitOne G (.ref C) (.type "tuple") = some false
noncomputable def ExO (C a : Addr) (h : Heap) : Prop := ∃ o vs, h.get? a = some o ∧ o.cls = .ref C ∧ o.data = .fields vs
inductive ImO where
  | tup (xs : List V)
  | ext (φ : Heap → Prop)
noncomputable def ImO.ho : ImO → HO
  | .tup xs => .tup xs
  | .ext φ => .ext φ
inductive MuO where
  | lst (xs : List V)
  | dK (kvs : List (Key × V))
  | dT (kvs : List (List Key × V))
noncomputable def MuO.ho : MuO → HO
  | .lst xs => .lst xs
  | .dK kvs => .dK kvs
  | .dT kvs => .dT kvs
noncomputable def keyD : Key → PyData
  | .inl i => .int i
  | .inr x => .str x
noncomputable def keyT (ks : List Key) : PyData := .tuple (ks.map keyD)
noncomputable abbrev KY := Sum Key (List Key)
noncomputable def kyD : KY → PyData
  | .inl k => keyD k
  | .inr ks => keyT ks
noncomputable def MuO.dic (t : Bool) (ks : List KY) (xs : List V) : MuO → Prop
  | .lst _ => False
  | .dK kvs => t = false ∧ ks = kvs.map (fun p => .inl p.1) ∧ xs = kvs.map (·.2)
  | .dT kvs => t = true ∧ ks = kvs.map (fun p => .inr p.1) ∧ xs = kvs.map (·.2)
noncomputable def dcD (t : Bool) (ks : List KY) (ds : List PyData) : PyData := .dict ((.none, .bool t) :: (ks.map kyD).zip ds)
theorem ImO.nm {H : Hp} {a : Addr} {x : ImO} {y : MuO} (h : H a = some x.ho) (h' : H a = some y.ho) : False := by
  rw [h] at h'
  cases x <;> cases y <;> cases h'
theorem ImO.nl {H : Hp} {a : Addr} {x : ImO} {ys : List V} (h : H a = some x.ho) (h' : H a = some (.lst ys)) : False := by
  rw [h] at h'
  cases x <;> cases h'
mutual
inductive Da (G : PySem.W.Frag) (H : Hp) (L : Addr → Prop) : V → PyData → Prop where
  | non : Da G H L .non .none
  | bl (b : Bool) : Da G H L (.bl b) (.bool b)
  | int (i : Int) : Da G H L (.int i) (.int i)
  | str (x : Str) : Da G H L (.str x) (.str x)
  | lst {a : Addr} {xs : List V} {ds : List PyData} : L a → Rd H a (.lst xs) → Das G H L xs ds → Da G H L (.ref a) (.list ds)
  | tup {a : Addr} {xs : List V} {ds : List PyData} : H a = some (.tup xs) → Das G H L xs ds → Da G H L (.ref a) (.tuple ds)
  | scr {a : Addr} {ns : List Int} : KS G a ns → Da G H L (.ref a) (.list (ns.map PyData.int))
  | exc {a C : Addr} {x : Str} : ExCls G C → ClsAt G x C → H a = some (.ext (ExO C a)) → Da G H L (.ref a) (exD x)
  | fn {a : Addr} {x : Str} : ClsAt G x a → Da G H L (.ref a) (fnD x)
  | dic {a : Addr} {o : MuO} {t : Bool} {ks : List KY} {xs : List V} {ds : List PyData} : L a → Rd H a o.ho → o.dic t ks xs → Das G H L xs ds → Da G H L (.ref a) (dcD t ks ds)
inductive Das (G : PySem.W.Frag) (H : Hp) (L : Addr → Prop) : List V → List PyData → Prop where
  | nil : Das G H L [] []
  | cons {x : V} {xs : List V} {d : PyData} {ds : List PyData} : Da G H L x d → Das G H L xs ds → Das G H L (x :: xs) (d :: ds)
end
section
variable {H H' : Hp} {L L' : Addr → Prop}
theorem Da.both {P : V → PyData → Prop} {Q : List V → List PyData → Prop} (c1 : P .non .none) (c2 : ∀ b, P (.bl b) (.bool b)) (c3 : ∀ i, P (.int i) (.int i)) (c4 : ∀ x, P (.str x) (.str x))
    (c5 : ∀ {a : Addr} {xs : List V} {ds : List PyData}, L a → Rd H a (.lst xs) → Q xs ds → P (.ref a) (.list ds)) (c6 : ∀ {a : Addr} {xs : List V} {ds : List PyData}, H a = some (.tup xs) → Q xs ds → P (.ref a) (.tuple ds))
    (c7 : ∀ {a : Addr} {ns : List Int}, KS G a ns → P (.ref a) (.list (ns.map PyData.int))) (c8 : ∀ {a C : Addr} {x : Str}, ExCls G C → ClsAt G x C → H a = some (.ext (ExO C a)) → P (.ref a) (exD x)) (c9 : ∀ {a : Addr} {x : Str}, ClsAt G x a → P (.ref a) (fnD x))
    (c10 : ∀ {a : Addr} {o : MuO} {t : Bool} {ks : List KY} {xs : List V} {ds : List PyData}, L a → Rd H a o.ho → o.dic t ks xs → Q xs ds → P (.ref a) (dcD t ks ds)) (n : Q [] []) (c : ∀ {x : V} {xs : List V} {d : PyData} {ds : List PyData}, P x d → Q xs ds → Q (x :: xs) (d :: ds)) : (∀ {v d}, Da G H L v d → P v d) ∧ ∀ {xs ds}, Das G H L xs ds → Q xs ds :=
  ⟨fun h => Da.rec (motive_1 := fun v d _ => P v d) (motive_2 := fun xs ds _ => Q xs ds) c1 c2 c3 c4 (fun p e _ r => c5 p e r) (fun e _ r => c6 e r) (fun k => c7 k) (fun k l m => c8 k l m) (fun k => c9 k) (fun p e k _ r => c10 p e k r) n (fun _ _ p q => c p q) h,
   fun h => Das.rec (motive_1 := fun v d _ => P v d) (motive_2 := fun xs ds _ => Q xs ds) c1 c2 c3 c4 (fun p e _ r => c5 p e r) (fun e _ r => c6 e r) (fun k => c7 k) (fun k l m => c8 k l m) (fun k => c9 k) (fun p e k _ r => c10 p e k r) n (fun _ _ p q => c p q) h⟩
theorem Das.ind {Q : List V → List PyData → Prop} (n : Q [] []) (c : ∀ {x : V} {xs : List V} {d : PyData} {ds : List PyData}, Da G H L x d → Das G H L xs ds → Q xs ds → Q (x :: xs) (d :: ds)) : ∀ {xs ds}, Das G H L xs ds → Q xs ds := fun h =>
  Das.rec (motive_1 := fun _ _ _ => True) (motive_2 := fun xs ds _ => Q xs ds) trivial (fun _ => trivial) (fun _ => trivial) (fun _ => trivial) (fun _ _ _ _ => trivial) (fun _ _ _ => trivial) (fun _ => trivial) (fun _ _ _ => trivial) (fun _ => trivial) (fun _ _ _ _ _ => trivial) n (fun p q _ r => c p q r) h
theorem Da.frame2 (hl : ∀ a (xs : MuO), L a → Rd H a xs.ho → L' a ∧ Rd H' a xs.ho) (ht : ∀ a (xs : ImO), H a = some xs.ho → H' a = some xs.ho) : (∀ {v : V} {d : PyData}, Da G H L v d → Da G H' L' v d) ∧ ∀ {xs : List V} {ds : List PyData}, Das G H L xs ds → Das G H' L' xs ds :=
  Da.both .non .bl .int .str (fun {_ xs _} p e r => .lst (hl _ (.lst xs) p e).1 (hl _ (.lst xs) p e).2 r) (fun {_ xs _} e r => .tup (ht _ (.tup xs) e) r) .scr (fun c n e => .exc c n (ht _ (.ext _) e)) .fn (fun p e k r => .dic (hl _ _ p e).1 (hl _ _ p e).2 k r) .nil .cons
theorem Da.frame (hl : ∀ a (xs : MuO), L a → Rd H a xs.ho → L' a ∧ Rd H' a xs.ho) (ht : ∀ a (xs : ImO), H a = some xs.ho → H' a = some xs.ho) {v : V} {d : PyData} (h : Da G H L v d) : Da G H' L' v d := (Da.frame2 hl ht).1 h
theorem Das.frame (hl : ∀ a (xs : MuO), L a → Rd H a xs.ho → L' a ∧ Rd H' a xs.ho) (ht : ∀ a (xs : ImO), H a = some xs.ho → H' a = some xs.ho) {xs : List V} {ds : List PyData} (h : Das G H L xs ds) : Das G H' L' xs ds := (Da.frame2 hl ht).2 h
theorem Rd.same {a : Addr} {u : HO} (s : Same H H') (h : Rd H a u) : Rd H' a u := h.imp (s _ _) fun ⟨o, h⟩ => ⟨o, s _ _ h⟩
theorem Rd.some {a : Addr} {u : HO} (h : Rd H a u) : H a ≠ Option.none := by
  rcases h with h | ⟨o, h⟩ <;> rw [h] <;> intro z <;> cases z
theorem Da.same (h : Same H H') {v : V} {d : PyData} (x : Da G H L v d) : Da G H' L v d := x.frame (fun a xs p e => ⟨p, e.same h⟩) fun a xs e => h _ _ e
theorem Das.same (h : Same H H') {v : List V} {d : List PyData} (x : Das G H L v d) : Das G H' L v d := x.frame (fun a xs p e => ⟨p, e.same h⟩) fun a xs e => h _ _ e
theorem Da.wide (h : ∀ a, L a → H a ≠ none → L' a) {v : V} {d : PyData} (x : Da G H L v d) : Da G H L' v d := x.frame (fun a xs p e => ⟨h a p e.some, e⟩) fun a xs e => e
theorem Das.wide (h : ∀ a, L a → H a ≠ none → L' a) {v : List V} {d : List PyData} (x : Das G H L v d) : Das G H L' v d := x.frame (fun a xs p e => ⟨h a p e.some, e⟩) fun a xs e => e
theorem Das.length {xs : List V} {ds : List PyData} (h : Das G H L xs ds) : xs.length = ds.length := Das.ind (Q := fun xs ds => xs.length = ds.length) rfl (fun _ _ r => congrArg (· + 1) r) h
theorem Das.append {xs ys : List V} {ds es : List PyData} (h : Das G H L xs ds) (k : Das G H L ys es) : Das G H L (xs ++ ys) (ds ++ es) := Das.ind (Q := fun xs ds => Das G H L (xs ++ ys) (ds ++ es)) k (fun h _ r => .cons h r) h
theorem Das.get {xs : List V} {ds : List PyData} {i : Nat} {d : PyData} (h : Das G H L xs ds) : ds[i]? = some d → ∃ x, xs[i]? = some x ∧ Da G H L x d :=
  Das.ind (Q := fun xs ds => ∀ i, ds[i]? = some d → ∃ x, xs[i]? = some x ∧ Da G H L x d) (fun _ e => (Option.some_ne_none _ (e.symm.trans List.getElem?_nil)).elim) (fun {x _ _ _} h _ r i => Nat.casesOn i (fun e => ⟨x, rfl, Option.some.inj e ▸ h⟩) fun i e => r i e) h i
theorem Das.take {xs : List V} {ds : List PyData} (n : Nat) (h : Das G H L xs ds) : Das G H L (xs.take n) (ds.take n) :=
  Das.ind (Q := fun xs ds => ∀ n, Das G H L (xs.take n) (ds.take n)) (fun n => by rw [List.take_nil, List.take_nil]; exact .nil) (fun h _ r n => Nat.casesOn n .nil fun n => .cons h (r n)) h n
theorem Das.drop {xs : List V} {ds : List PyData} (n : Nat) (h : Das G H L xs ds) : Das G H L (xs.drop n) (ds.drop n) :=
  Das.ind (Q := fun xs ds => ∀ n, Das G H L (xs.drop n) (ds.drop n)) (fun n => by rw [List.drop_nil, List.drop_nil]; exact .nil) (fun h q r n => Nat.casesOn n (.cons h q) fun n => r n) h n
theorem Das.ints (ns : List Int) : Das G H L (ns.map V.int) (ns.map PyData.int) := by
  induction ns with
  | nil => exact .nil
  | cons n ns ih => exact .cons (.int n) ih
end
theorem reads_ints {h : Heap} (ns : List Int) {us : List Value} (v : Vals (ns.map V.int) us) : ∃ as, ReadsAll h us (ns.map PyData.int) as := by
  induction ns generalizing us with
  | nil => cases v; exact ⟨_, .nil⟩
  | cons n ns ih =>
    rw [List.map_cons] at v
    cases v with
    | cons r rs =>
      obtain ⟨t, e⟩ := (show ∃ t, _ = Value.int n t from r)
      subst e
      obtain ⟨bs, k'⟩ := ih rs
      exact ⟨_, .cons (.int n t) k'⟩
section
variable {X : Cx} {pins : List (Addr × Obj)} {σ : St} {H : Hp} {s : Shared} {L L' : Addr → Prop}
theorem Da.reads2 (hG : X.K = G) (I : Inv X pins σ H s) : (∀ {v : V} {d : PyData}, Da G H L v d → ∀ u, RelV v u → d.canLay0 = true → ∃ as, Reads s.heap u d as) ∧ ∀ {xs : List V} {ds : List PyData}, Das G H L xs ds → ∀ us, Vals xs us → PyData.canLayAll0 ds = true → ∃ as, ReadsAll s.heap us ds as := by
  refine Da.both ?_ ?_ ?_ ?_ ?_ ?_ ?_ ?_ ?_ ?_ ?_ ?_
  · intro u r _
    cases (show _ = Value.none from r)
    exact ⟨_, .none⟩
  · intro b u r _
    cases (show _ = Value.bool b from r)
    exact ⟨_, .bool b⟩
  · intro i u r _
    obtain ⟨t, e⟩ := (show ∃ t, _ = Value.int i t from r)
    subst e
    exact ⟨_, .int i t⟩
  · intro x u r _
    obtain ⟨t, e⟩ := (show ∃ t, _ = Value.str x t from r)
    subst e
    exact ⟨_, .str x t⟩
  · intro a xs ds _ e q u r hcl
    cases (show _ = Value.ref a from r)
    obtain ⟨_, its, n, vs, h1⟩ := (show ObjOk X.prog X.w H s.heap a (.lst xs) from e.ok I.hok)
    rw [PyData.canLay0] at hcl
    obtain ⟨as, k⟩ := q _ vs hcl
    exact ⟨_, Reads.list h1 rfl rfl k⟩
  · intro a xs ds e q u r hcl
    cases (show _ = Value.ref a from r)
    obtain ⟨_, its, vs, o, ho, hc, n, hd⟩ := (show ObjOk X.prog X.w H s.heap a (.tup xs) from I.hok a _ e)
    rw [PyData.canLay0] at hcl
    obtain ⟨as, k⟩ := q _ vs hcl
    exact ⟨_, Reads.tuple ho hc hd k⟩
  · intro a ns k u r _
    cases (show _ = Value.ref a from r)
    subst hG
    obtain ⟨its, vs, ⟨o, n, ho, hc, hd, hs⟩, _⟩ := I.list (k.sq (H := H))
    obtain ⟨as, q⟩ := reads_ints ns vs
    exact ⟨_, Reads.list ho hc hs q⟩
  · intro a C x _ _ e u r hc
    rw [exD, PyData.canLay0] at hc
    cases hc
  · intro a x _ u r hc
    rw [fnD, PyData.canLay0] at hc
    cases hc
  · intro a o t ks xs ds _ _ _ _ u r hc
    rw [dcD, PyData.canLay0] at hc
    cases hc
  · intro us v _
    cases v
    exact ⟨_, .nil⟩
  · intro x xs d ds h q us v hc
    cases v with
    | cons r rs =>
      rw [PyData.canLayAll0, Bool.and_eq_true] at hc
      obtain ⟨as, k⟩ := h _ r hc.1
      obtain ⟨bs, k'⟩ := q _ rs hc.2
      exact ⟨_, .cons k k'⟩
theorem Da.reads (hG : X.K = G) (I : Inv X pins σ H s) {v : V} {d : PyData} {u : Value} (h : Da G H L v d) (r : RelV v u) (c : d.canLay0 = true) : ∃ as, Reads s.heap u d as := (Da.reads2 hG I).1 h u r c
end
inductive OT where
  | fz (d : PyData)
  | nd (ts : List OT)
  | tp (ts : List OT)
  | dc (t : Bool) (ks : List KY) (ds : List PyData)
mutual
noncomputable def OT.data : OT → PyData
  | .fz d => d
  | .nd ts => .list (OT.datas ts)
  | .tp ts => .tuple (OT.datas ts)
  | .dc t ks ds => dcD t ks ds
noncomputable def OT.datas : List OT → List PyData
  | [] => []
  | t :: ts => t.data :: OT.datas ts
end
theorem OT.datas_map : ∀ (ts : List OT), OT.datas ts = ts.map OT.data
  | [] => rfl
  | t :: ts => by rw [OT.datas, OT.datas_map ts]; rfl
@[simp] theorem OT.data_fz (d : PyData) : (OT.fz d).data = d := by rw [OT.data]
@[simp] theorem OT.data_nd (ts : List OT) : (OT.nd ts).data = .list (ts.map OT.data) := by rw [OT.data, OT.datas_map]
@[simp] theorem OT.data_tp (ts : List OT) : (OT.tp ts).data = .tuple (ts.map OT.data) := by rw [OT.data, OT.datas_map]
theorem OT.data_dc (t : Bool) (ks : List KY) (ds : List PyData) : (OT.dc t ks ds).data = dcD t ks ds := by rw [OT.data]
@[simp] theorem OT.map_fz (ds : List PyData) : (ds.map OT.fz).map OT.data = ds := by
  rw [List.map_map]
  exact (List.map_congr_left fun d _ => OT.data_fz d).trans (List.map_id _)
mutual
inductive Own (G : PySem.W.Frag) (H : Hp) (L : Addr → Prop) : V → OT → List Addr → Prop where
  | fz {v : V} {d : PyData} : Da G H L v d → Own G H L v (.fz d) []
  | nd {a : Addr} {xs : List V} {ts : List OT} {bs : List Addr} : H a = some (.lst xs) → Owns G H L xs ts bs → Own G H L (.ref a) (.nd ts) (a :: bs)
  | tp {a : Addr} {xs : List V} {ts : List OT} {bs : List Addr} : H a = some (.tup xs) → Owns G H L xs ts bs → Own G H L (.ref a) (.tp ts) bs
  | dc {a : Addr} {o : MuO} {t : Bool} {ks : List KY} {xs : List V} {ds : List PyData} : H a = some o.ho → o.dic t ks xs → Das G H L xs ds → Own G H L (.ref a) (.dc t ks ds) [a]
inductive Owns (G : PySem.W.Frag) (H : Hp) (L : Addr → Prop) : List V → List OT → List Addr → Prop where
  | nil : Owns G H L [] [] []
  | cons {x : V} {xs : List V} {t : OT} {ts : List OT} {as bs : List Addr} : Own G H L x t as → Owns G H L xs ts bs → Owns G H L (x :: xs) (t :: ts) (as ++ bs)
end
section
variable {H H' : Hp} {L L' : Addr → Prop}
theorem Own.both {P : V → OT → List Addr → Prop} {Q : List V → List OT → List Addr → Prop} (c1 : ∀ {v : V} {d : PyData}, Da G H L v d → P v (.fz d) []) (c2 : ∀ {a : Addr} {xs : List V} {ts : List OT} {bs : List Addr}, H a = some (.lst xs) → Q xs ts bs → P (.ref a) (.nd ts) (a :: bs))
    (c3 : ∀ {a : Addr} {xs : List V} {ts : List OT} {bs : List Addr}, H a = some (.tup xs) → Q xs ts bs → P (.ref a) (.tp ts) bs) (c4 : ∀ {a : Addr} {o : MuO} {t : Bool} {ks : List KY} {xs : List V} {ds : List PyData}, H a = some o.ho → o.dic t ks xs → Das G H L xs ds → P (.ref a) (.dc t ks ds) [a]) (n : Q [] [] []) (c : ∀ {x : V} {xs : List V} {t : OT} {ts : List OT} {as bs : List Addr}, P x t as → Q xs ts bs → Q (x :: xs) (t :: ts) (as ++ bs)) :
    (∀ {v t as}, Own G H L v t as → P v t as) ∧ ∀ {xs ts as}, Owns G H L xs ts as → Q xs ts as :=
  ⟨fun h => Own.rec (motive_1 := fun v t as _ => P v t as) (motive_2 := fun xs ts as _ => Q xs ts as) c1 (fun e _ r => c2 e r) (fun e _ r => c3 e r) (fun e k r => c4 e k r) n (fun _ _ p q => c p q) h,
   fun h => Owns.rec (motive_1 := fun v t as _ => P v t as) (motive_2 := fun xs ts as _ => Q xs ts as) c1 (fun e _ r => c2 e r) (fun e _ r => c3 e r) (fun e k r => c4 e k r) n (fun _ _ p q => c p q) h⟩
theorem Own.frame2 (hl : ∀ a (xs : MuO), L a → Rd H a xs.ho → L' a ∧ Rd H' a xs.ho) (ht : ∀ a (xs : ImO), H a = some xs.ho → H' a = some xs.ho) :
    (∀ {v : V} {t : OT} {as : List Addr}, Own G H L v t as → (∀ a ∈ as, ∀ xs : MuO, H a = some xs.ho → H' a = some xs.ho) → Own G H' L' v t as) ∧ ∀ {xs : List V} {ts : List OT} {as : List Addr}, Owns G H L xs ts as → (∀ a ∈ as, ∀ xs : MuO, H a = some xs.ho → H' a = some xs.ho) → Owns G H' L' xs ts as :=
  Own.both (fun h _ => .fz (h.frame hl ht)) (fun {_ xs _ _} e r ha => .nd (ha _ (.head _) (.lst xs) e) (r fun a m => ha a (.tail _ m))) (fun {_ xs _ _} e r ha => .tp (ht _ (.tup xs) e) (r ha)) (fun e k r ha => .dc (ha _ (.head _) _ e) k (r.frame hl ht)) (fun _ => .nil) (fun h r ha => .cons (h fun a m => ha a (List.mem_append_left _ m)) (r fun a m => ha a (List.mem_append_right _ m)))
theorem Own.frame (hl : ∀ a (xs : MuO), L a → Rd H a xs.ho → L' a ∧ Rd H' a xs.ho) (ht : ∀ a (xs : ImO), H a = some xs.ho → H' a = some xs.ho) {v : V} {t : OT} {as : List Addr} (ha : ∀ a ∈ as, ∀ xs : MuO, H a = some xs.ho → H' a = some xs.ho) (h : Own G H L v t as) : Own G H' L' v t as := (Own.frame2 hl ht).1 h ha
theorem Owns.frame (hl : ∀ a (xs : MuO), L a → Rd H a xs.ho → L' a ∧ Rd H' a xs.ho) (ht : ∀ a (xs : ImO), H a = some xs.ho → H' a = some xs.ho) {xs : List V} {ts : List OT} {as : List Addr} (ha : ∀ a ∈ as, ∀ xs : MuO, H a = some xs.ho → H' a = some xs.ho) (h : Owns G H L xs ts as) : Owns G H' L' xs ts as := (Own.frame2 hl ht).2 h ha
theorem Own.same (h : Same H H') {v : V} {t : OT} {as : List Addr} (x : Own G H L v t as) : Own G H' L v t as := x.frame (fun a xs p e => ⟨p, e.same h⟩) (fun a xs e => h _ _ e) fun a _ xs e => h _ _ e
theorem Own.wide (h : ∀ a, L a → H a ≠ none → L' a) {v : V} {t : OT} {as : List Addr} (x : Own G H L v t as) : Own G H L' v t as := x.frame (fun a xs p e => ⟨h a p e.some, e⟩) (fun a xs e => e) fun a _ xs e => e
theorem Owns.wide (h : ∀ a, L a → H a ≠ none → L' a) {v : List V} {t : List OT} {as : List Addr} (x : Owns G H L v t as) : Owns G H L' v t as := x.frame (fun a xs p e => ⟨h a p e.some, e⟩) (fun a xs e => e) fun a _ xs e => e
theorem Owns.same (h : Same H H') {v : List V} {t : List OT} {as : List Addr} (x : Owns G H L v t as) : Owns G H' L v t as := x.frame (fun a xs p e => ⟨p, e.same h⟩) (fun a xs e => h _ _ e) fun a _ xs e => h _ _ e
theorem Own.da2 (h : ∀ a, L a → H a ≠ none → L' a) : (∀ {v : V} {t : OT} {as : List Addr}, Own G H L v t as → (∀ a ∈ as, L' a) → Da G H L' v t.data) ∧ ∀ {v : List V} {t : List OT} {as : List Addr}, Owns G H L v t as → (∀ a ∈ as, L' a) → Das G H L' v (OT.datas t) :=
  Own.both (fun k _ => by rw [OT.data_fz]; exact k.wide h) (fun e r ha => by rw [OT.data]; exact .lst (ha _ (.head _)) (.inl e) (r fun a m => ha a (.tail _ m))) (fun e r ha => by rw [OT.data]; exact .tup e (r ha)) (fun e k r ha => by rw [OT.data]; exact .dic (ha _ (.head _)) (.inl e) k (r.wide h)) (fun _ => .nil) (fun k r ha => .cons (k fun a m => ha a (List.mem_append_left _ m)) (r fun a m => ha a (List.mem_append_right _ m)))
theorem Own.da (h : ∀ a, L a → H a ≠ none → L' a) {v : V} {t : OT} {as : List Addr} (ha : ∀ a ∈ as, L' a) (k : Own G H L v t as) : Da G H L' v t.data := (Own.da2 h).1 k ha
theorem Owns.das (h : ∀ a, L a → H a ≠ none → L' a) {v : List V} {t : List OT} {as : List Addr} (ha : ∀ a ∈ as, L' a) (k : Owns G H L v t as) : Das G H L' v (OT.datas t) := (Own.da2 h).2 k ha
theorem Own.some2 : (∀ {v : V} {t : OT} {as : List Addr}, Own G H L v t as → ∀ a ∈ as, ∃ xs : MuO, H a = some xs.ho) ∧ ∀ {v : List V} {t : List OT} {as : List Addr}, Owns G H L v t as → ∀ a ∈ as, ∃ xs : MuO, H a = some xs.ho :=
  Own.both (fun _ _ m => nomatch m) (fun {_ xs _ _} e r a m => (List.mem_cons.mp m).elim (fun q => ⟨.lst xs, q ▸ e⟩) (r a)) (fun _ r => r) (fun {_ o _ _ _ _} e _ _ a m => ⟨o, List.mem_singleton.mp m ▸ e⟩) (fun _ m => nomatch m) (fun k r a m => (List.mem_append.mp m).elim (k a) (r a))
theorem Own.some {v : V} {t : OT} {as : List Addr} (h : Own G H L v t as) : ∀ a ∈ as, ∃ xs : MuO, H a = some xs.ho := Own.some2.1 h
theorem Owns.some {v : List V} {t : List OT} {as : List Addr} (h : Owns G H L v t as) : ∀ a ∈ as, ∃ xs : MuO, H a = some xs.ho := Own.some2.2 h
theorem Owns.length {xs : List V} {ts : List OT} {as : List Addr} (h : Owns G H L xs ts as) : xs.length = ts.length := (Own.both (P := fun _ _ _ => True) (Q := fun xs ts _ => xs.length = ts.length) (fun _ => trivial) (fun _ _ => trivial) (fun _ _ => trivial) (fun _ _ _ => trivial) rfl (fun _ r => congrArg (· + 1) r)).2 h
theorem Das.owns {xs : List V} {ds : List PyData} (h : Das G H L xs ds) : Owns G H L xs (ds.map OT.fz) [] := Das.ind (Q := fun xs ds => Owns G H L xs (ds.map OT.fz) []) .nil (fun h _ r => .cons (.fz h) r) h
end
end L2
namespace L2
open PySem PySem.Spec PyProof.Rows
variable {G : PySem.W.Frag}
noncomputable abbrev DEnv := List (Option OT)
noncomputable abbrev Fp := Nat → List Addr
set_option genInjectivity false in
structure MC (G : PySem.W.Frag) where
  H₀ : Hp
  as₀ : Addr → Prop
  L : Addr → Prop
  σ₀ : St
noncomputable def Foot (fp : Fp) (a : Addr) : Prop := ∃ i, a ∈ fp i
noncomputable def Lf (C : MC G) (fp : Fp) (ex : Addr → Prop) (a : Addr) : Prop := ¬ Foot fp a ∧ ¬ ex a ∧ (C.L a ∨ C.H₀ a = none)
structure Rel (C : MC G) (io : List Nat) (H : Hp) (σ : St) (δ : DEnv) (fp : Fp) (ex : Addr → Prop) : Prop where
  len : σ.length = δ.length
  own : ∀ (i : Nat) (t : OT), δ[i]? = some (some t) → ∃ v, σ[i]? = some (some v) ∧ Own G H (Lf C fp ex) v t (fp i)
  emp : ∀ i : Nat, (∀ t, δ[i]? ≠ some (some t)) → fp i = []
  nd : ∀ i, (fp i).Nodup
  dj : ∀ i j a, a ∈ fp i → a ∈ fp j → i = j
  dx : ∀ i a, a ∈ fp i → ¬ ex a
  xa : ∀ a, ex a → H a ≠ none
  fr : ∀ b o, C.H₀ b = some o → ¬ C.as₀ b → H b = some o
  al : ∀ b, H b = none → C.H₀ b = none
  new : ∀ i a, a ∈ fp i → (i ∈ io ∧ C.as₀ a) ∨ C.H₀ a = none
  io : ∀ i ∈ io, σ[i]? = C.σ₀[i]?
structure Stp (p : Bool) (H : Hp) (δ : DEnv) (fp : Fp) (H' : Hp) (δ' : DEnv) (fp' : Fp) : Prop where
  keep : ∀ b o, H b = some o → (p = true ∨ ¬ Foot fp b) → H' b = some o
  env : p = true → δ' = δ ∧ fp' = fp
  grow : ∀ a, Foot fp' a → Foot fp a ∨ H a = none
  al : ∀ b, H' b = none → H b = none
section
variable {C : MC G} {io : List Nat} {H H' H'' : Hp} {σ : St} {δ δ' δ'' : DEnv} {fp fp' fp'' : Fp} {ex ex' : Addr → Prop} {p p' c : Bool} {v : V} {d : PyData} {r : OT} {new : List Addr}
theorem Rel.foot (R : Rel C io H σ δ fp ex) {a : Addr} (h : Foot fp a) : ∃ xs : MuO, H a = some xs.ho := by
  obtain ⟨i, h⟩ := h
  by_cases q : ∃ t, δ[i]? = some (some t)
  · obtain ⟨t, q⟩ := q
    obtain ⟨v, _, o⟩ := R.own i t q
    exact o.some a h
  · rw [R.emp i (fun t z => q ⟨t, z⟩)] at h
    exact nomatch h
theorem Rel.footSome (R : Rel C io H σ δ fp ex) {a : Addr} (h : H a = none) : ¬ Foot fp a := fun z => by
  obtain ⟨xs, e⟩ := R.foot z
  rw [h] at e
  cases e
theorem Stp.refl (p : Bool) (H : Hp) (δ : DEnv) (fp : Fp) : Stp p H δ fp H δ fp := ⟨fun _ _ h _ => h, fun _ => ⟨rfl, rfl⟩, fun _ h => .inl h, fun _ h => h⟩
theorem Stp.same (h : Same H H') (hn : ∀ b, H' b = none → H b = none) : Stp p H δ fp H' δ fp := ⟨fun _ _ q _ => h _ _ q, fun _ => ⟨rfl, rfl⟩, fun _ h => .inl h, hn⟩
theorem Same.al (h : Same H H') : ∀ b, H' b = none → H b = none := fun _ q => h.free q
theorem Stp.trans (a : Stp p H δ fp H' δ' fp') (b : Stp p' H' δ' fp' H'' δ'' fp'') : Stp (p && p') H δ fp H'' δ'' fp'' where
  keep := fun x o e h => by
    rcases h with h | h
    · rw [Bool.and_eq_true] at h
      exact b.keep x o (a.keep x o e (.inl h.1)) (.inl h.2)
    · refine b.keep x o (a.keep x o e (.inr h)) (.inr fun z => ?_)
      rcases a.grow x z with z | z
      · exact h z
      · rw [e] at z; cases z
  env := fun h => by
    rw [Bool.and_eq_true] at h
    obtain ⟨e1, e2⟩ := a.env h.1
    obtain ⟨e3, e4⟩ := b.env h.2
    exact ⟨e3.trans e1, e4.trans e2⟩
  grow := fun x h => by
    rcases b.grow x h with h | h
    · exact a.grow x h
    · exact .inr (a.al x h)
  al := fun x h => a.al x (b.al x h)
theorem Rel.frameL (R : Rel C io H σ δ fp ex) (S : Stp p H δ fp H' δ' fp') (hc : p = true ∨ c = true) (hx : ∀ a, ex' a → ex a ∨ H a = none) :
    (∀ a (xs : MuO), (c = true → Lf C fp ex a) → Rd H a xs.ho → (c = true → Lf C fp' ex' a) ∧ Rd H' a xs.ho) ∧ (∀ a (xs : ImO), H a = some xs.ho → H' a = some xs.ho) := by
  have nf : ∀ a, Foot fp a → ∃ xs : MuO, H a = some xs.ho := fun a h => R.foot h
  refine ⟨fun a xs l q => ⟨fun hc' => ?_, ?_⟩, fun a xs q => S.keep a _ q (.inr fun z => ?_)⟩
  · obtain ⟨l1, l2, l3⟩ := l hc'
    refine ⟨fun z => ?_, fun z => ?_, l3⟩
    · rcases S.grow a z with z | z
      · exact l1 z
      · exact q.some z
    · rcases hx a z with z | z
      · exact l2 z
      · exact q.some z
  · have hk : p = true ∨ ¬ Foot fp a := by
      rcases hc with h | h
      · exact .inl h
      · exact .inr (l h).1
    rcases q with q | ⟨o, q⟩
    · exact .inl (S.keep a _ q hk)
    · exact .inr ⟨o, S.keep a _ q hk⟩
  · obtain ⟨ys, e⟩ := nf a z
    exact ImO.nm q e
theorem Rel.own_step (R : Rel C io H σ δ fp ex) (S : Stp p H δ fp H' δ' fp') (hc : p = true ∨ c = true) (hx : ∀ a, ex' a → ex a ∨ H a = none) (hn : ∀ a ∈ new, ex a)
    (x : Own G H (fun a => c = true → Lf C fp ex a) v r new) : Own G H' (fun a => c = true → Lf C fp' ex' a) v r new :=
  x.frame (R.frameL S hc hx).1 (R.frameL S hc hx).2 fun a m xs e => S.keep a _ e (.inr fun ⟨i, z⟩ => R.dx i a z (hn a m))
theorem Rel.owns_step (R : Rel C io H σ δ fp ex) (S : Stp p H δ fp H' δ' fp') (hc : p = true ∨ c = true) (hx : ∀ a, ex' a → ex a ∨ H a = none) (hn : ∀ a ∈ new, ex a) {vs : List V} {rs : List OT}
    (x : Owns G H (fun a => c = true → Lf C fp ex a) vs rs new) : Owns G H' (fun a => c = true → Lf C fp' ex' a) vs rs new :=
  x.frame (R.frameL S hc hx).1 (R.frameL S hc hx).2 fun a m xs e => S.keep a _ e (.inr fun ⟨i, z⟩ => R.dx i a z (hn a m))
theorem Rel.drop (R : Rel C io H σ δ fp ex) (h : ∀ a, ex' a → ex a) : Rel C io H σ δ fp ex' :=
  ⟨R.len, fun i t e => by
    obtain ⟨v, e1, o⟩ := R.own i t e
    exact ⟨v, e1, o.wide fun a l _ => ⟨l.1, fun z => l.2.1 (h a z), l.2.2⟩⟩, R.emp, R.nd, R.dj, fun i a m z => R.dx i a m (h a z), fun a z => R.xa a (h a z), R.fr, R.al, R.new, R.io⟩
theorem Rel.made (R : Rel C io H σ δ fp ex) (s : Same H H') (hn : ∀ a ∈ new, H a = none ∧ H' a ≠ none) : Rel C io H' σ δ fp (fun a => ex a ∨ a ∈ new) :=
  ⟨R.len, fun i t e => by
    obtain ⟨v, e1, o⟩ := R.own i t e
    refine ⟨v, e1, (o.wide fun a l q => ⟨l.1, fun z => ?_, l.2.2⟩).same s⟩
    rcases z with z | z
    · exact l.2.1 z
    · exact q (hn a z).1, R.emp, R.nd, R.dj, fun i a m z => by
      rcases z with z | z
      · exact R.dx i a m z
      · exact R.footSome (hn a z).1 ⟨i, m⟩, fun a z => by
      rcases z with z | z
      · intro q; exact R.xa a z (s.free q)
      · exact (hn a z).2, fun b o e n => s _ _ (R.fr b o e n), fun b q => R.al b (s.free q), R.new, R.io⟩
end
noncomputable abbrev MEt := DEnv → (OT → DEnv → Prop) → Prop
noncomputable abbrev MAt := DEnv → (List OT → DEnv → Prop) → Prop
noncomputable abbrev MTt := DEnv → (Bool → DEnv → Prop) → Prop
noncomputable abbrev exu (ex : Addr → Prop) (new : List Addr) : Addr → Prop := fun a => ex a ∨ a ∈ new
structure RE (C : MC G) (io : List Nat) (p c : Bool) (H : Hp) (σ : St) (δ : DEnv) (fp : Fp) (ex : Addr → Prop) (H' : Hp) (v : V) (r : OT) (δ' : DEnv) (fp' : Fp) (new : List Addr) : Prop where
  rel : Rel C io H' σ δ' fp' (exu ex new)
  stp : Stp p H δ fp H' δ' fp'
  own : Own G H' (fun a => c = true → Lf C fp' (exu ex new) a) v r new
  nd : new.Nodup
  fresh : ∀ a ∈ new, H a = none
structure RA (C : MC G) (io : List Nat) (p c : Bool) (H : Hp) (σ : St) (δ : DEnv) (fp : Fp) (ex : Addr → Prop) (H' : Hp) (v : List V) (r : List OT) (δ' : DEnv) (fp' : Fp) (new : List Addr) : Prop where
  rel : Rel C io H' σ δ' fp' (exu ex new)
  stp : Stp p H δ fp H' δ' fp'
  own : Owns G H' (fun a => c = true → Lf C fp' (exu ex new) a) v r new
  nd : new.Nodup
  fresh : ∀ a ∈ new, H a = none
noncomputable def SE (G : PySem.W.Frag) (io : List Nat) (p c : Bool) (t : TE) (m : MEt) : Prop := ∀ (C : MC G) (H : Hp) (σ : St) (δ : DEnv) (fp : Fp) (ex : Addr → Prop) (K : OT → DEnv → Prop) (Q : VK), Rel C io H σ δ fp ex → m δ K →
  (∀ H' v r δ' fp' new, RE C io p c H σ δ fp ex H' v r δ' fp' new → K r δ' → Q v H') → t σ H Q
noncomputable def SA (G : PySem.W.Frag) (io : List Nat) (p c : Bool) (t : TA) (m : MAt) : Prop := ∀ (C : MC G) (H : Hp) (σ : St) (δ : DEnv) (fp : Fp) (ex : Addr → Prop) (K : List OT → DEnv → Prop) (Q : List V → Hp → Prop), Rel C io H σ δ fp ex → m δ K →
  (∀ H' v r δ' fp' new, RA C io p c H σ δ fp ex H' v r δ' fp' new → K r δ' → Q v H') → t σ H Q
noncomputable def STt (G : PySem.W.Frag) (io : List Nat) (p : Bool) (t : TT) (m : MTt) : Prop := ∀ (C : MC G) (H : Hp) (σ : St) (δ : DEnv) (fp : Fp) (ex : Addr → Prop) (K : Bool → DEnv → Prop) (Q : Bool → Hp → Prop), Rel C io H σ δ fp ex → m δ K →
  (∀ H' b δ' fp', Rel C io H' σ δ' fp' ex → Stp p H δ fp H' δ' fp' → K b δ' → Q b H') → t σ H Q
noncomputable def ME (X : Cx) (io : List Nat) (p c : Bool) (e : Expr) (m : MEt) : Prop := ∃ t, PE X e t ∧ SE X.K io p c t m
noncomputable def MA (X : Cx) (io : List Nat) (p c : Bool) (e : List Expr) (m : MAt) : Prop := ∃ t, PA X e t ∧ SA X.K io p c t m
noncomputable def MT (X : Cx) (io : List Nat) (p : Bool) (e : Expr) (m : MTt) : Prop := ∃ t, PT X e t ∧ STt X.K io p t m
noncomputable def MW (X : Cx) (io : List Nat) (p : Bool) (e : Expr) (m : MTt) : Prop := ∃ t, PW X e t ∧ STt X.K io p t m
section
variable {C : MC G} {io : List Nat} {H H' H'' : Hp} {σ : St} {δ δ' δ'' : DEnv} {fp fp' fp'' : Fp} {ex ex' : Addr → Prop} {p p' c : Bool} {v : V} {d : PyData} {r : OT} {vs : List V} {rs : List OT} {new : List Addr}
theorem Rel.newOk (R : Rel C io H σ δ fp ex) {a : Addr} (h : H a = none) : ¬ Foot fp a ∧ ¬ ex a ∧ C.H₀ a = none := ⟨R.footSome h, fun z => R.xa a z h, R.al a h⟩
theorem RE.da (R : RE C io p c H σ δ fp ex H' v r δ' fp' new) (R0 : Rel C io H σ δ fp ex) : Da G H' (fun a => c = true → Lf C fp' ex a) v r.data := by
  refine R.own.da (fun a l _ h => ?_) (fun a m _ => ?_)
  · exact ⟨(l h).1, fun z => (l h).2.1 (.inl z), (l h).2.2⟩
  · refine ⟨fun qz9 => ?_, (R0.newOk (R.fresh a m)).2.1, .inr (R0.newOk (R.fresh a m)).2.2⟩
    obtain ⟨i, z⟩ := qz9
    exact R.rel.dx i a z (.inr m)
theorem RA.das (R : RA C io p c H σ δ fp ex H' vs rs δ' fp' new) (R0 : Rel C io H σ δ fp ex) : Das G H' (fun a => c = true → Lf C fp' ex a) vs (OT.datas rs) := by
  refine R.own.das (fun a l _ h => ?_) (fun a m _ => ?_)
  · exact ⟨(l h).1, fun z => (l h).2.1 (.inl z), (l h).2.2⟩
  · refine ⟨fun qz9 => ?_, (R0.newOk (R.fresh a m)).2.1, .inr (R0.newOk (R.fresh a m)).2.2⟩
    obtain ⟨i, z⟩ := qz9
    exact R.rel.dx i a z (.inr m)
theorem RE.base (R : RE C io p c H σ δ fp ex H' v r δ' fp' new) : Rel C io H' σ δ' fp' ex := R.rel.drop fun a z => .inl z
theorem RA.base (R : RA C io p c H σ δ fp ex H' vs rs δ' fp' new) : Rel C io H' σ δ' fp' ex := R.rel.drop fun a z => .inl z
theorem exu_nil {a : Addr} : exu ex [] a ↔ ex a := by simp [exu]
theorem RE.fz (R : Rel C io H' σ δ' fp' ex) (S : Stp p H δ fp H' δ' fp') (h : Da G H' (fun a => c = true → Lf C fp' ex a) v d) : RE C io p c H σ δ fp ex H' v (.fz d) δ' fp' [] :=
  ⟨R.drop fun a z => exu_nil.mp z, S, .fz (h.wide fun a l _ hc => ⟨(l hc).1, fun z => (l hc).2.1 (exu_nil.mp z), (l hc).2.2⟩), .nil, fun a m => nomatch m⟩
theorem RE.tree {H1 : Hp} (R0 : Rel C io H σ δ fp ex) (R : Rel C io H1 σ δ' fp' ex) (S : Stp p H δ fp H1 δ' fp') (s : Same H1 H') (hn : ∀ a ∈ new, H1 a = none) (nd : new.Nodup)
    (o : Own G H' (fun a => ((c = true → Lf C fp' ex a) ∨ H1 a = none) ∧ a ∉ new) v r new) : RE C io p c H σ δ fp ex H' v r δ' fp' new := by
  refine ⟨R.made s fun a m => ⟨hn a m, fun z => ?_⟩, ?_, o.wide fun a l q hc => ?_, nd, fun a m => S.al a (hn a m)⟩
  · obtain ⟨xs, e⟩ := o.some a m
    rw [z] at e; cases e
  · have := S.trans (p' := true) (Stp.same (p := true) (δ := δ') (fp := fp') s s.al)
    rwa [Bool.and_true] at this
  · rcases l.1 with l1 | l1
    · exact ⟨(l1 hc).1, fun z => z.elim (l1 hc).2.1 l.2, (l1 hc).2.2⟩
    · exact ⟨R.footSome l1, fun z => z.elim (fun z => R.xa a z l1) l.2, .inr (R.al a l1)⟩
end
inductive ScD : V → PyData → Prop where
  | non : ScD .non .none
  | bl (b : Bool) : ScD (.bl b) (.bool b)
  | int (i : Int) : ScD (.int i) (.int i)
  | str (x : Str) : ScD (.str x) (.str x)
theorem ScD.da {H : Hp} {L : Addr → Prop} {v : V} {d : PyData} (h : ScD v d) : Da G H L v d := by
  cases h
  · exact .non
  · exact .bl _
  · exact .int _
  · exact .str _
section
variable {X : Cx} {io : List Nat} {p p' c c' : Bool} {e a b : Expr} {m ma mb : MEt} {es : List Expr}
noncomputable def mVar (i : Nat) : MEt := fun δ K => match δ[i]? with | some (some (.fz d)) => K (.fz d) δ | _ => False
noncomputable def mOwn (i : Nat) : MEt := fun δ K => match δ[i]? with | some (some t) => K (.fz t.data) δ | _ => False
noncomputable def mC (d : PyData) : MEt := fun δ K => K (.fz d) δ
theorem mv (i : Nat) {x : Str} {pos : Pos} (hN : X.N[i]? = some x := by rfl) (hv : Vis X.env.scope x := by first | exact Or.inl rfl | exact Or.inr (Or.inl rfl) | exact Or.inr (Or.inr rfl)) (hd : (x == ("__debug__" : Str)) = false := by decide)
    (hcd : (x == ("__classdict__" : Str)) = false := by decide) : ME X io true true (.Name x pos) (mVar i) := by
  refine ⟨_, pv i hN hv hd hcd, fun C H σ δ fp ex K Q R h k => ?_⟩
  unfold mVar at h
  split at h
  · rename_i d hd
    obtain ⟨v, e, o⟩ := R.own i _ hd
    refine ⟨v, e, k H v _ δ fp [] (.fz R (.refl _ _ _ _) ?_) h⟩
    generalize fp i = as at o
    cases o with
    | fz q => exact q.wide fun a l _ _ => l
  · exact h.elim
theorem mo (i : Nat) {x : Str} {pos : Pos} (hN : X.N[i]? = some x := by rfl) (hv : Vis X.env.scope x := by first | exact Or.inl rfl | exact Or.inr (Or.inl rfl) | exact Or.inr (Or.inr rfl)) (hd : (x == ("__debug__" : Str)) = false := by decide)
    (hcd : (x == ("__classdict__" : Str)) = false := by decide) : ME X io true false (.Name x pos) (mOwn i) := by
  refine ⟨_, pv i hN hv hd hcd, fun C H σ δ fp ex K Q R h k => ?_⟩
  unfold mOwn at h
  split at h
  · rename_i d hd
    obtain ⟨v, e, o⟩ := R.own i _ hd
    exact ⟨v, e, k H v _ δ fp [] (.fz R (.refl _ _ _ _) (o.da (fun a _ _ z => (nomatch z)) fun a _ z => (nomatch z))) h⟩
  · exact h.elim
theorem m_const {t : V} {d : PyData} (h : PE X e (tC t)) (s : ScD t d) : ME X io true true e (mC d) :=
  ⟨_, h, fun C H σ δ fp ex K Q R h k => k H t _ δ fp [] (.fz R (.refl _ _ _ _) s.da) h⟩
theorem mc_int {i j pos} : ME X io true true (.Constant (.int i) j pos) (mC (.int i)) := m_const pe_int (.int i)
theorem mc_bl {b j pos} : ME X io true true (.Constant (.bool b) j pos) (mC (.bool b)) := m_const pe_bl (.bl b)
theorem mc_non {j pos} : ME X io true true (.Constant .none j pos) (mC .none) := m_const pe_non .non
theorem mc_str {x j pos} : ME X io true true (.Constant (.str x) j pos) (mC (.str x)) := m_const pe_str (.str x)
theorem SE.two {ta tb : TE} (ha : SE G io p c ta ma) (hb : SE G io p' c' tb mb) (hc : p' = true ∨ c = true) {C : MC G} {H : Hp} {σ : St} {δ : DEnv} {fp : Fp} {ex : Addr → Prop} {K : OT → OT → DEnv → Prop} {Q : V → V → Hp → Prop}
    (R : Rel C io H σ δ fp ex) (h : ma δ fun x δ1 => mb δ1 fun y δ2 => K x y δ2)
    (k : ∀ H' x y u v δ' fp', Rel C io H' σ δ' fp' ex → Stp (p && p') H δ fp H' δ' fp' → Da G H' (fun a => (c && c') = true → Lf C fp' ex a) x u.data → Da G H' (fun a => (c && c') = true → Lf C fp' ex a) y v.data → K u v δ' → Q x y H') :
    ta σ H fun x H1 => tb σ H1 fun y H2 => Q x y H2 := by
  refine ha C H σ δ fp ex _ _ R h fun H1 x u δ1 fp1 new1 r1 h1 => ?_
  refine hb C H1 σ δ1 fp1 (exu ex new1) _ _ r1.rel h1 fun H2 y v δ2 fp2 new2 r2 h2 => ?_
  have o1 := r1.rel.own_step (ex' := exu (exu ex new1) new2) r2.stp (c := c) hc (fun a z => z.imp id fun z => r2.fresh a z) (fun a m => .inr m) r1.own
  have R2 : Rel C io H2 σ δ2 fp2 ex := r2.rel.drop fun a z => .inl (.inl z)
  have q1 : Da G H2 (fun a => c = true → Lf C fp2 ex a) x u.data := by
    refine o1.da (fun a l _ z => ?_) (fun a m z => ?_)
    · exact ⟨(l z).1, fun w => (l z).2.1 (.inl (.inl w)), (l z).2.2⟩
    · have := R.newOk (r1.fresh a m)
      refine ⟨fun qz9 => ?_, this.2.1, .inr this.2.2⟩
      obtain ⟨i, w⟩ := qz9
      exact r2.rel.dx i a w (.inl (.inr m))
  have q2 := r2.da r1.rel
  refine k H2 x y u v δ2 fp2 R2 (r1.stp.trans r2.stp) (q1.wide fun a l _ z => l (by rw [Bool.and_eq_true] at z; exact z.1)) (q2.wide fun a l _ z => ?_) h2
  have l := l (by rw [Bool.and_eq_true] at z; exact z.2)
  exact ⟨l.1, fun w => l.2.1 (.inl w), l.2.2⟩
noncomputable def P2s (G : PySem.W.Frag) (r : R2) (rp : PyData → PyData → (PyData → Prop) → Prop) : Prop := ∀ (H : Hp) (L : Addr → Prop) (x y : V) (d e : PyData) (k : PyData → Prop) (Q : VK), Da G H L x d → Da G H L y e → rp d e k → (∀ v d', ScD v d' → k d' → Q v H) → r x y H Q
noncomputable def P2 (G : PySem.W.Frag) (r : R2) (rp : PyData → PyData → (OT → Prop) → Prop) : Prop := ∀ (H : Hp) (L : Addr → Prop) (x y : V) (d e : PyData) (k : OT → Prop) (Q : VK), Da G H L x d → Da G H L y e → rp d e k →
  (∀ H' v o new, Same H H' → Own G H' (fun a => (L a ∨ H a = none) ∧ a ∉ new) v o new → new.Nodup → (∀ a ∈ new, H a = none) → k o → Q v H') → r x y H Q
noncomputable def mBinS (rp : PyData → PyData → (PyData → Prop) → Prop) (ma mb : MEt) : MEt := fun δ K => ma δ fun x δ1 => mb δ1 fun y δ2 => rp x.data y.data fun d => K (.fz d) δ2
noncomputable def mBin (rp : PyData → PyData → (OT → Prop) → Prop) (ma mb : MEt) : MEt := fun δ K => ma δ fun x δ1 => mb δ1 fun y δ2 => rp x.data y.data fun d => K d δ2
theorem sBinS {r : R2} {rp} {ta tb : TE} (P : P2s G r rp) (ha : SE G io p c ta ma) (hb : SE G io p' c' tb mb) (hc : p' = true ∨ c = true) : SE G io (p && p') true (tOp r ta tb) (mBinS rp ma mb) := by
  intro C H σ δ fp ex K Q R h k
  refine SE.two (K := fun x y δ2 => rp x.data y.data fun d => K (.fz d) δ2) (Q := fun x y H2 => r x y H2 Q) ha hb hc R h fun H' x y u v δ' fp' R' S q1 q2 h' => ?_
  exact P H' _ x y _ _ _ _ q1 q2 h' fun w d' sc h'' => k H' w _ δ' fp' [] (.fz R' S sc.da) h''
theorem sBin {r : R2} {rp} {ta tb : TE} (P : P2 G r rp) (ha : SE G io p c ta ma) (hb : SE G io p' c' tb mb) (hc : p' = true ∨ c = true) : SE G io (p && p') (c && c') (tOp r ta tb) (mBin rp ma mb) := by
  intro C H σ δ fp ex K Q R h k
  refine SE.two (K := fun x y δ2 => rp x.data y.data fun d => K d δ2) (Q := fun x y H2 => r x y H2 Q) ha hb hc R h fun H' x y u v δ' fp' R' S q1 q2 h' => ?_
  exact P H' _ x y _ _ _ _ q1 q2 h' fun H2 w o new s ow nd hn h'' => k H2 w o δ' fp' new (RE.tree R R' S s hn nd ow) h''
theorem m_opS {op : Operator} {r : R2} {rp} {pos : Pos} (ho : OpR X (binaryOp op) r) (P : P2s X.K r rp) (ha : ME X io p c a ma) (hb : ME X io p' c' b mb) (hc : p' = true ∨ c = true := by first | exact Or.inl rfl | exact Or.inr rfl) : ME X io (p && p') true (.BinOp a op b pos) (mBinS rp ma mb) := by
  obtain ⟨_, A, sa⟩ := ha
  obtain ⟨_, B, sb⟩ := hb
  exact ⟨_, pe_op ho A B, sBinS P sa sb hc⟩
theorem m_op {op : Operator} {r : R2} {rp} {pos : Pos} (ho : OpR X (binaryOp op) r) (P : P2 X.K r rp) (ha : ME X io p c a ma) (hb : ME X io p' c' b mb) (hc : p' = true ∨ c = true := by first | exact Or.inl rfl | exact Or.inr rfl) : ME X io (p && p') (c && c') (.BinOp a op b pos) (mBin rp ma mb) := by
  obtain ⟨_, A, sa⟩ := ha
  obtain ⟨_, B, sb⟩ := hb
  exact ⟨_, pe_op ho A B, sBin P sa sb hc⟩
theorem m_cmp {op : CmpOp} {r : R2} {rp} {pos : Pos} (ho : OpR X (compareOp op) r) (P : P2s X.K r rp) (ha : ME X io p c a ma) (hb : ME X io p' c' b mb) (hc : p' = true ∨ c = true := by first | exact Or.inl rfl | exact Or.inr rfl) (hm : behindInMarks op b = false) : ME X io (p && p') true (.Compare a [op] [b] pos) (mBinS rp ma mb) := by
  obtain ⟨_, A, sa⟩ := ha
  obtain ⟨_, B, sb⟩ := hb
  exact ⟨_, pe_cmpR ho A B hm, sBinS P sa sb hc⟩
theorem m_ix {r : R2} {rp} {pos : Pos} (ho : IxR X r) (P : P2 X.K r rp) (ha : ME X io p c a ma) (hb : ME X io p' c' b mb) (hc : p' = true ∨ c = true := by first | exact Or.inl rfl | exact Or.inr rfl) (hs : PlainIx b) : ME X io (p && p') (c && c') (.Subscript a b pos) (mBin rp ma mb) := by
  obtain ⟨_, A, sa⟩ := ha
  obtain ⟨_, B, sb⟩ := hb
  exact ⟨_, pe_ix ho A B hs, sBin P sa sb hc⟩
noncomputable def kB (K : Bool → DEnv → Prop) : OT → DEnv → Prop := fun o δ => match o with | .fz (.bool b) => K b δ | _ => False
theorem sTest {t : TE} (h : SE G io p c t m) : STt G io p (tTest t) (fun δ K => m δ (kB K)) := by
  intro C H σ δ fp ex K Q R h' k
  refine h C H σ δ fp ex _ _ R h' fun H' v r δ' fp' new r1 h1 => ?_
  cases r with
  | nd ts => exact h1.elim
  | tp ts => exact h1.elim
  | dc _ _ _ => exact h1.elim
  | fz d =>
    cases d with
    | bool b =>
      cases r1.own with
      | fz q =>
        cases q
        exact ⟨b, rfl, k H' b δ' fp' r1.base r1.stp h1⟩
    | _ => exact h1.elim
theorem mt_cmp {op : CmpOp} {r : R2} {rp} {pos : Pos} (ho : OpR X (compareOp op) r) (P : P2s X.K r rp) (ha : ME X io p c a ma) (hb : ME X io p' c' b mb) (hc : p' = true ∨ c = true := by first | exact Or.inl rfl | exact Or.inr rfl) (hm : behindInMarks op b = false) :
    MT X io (p && p') (.Compare a [op] [b] pos) (fun δ K => mBinS rp ma mb δ (kB K)) := by
  obtain ⟨_, A, sa⟩ := ha
  obtain ⟨_, B, sb⟩ := hb
  exact ⟨_, pt_cmpR ho A B hm, sTest (sBinS P sa sb hc)⟩
end
end L2
namespace L2
open PySem PySem.Spec PyProof.Rows
variable {G : PySem.W.Frag}
section
variable {X : Cx} {io : List Nat} {p p' p'' c c' : Bool} {e a b : Expr} {m ma mb : MEt} {es rest : List Expr} {ta tb : MTt} {pos : Pos}
noncomputable def mNot (t : MTt) : MTt := fun δ K => t δ fun b δ' => K (!b) δ'
noncomputable def mAnd (t u : MTt) : MTt := fun δ K => t δ fun b δ' => if b = true then u δ' K else K false δ'
noncomputable def mOr (t u : MTt) : MTt := fun δ K => t δ fun b δ' => if b = true then K true δ' else u δ' K
theorem mt_not (h : MT X io p a ta) : MT X io p (.UnaryOp .Not a pos) (mNot ta) := by
  obtain ⟨_, A, sa⟩ := h
  exact ⟨_, pt_not A, fun C H σ δ fp ex K Q R h k => sa C H σ δ fp ex _ _ R h fun H' b δ' fp' R' S h' => k H' (!b) δ' fp' R' S h'⟩
theorem mw_and1 (h : MT X io p a ta) : MW X io p (.BoolOp .And [a] pos) ta := by
  obtain ⟨_, A, sa⟩ := h
  exact ⟨_, pw_and1 A, sa⟩
theorem mw_or1 (h : MT X io p a ta) : MW X io p (.BoolOp .Or [a] pos) ta := by
  obtain ⟨_, A, sa⟩ := h
  exact ⟨_, pw_or1 A, sa⟩
theorem Stp.andL {H H' : Hp} {δ δ' : DEnv} {fp fp' : Fp} (S : Stp p H δ fp H' δ' fp') : Stp (p && p') H δ fp H' δ' fp' := by
  have := S.trans (Stp.refl p' H' δ' fp')
  exact this
theorem mw_and (h : MT X io p a ta) (g : MW X io p' (.BoolOp .And (b :: rest) pos) tb) : MW X io (p && p') (.BoolOp .And (a :: b :: rest) pos) (mAnd ta tb) := by
  obtain ⟨_, A, sa⟩ := h
  obtain ⟨_, B, sb⟩ := g
  exact ⟨_, pw_and A B, fun C H σ δ fp ex K Q R h k => sa C H σ δ fp ex _ _ R h fun H' b δ' fp' R' S h' => by
    cases b with
    | true =>
      rw [if_pos rfl] at h' ⊢
      exact sb C H' σ δ' fp' ex _ _ R' h' fun H2 b2 δ2 fp2 R2 S2 h2 => k H2 b2 δ2 fp2 R2 (S.trans S2) h2
    | false =>
      rw [if_neg Bool.false_ne_true] at h' ⊢
      exact k H' false δ' fp' R' S.andL h'⟩
theorem mw_or (h : MT X io p a ta) (g : MW X io p' (.BoolOp .Or (b :: rest) pos) tb) : MW X io (p && p') (.BoolOp .Or (a :: b :: rest) pos) (mOr ta tb) := by
  obtain ⟨_, A, sa⟩ := h
  obtain ⟨_, B, sb⟩ := g
  exact ⟨_, pw_or A B, fun C H σ δ fp ex K Q R h k => sa C H σ δ fp ex _ _ R h fun H' b δ' fp' R' S h' => by
    cases b with
    | true =>
      rw [if_pos rfl] at h' ⊢
      exact k H' true δ' fp' R' S.andL h'
    | false =>
      rw [if_neg Bool.false_ne_true] at h' ⊢
      exact sb C H' σ δ' fp' ex _ _ R' h' fun H2 b2 δ2 fp2 R2 S2 h2 => k H2 b2 δ2 fp2 R2 (S.trans S2) h2⟩
theorem MW.mt (h : MW X io p e ta) : MT X io p e ta := by
  obtain ⟨_, A, sa⟩ := h
  exact ⟨_, A.pt, sa⟩
noncomputable def truD : PyData → Option Bool
  | .none => some false
  | .bool b => some b
  | .int i => some (i != 0)
  | .list ds => some (!ds.isEmpty)
  | .tuple ds => some (!ds.isEmpty)
  | _ => none
noncomputable def mTru (m : MEt) : MTt := fun δ K => m δ fun r δ' => match truD r.data with | some b => K b δ' | none => False
theorem Das.isEmpty {H : Hp} {L : Addr → Prop} {xs : List V} {ds : List PyData} (h : Das G H L xs ds) : xs.isEmpty = ds.isEmpty := by cases h <;> rfl
theorem mt_tru (ha : ME X io p c a ma) (he : ∀ whole, isTrue a X.env whole = (do let v ← whole; standAt a.pos; holding [v] (truthy v))) : MT X io p a (mTru ma) := by
  obtain ⟨_, A, sa⟩ := ha
  exact ⟨_, pt_truK rfl A he, fun C H σ δ fp ex K' Q R h k => sa C H σ δ fp ex _ _ R h fun H' v r δ' fp' new r1 h1 => by
    have q := r1.da R
    generalize r.data = d at q h1
    cases q with
    | non => exact ⟨_, rfl, k H' _ δ' fp' r1.base r1.stp h1⟩
    | bl b => exact ⟨_, rfl, k H' _ δ' fp' r1.base r1.stp h1⟩
    | int b => exact ⟨_, rfl, k H' _ δ' fp' r1.base r1.stp h1⟩
    | str x => exact h1.elim
    | lst _ e q => exact ⟨_, .inl ⟨_, .inl e, rfl⟩, k H' _ δ' fp' r1.base r1.stp (by rw [q.isEmpty]; exact h1)⟩
    | tup e q => exact ⟨_, .inr (.inl ⟨_, .inl (.inl e), rfl⟩), k H' _ δ' fp' r1.base r1.stp (by rw [q.isEmpty]; exact h1)⟩
    | scr q => exact ⟨_, .inl ⟨_, q.sq, rfl⟩, k H' _ δ' fp' r1.base r1.stp (by simpa [truD] using h1)⟩
    | exc _ _ _ => exact h1.elim
    | fn _ => exact h1.elim
    | dic _ _ _ _ => exact h1.elim⟩
noncomputable def asB (d : PyData) (k : Bool → Prop) : Prop := match d with | .bool b => k b | _ => False
noncomputable def mAndV (a b : MEt) : MEt := fun δ K => a δ fun x δ1 => asB x.data fun c => if c = true then b δ1 K else K (.fz (.bool false)) δ1
noncomputable def mOrV (a b : MEt) : MEt := fun δ K => a δ fun x δ1 => asB x.data fun c => if c = true then K (.fz (.bool true)) δ1 else b δ1 K
noncomputable def mNotV (a : MEt) : MEt := fun δ K => a δ fun x δ1 => asB x.data fun c => K (.fz (.bool (!c))) δ1
noncomputable def mIf (t : MTt) (a b : MEt) : MEt := fun δ K => t δ fun c δ1 => if c = true then a δ1 K else b δ1 K
theorem Da.boolInv {H : Hp} {L : Addr → Prop} {v : V} {d : PyData} {k : Bool → Prop} (q : Da G H L v d) (h : asB d k) : ∃ b, v = .bl b ∧ k b := by
  cases q with
  | bl b => exact ⟨b, rfl, h⟩
  | _ => exact h.elim
theorem RE.step {C : MC G} {H H1 H2 : Hp} {σ : St} {δ δ1 δ2 : DEnv} {fp fp1 fp2 : Fp} {ex : Addr → Prop} {v : V} {r : OT} {new : List Addr} (S : Stp p H δ fp H1 δ1 fp1) (R : RE C io p' c H1 σ δ1 fp1 ex H2 v r δ2 fp2 new) :
    RE C io (p && p') c H σ δ fp ex H2 v r δ2 fp2 new := ⟨R.rel, S.trans R.stp, R.own, R.nd, fun a m => S.al a (R.fresh a m)⟩
theorem m_one {op} (h : ME X io p c a ma) : ME X io p c (.BoolOp op [a] pos) ma := by
  obtain ⟨_, A, sa⟩ := h
  exact ⟨_, pe_one A, sa⟩
theorem m_and (ha : ME X io p c a ma) (hb : ME X io p' c' (.BoolOp .And (b :: rest) pos) mb) : ME X io (p && p') c' (.BoolOp .And (a :: b :: rest) pos) (mAndV ma mb) := by
  obtain ⟨_, A, sa⟩ := ha
  obtain ⟨_, B, sb⟩ := hb
  exact ⟨_, pe_and A B, fun C H σ δ fp ex K Q R h k => sa C H σ δ fp ex _ _ R h fun H' v r δ' fp' new r1 h1 => by
    obtain ⟨b, rfl, h1⟩ := (r1.da R).boolInv h1
    refine ⟨b, rfl, ?_⟩
    cases b with
    | true =>
      rw [if_pos rfl] at h1 ⊢
      exact sb C H' σ δ' fp' ex _ _ r1.base h1 fun H2 w r2 δ2 fp2 new2 R2 h2 => k H2 w r2 δ2 fp2 new2 (R2.step r1.stp) h2
    | false =>
      rw [if_neg Bool.false_ne_true] at h1 ⊢
      exact k H' _ _ δ' fp' [] (RE.fz r1.base r1.stp.andL (.bl false)) h1⟩
theorem m_or (ha : ME X io p c a ma) (hb : ME X io p' c' (.BoolOp .Or (b :: rest) pos) mb) : ME X io (p && p') c' (.BoolOp .Or (a :: b :: rest) pos) (mOrV ma mb) := by
  obtain ⟨_, A, sa⟩ := ha
  obtain ⟨_, B, sb⟩ := hb
  exact ⟨_, pe_or A B, fun C H σ δ fp ex K Q R h k => sa C H σ δ fp ex _ _ R h fun H' v r δ' fp' new r1 h1 => by
    obtain ⟨b, rfl, h1⟩ := (r1.da R).boolInv h1
    refine ⟨b, rfl, ?_⟩
    cases b with
    | true =>
      rw [if_pos rfl] at h1 ⊢
      exact k H' _ _ δ' fp' [] (RE.fz r1.base r1.stp.andL (.bl true)) h1
    | false =>
      rw [if_neg Bool.false_ne_true] at h1 ⊢
      exact sb C H' σ δ' fp' ex _ _ r1.base h1 fun H2 w r2 δ2 fp2 new2 R2 h2 => k H2 w r2 δ2 fp2 new2 (R2.step r1.stp) h2⟩
theorem m_not (ha : ME X io p c a ma) : ME X io p true (.UnaryOp .Not a pos) (mNotV ma) := by
  obtain ⟨_, A, sa⟩ := ha
  exact ⟨_, pe_not A, fun C H σ δ fp ex K Q R h k => sa C H σ δ fp ex _ _ R h fun H' v r δ' fp' new r1 h1 => by
    obtain ⟨b, rfl, h1⟩ := (r1.da R).boolInv h1
    exact ⟨b, rfl, k H' _ _ δ' fp' [] (RE.fz r1.base r1.stp (.bl _)) h1⟩⟩
theorem Stp.cast {p p' : Bool} {H H' : Hp} {δ δ' : DEnv} {fp fp' : Fp} (h : p' = true → p = true) (S : Stp p H δ fp H' δ' fp') : Stp p' H δ fp H' δ' fp' :=
  ⟨fun b o e q => S.keep b o e (q.imp h id), fun q => S.env (h q), S.grow, S.al⟩
theorem RE.cast {C : MC G} {H H1 : Hp} {σ : St} {δ δ1 : DEnv} {fp fp1 : Fp} {ex : Addr → Prop} {v : V} {r : OT} {new : List Addr} (hp : p' = true → p = true) (hc : c' = true → c = true) (R : RE C io p c H σ δ fp ex H1 v r δ1 fp1 new) :
    RE C io p' c' H σ δ fp ex H1 v r δ1 fp1 new := ⟨R.rel, R.stp.cast hp, R.own.wide fun a l _ z => l (hc z), R.nd, R.fresh⟩
theorem m_if {t : Expr} (ht : MT X io p t ta) (ha : ME X io p' c a ma) (hb : ME X io p'' c' b mb) : ME X io (p && (p' && p'')) (c && c') (.IfExp t a b pos) (mIf ta ma mb) := by
  obtain ⟨_, T, st⟩ := ht
  obtain ⟨_, A, sa⟩ := ha
  obtain ⟨_, B, sb⟩ := hb
  exact ⟨_, pe_ifExp T A B, fun C H σ δ fp ex K Q R h k => st C H σ δ fp ex _ _ R h fun H' b δ' fp' R' S h' => by
    cases b with
    | true =>
      rw [if_pos rfl] at h' ⊢
      exact sa C H' σ δ' fp' ex _ _ R' h' fun H2 w r2 δ2 fp2 new2 R2 h2 => k H2 w r2 δ2 fp2 new2 ((R2.step S).cast (fun z => by simp at z; simp [z]) (fun z => by simp at z; exact z.1)) h2
    | false =>
      rw [if_neg Bool.false_ne_true] at h' ⊢
      exact sb C H' σ δ' fp' ex _ _ R' h' fun H2 w r2 δ2 fp2 new2 R2 h2 => k H2 w r2 δ2 fp2 new2 ((R2.step S).cast (fun z => by simp at z; simp [z]) (fun z => by simp at z; exact z.2)) h2⟩
end
section
variable {X : Cx} {io : List Nat} {p p' p'' c c' : Bool} {e a b : Expr} {m ma mb : MEt} {es rest : List Expr} {mr : MAt} {pos : Pos}
noncomputable def mNil : MAt := fun δ K => K [] δ
noncomputable def mCons (m : MEt) (mr : MAt) : MAt := fun δ K => m δ fun r δ1 => mr δ1 fun rs δ2 => K (r :: rs) δ2
theorem ma_nil : MA X io true true [] mNil := ⟨_, pa_nil, fun C H σ δ fp ex K Q R h k => k H [] [] δ fp [] ⟨R.drop fun a z => exu_nil.mp z, .refl _ _ _ _, .nil, .nil, fun a m => nomatch m⟩ h⟩
theorem ma_cons (ha : ME X io p c e m) (hr : MA X io p' c' es mr) (hc : p' = true ∨ c = true) (hs : starEach (e :: es) X.env = (false, eval e X.env) :: starEach es X.env := by rfl) : MA X io (p && p') (c && c') (e :: es) (mCons m mr) := by
  obtain ⟨tA, A, sa⟩ := ha
  obtain ⟨tB, B, sb⟩ := hr
  refine ⟨_, pa_cons A B hs, fun C H σ δ fp ex K Q R h k => ?_⟩
  refine sa C H σ δ fp ex _ _ R h fun H1 x u δ1 fp1 new1 r1 h1 => ?_
  refine sb C H1 σ δ1 fp1 (exu ex new1) _ _ r1.rel h1 fun H2 ys us δ2 fp2 new2 r2 h2 => ?_
  have o1 := r1.rel.own_step (ex' := exu (exu ex new1) new2) r2.stp (c := c) hc (fun a z => z.imp id fun z => r2.fresh a z) (fun a m => .inr m) r1.own
  have eqx : ∀ a, exu ex (new1 ++ new2) a → exu (exu ex new1) new2 a := fun a z => by
    rcases z with z | z
    · exact .inl (.inl z)
    · rcases List.mem_append.mp z with z | z
      · exact .inl (.inr z)
      · exact .inr z
  refine k H2 (x :: ys) (u :: us) δ2 fp2 (new1 ++ new2) ⟨r2.rel.drop eqx, r1.stp.trans r2.stp, .cons (o1.wide fun a l _ z => ?_) (r2.own.wide fun a l _ z => ?_), ?_, ?_⟩ h2
  · have l := l (by rw [Bool.and_eq_true] at z; exact z.1)
    exact ⟨l.1, fun w => l.2.1 (eqx a w), l.2.2⟩
  · have l := l (by rw [Bool.and_eq_true] at z; exact z.2)
    exact ⟨l.1, fun w => l.2.1 (eqx a w), l.2.2⟩
  · refine List.nodup_append.mpr ⟨r1.nd, r2.nd, fun a m b m' z => ?_⟩
    subst z
    obtain ⟨xs, e⟩ := r1.own.some a m
    rw [r2.fresh a m'] at e
    cases e
  · intro a m
    rcases List.mem_append.mp m with m | m
    · exact r1.fresh a m
    · exact r1.stp.al a (r2.fresh a m)
noncomputable def mTup (m : MAt) : MEt := fun δ K => m δ fun rs δ' => rs.length ≤ sizeLine ∧ K (.fz (.tuple (OT.datas rs))) δ'
noncomputable def mLst (m : MAt) : MEt := fun δ K => m δ fun rs δ' => rs.length ≤ sizeLine ∧ K (.nd rs) δ'
theorem m_tup {x1} (h : MA X io p c es mr) : ME X io p c (.Tuple es x1 pos) (mTup mr) := by
  obtain ⟨tA, A, sa⟩ := h
  refine ⟨_, pe_tup A, fun C H σ δ fp ex K Q R h k => ?_⟩
  refine sa C H σ δ fp ex _ _ R h fun H1 vs rs δ1 fp1 new1 r1 h1 => ⟨by rw [r1.own.length]; exact h1.1, fun q hq => ?_⟩
  have s := same_new hq (.tup vs)
  have R1 := r1.base
  have S := r1.stp.trans (p' := true) (Stp.same (p := true) (δ := δ1) (fp := fp1) s s.al)
  rw [Bool.and_true] at S
  refine k _ _ _ δ1 fp1 [] (.fz ?_ S (.tup upd_same ((r1.das R).same s))) h1.2
  exact (R1.made (new := []) s fun a m => nomatch m).drop fun a z => .inl z
theorem m_lst (h : MA X io p c es mr) : ME X io p c (.List es pos) (mLst mr) := by
  obtain ⟨tA, A, sa⟩ := h
  refine ⟨_, pe_lst A, fun C H σ δ fp ex K Q R h k => ?_⟩
  refine sa C H σ δ fp ex _ _ R h fun H1 vs rs δ1 fp1 new1 r1 h1 => ⟨by rw [r1.own.length]; exact h1.1, fun q hq => ?_⟩
  have s := same_new hq (.lst vs)
  have S := r1.stp.trans (p' := true) (Stp.same (p := true) (δ := δ1) (fp := fp1) s s.al)
  rw [Bool.and_true] at S
  have hqn : q ∉ new1 := fun m => by
    obtain ⟨xs, e⟩ := r1.own.some q m
    rw [hq] at e; cases e
  have R2 := (r1.rel.made (new := [q]) s fun a m => by
    rcases List.mem_singleton.mp m with rfl
    exact ⟨hq, by rw [upd_same]; intro z; cases z⟩)
  have eqx : ∀ a, exu ex (q :: new1) a → exu (exu ex new1) [q] a := fun a z => by
    rcases z with z | z
    · exact .inl (.inl z)
    · rcases List.mem_cons.mp z with z | z
      · exact .inr (List.mem_singleton.mpr z)
      · exact .inl (.inr z)
  refine k _ _ _ δ1 fp1 (q :: new1) ⟨R2.drop eqx, S, .nd upd_same ((r1.own.wide fun a l w z => ?_).same s), List.nodup_cons.mpr ⟨hqn, r1.nd⟩, fun a m => ?_⟩ h1.2
  · have l := l z
    refine ⟨l.1, fun y => ?_, l.2.2⟩
    rcases eqx a y with y | y
    · exact l.2.1 y
    · rcases List.mem_singleton.mp y with rfl
      exact w hq
  · rcases List.mem_cons.mp m with rfl | m
    · exact r1.stp.al _ hq
    · exact r1.fresh a m
end
end L2
namespace L2
open PySem PySem.Spec PyProof.Rows
variable {G : PySem.W.Frag}
noncomputable def spD (G : PySem.W.Frag) (S : List PyData → (OT → Prop) → Prop) : Sp := fun vs H Q _ => ∃ L ds k, Das G H L vs ds ∧ S ds k ∧
  ∀ r v H' new, k r → Same H H' → Own G H' (fun a => (L a ∨ H a = none) ∧ a ∉ new) v r new → new.Nodup → (∀ a ∈ new, H a = none) → Q v H'
section
variable {X : Cx} {io : List Nat} {p p' p'' c c' : Bool} {e a b : Expr} {m ma mb : MEt} {es rest : List Expr} {mr : MAt} {pos : Pos}
variable {CX : CXT} {k : Nat} {f : Addr} {fd : FuncData} {ps : List Str} {E : XK} {x : Str} {pp : Pos}
noncomputable def mCall (S : List PyData → (OT → Prop) → Prop) (mr : MAt) : MEt := fun δ K => mr δ fun rs δ1 => S (OT.datas rs) fun r => K r δ1
theorem sCall {S} {t : TA} (sa : SA G io p c t mr) : SE G io p c (tCall (spD G S) [] E t) (mCall S mr) := by
  intro C H σ δ fp ex K Q R h kk
  refine sa C H σ δ fp ex _ _ R h fun H1 vs rs δ1 fp1 new1 r1 h1 => ?_
  rw [List.append_nil]
  refine ⟨_, _, _, r1.das R, h1, fun r v H' new kr s o nd hn => ?_⟩
  exact kk H' v r δ1 fp1 new (RE.tree R r1.base r1.stp s hn nd o) kr
theorem m_call {S} (F : FnOk X.prog X.w X.K X.mg X.base CX k f fd ps (spD X.K S)) (hr : Room k X.A) (hg : Gl X x) (hm : X.mg x = some (.ref f)) (hk : PySem.W.keepIn X.K (.ref f) = true) (hb : Binds X.K fd ps []) (hx : Passes CX X E)
    (ha : MA X io p c (e :: es) mr) (hdb : (x == ("__debug__" : Str)) = false := by decide) (he : starEach (e :: es) X.env = (false, eval e X.env) :: starEach es X.env := by rfl) (hpl : (backTo pos (starEach es X.env)).any (·.1) = false := by rfl) :
    ME X io p c (.Call (.Name x pp) (e :: es) [] pos) (mCall S mr) := by
  obtain ⟨_, A, sa⟩ := ha
  exact ⟨_, pe_call F hr hg hm hk hb .nil hx A hdb he hpl, sCall sa⟩
noncomputable def fpu (fp : Fp) (i : Nat) (as : List Addr) : Fp := fun j => if j = i then as else fp j
theorem fpu_same {fp : Fp} {i : Nat} {as : List Addr} : fpu fp i as i = as := if_pos rfl
theorem fpu_ne {fp : Fp} {i j : Nat} {as : List Addr} (h : j ≠ i) : fpu fp i as j = fp j := if_neg h
theorem Foot.of_u {fp : Fp} {i : Nat} {as : List Addr} {a : Addr} (h : Foot (fpu fp i as) a) : a ∈ as ∨ ∃ j, j ≠ i ∧ a ∈ fp j := by
  obtain ⟨j, h⟩ := h
  by_cases e : j = i
  · subst e; rw [fpu_same] at h; exact .inl h
  · rw [fpu_ne e] at h; exact .inr ⟨j, e, h⟩
theorem Rel.change {C : MC G} {H H' : Hp} {σ : St} {δ : DEnv} {fp : Fp} {ex : Addr → Prop} {i : Nat} {t t' : OT} {v : V} {as' new : List Addr} (R : Rel C io H σ δ fp ex) (hi : δ[i]? = some (some t)) (hv : σ[i]? = some (some v))
    (keep : ∀ b o, H b = some o → b ∉ fp i → H' b = some o) (al : ∀ b, H' b = none → H b = none) (o : Own G H' (Lf C (fpu fp i as') (exu ex new)) v t' as') (nd : as'.Nodup) (new' : ∀ a ∈ as', a ∈ fp i ∨ H a = none)
    (hn : ∀ a ∈ new, H a = none ∧ H' a ≠ none ∧ a ∉ as') :
    Rel C io H' σ (δ.set i (some t')) (fpu fp i as') (exu ex new) ∧ Stp false H δ fp H' (δ.set i (some t')) (fpu fp i as') := by
  have hil : i < δ.length := (List.getElem?_eq_some_iff.mp hi).1
  have apart : ∀ j a, j ≠ i → a ∈ fp j → a ∉ as' := fun j a e m z => by
    rcases new' a z with z | z
    · exact e (R.dj j i a m z)
    · exact R.footSome z ⟨j, m⟩
  constructor
  · refine ⟨by rw [List.length_set]; exact R.len, fun j t'' e => ?_, fun j h => ?_, fun j => ?_, fun j k a h1 h2 => ?_, fun j a h z => ?_, fun a z w => z.elim (fun z => R.xa a z (al a w)) (fun z => (hn a z).2.1 w), fun b ob e n => ?_, fun b z => R.al b (al b z), fun j a h => ?_, R.io⟩
    · by_cases ej : j = i
      · subst ej
        rw [List.getElem?_set_self hil] at e
        cases e
        exact ⟨v, hv, by rw [fpu_same]; exact o⟩
      · rw [List.getElem?_set_ne (Ne.symm ej)] at e
        obtain ⟨w, e1, o1⟩ := R.own j t'' e
        refine ⟨w, e1, ?_⟩
        rw [fpu_ne ej]
        refine o1.frame (fun a xs l q => ?_) (fun a xs q => keep a _ q fun z => ?_) fun a m xs q => keep a _ q fun z => ej (R.dj j i a m z)
        · have na : a ∉ fp i := fun z => l.1 ⟨i, z⟩
          refine ⟨⟨fun z => ?_, fun z => z.elim l.2.1 fun z => q.some (hn a z).1, l.2.2⟩, ?_⟩
          · rcases z.of_u with z | ⟨k, _, z⟩
            · rcases new' a z with z | z
              · exact na z
              · exact q.some z
            · exact l.1 ⟨k, z⟩
          · rcases q with q | ⟨u, q⟩
            · exact .inl (keep a _ q na)
            · exact .inr ⟨u, keep a _ q na⟩
        · obtain ⟨ys, e⟩ := R.foot ⟨i, z⟩
          exact ImO.nm q e
    · by_cases ej : j = i
      · subst ej
        exact absurd (List.getElem?_set_self hil) (h t')
      · rw [fpu_ne ej]
        refine R.emp j fun t'' z => h t'' ?_
        rw [List.getElem?_set_ne (Ne.symm ej)]
        exact z
    · by_cases ej : j = i
      · subst ej; rw [fpu_same]; exact nd
      · rw [fpu_ne ej]; exact R.nd j
    · by_cases ej : j = i
      · subst ej
        rw [fpu_same] at h1
        by_cases ek : k = j
        · exact ek.symm
        · rw [fpu_ne ek] at h2
          exact absurd h1 (apart k a ek h2)
      · rw [fpu_ne ej] at h1
        by_cases ek : k = i
        · subst ek
          rw [fpu_same] at h2
          exact absurd h2 (apart j a ej h1)
        · rw [fpu_ne ek] at h2
          exact R.dj j k a h1 h2
    · by_cases ej : j = i
      · subst ej
        rw [fpu_same] at h
        rcases z with z | z
        · rcases new' a h with w | w
          · exact R.dx _ a w z
          · exact R.xa a z w
        · exact (hn a z).2.2 h
      · rw [fpu_ne ej] at h
        rcases z with z | z
        · exact R.dx j a h z
        · exact R.footSome (hn a z).1 ⟨j, h⟩
    · refine keep b ob (R.fr b ob e n) fun z => ?_
      rcases R.new i b z with w | w
      · exact n w.2
      · rw [e] at w; cases w
    · by_cases ej : j = i
      · subst ej
        rw [fpu_same] at h
        rcases new' a h with w | w
        · exact R.new _ a w
        · exact .inr (R.al a w)
      · rw [fpu_ne ej] at h
        exact R.new j a h
  · refine ⟨fun b ob e q => keep b ob e fun z => (q.resolve_left (by decide)) ⟨i, z⟩, fun z => (nomatch z), fun a z => ?_, al⟩
    rcases z.of_u with z | ⟨j, _, z⟩
    · exact (new' a z).imp (fun w => ⟨i, w⟩) id
    · exact .inl ⟨j, z⟩
noncomputable def PNs (G : PySem.W.Frag) (r : List V → Hp → VK → Prop) (rp : List PyData → (PyData → Prop) → Prop) : Prop := ∀ (H : Hp) (L : Addr → Prop) (xs : List V) (ds : List PyData) (k : PyData → Prop) (Q : VK), Das G H L xs ds → rp ds k → (∀ v d', ScD v d' → k d' → Q v H) → r xs H Q
noncomputable def PN (G : PySem.W.Frag) (r : List V → Hp → VK → Prop) (rp : List PyData → (OT → Prop) → Prop) : Prop := ∀ (H : Hp) (L : Addr → Prop) (xs : List V) (ds : List PyData) (k : OT → Prop) (Q : VK), Das G H L xs ds → rp ds k →
  (∀ H' v o new, Same H H' → Own G H' (fun a => (L a ∨ H a = none) ∧ a ∉ new) v o new → new.Nodup → (∀ a ∈ new, H a = none) → k o → Q v H') → r xs H Q
noncomputable def mBlS (rp : List PyData → (PyData → Prop) → Prop) (mr : MAt) : MEt := fun δ K => mr δ fun rs δ1 => rp (OT.datas rs) fun d => K (.fz d) δ1
noncomputable def mBl (rp : List PyData → (OT → Prop) → Prop) (mr : MAt) : MEt := fun δ K => mr δ fun rs δ1 => rp (OT.datas rs) fun o => K o δ1
theorem sBlS {r rp} {t : TA} (P : PNs G r rp) (sa : SA G io p c t mr) : SE G io p true (tCB r t) (mBlS rp mr) := fun C H σ δ fp ex K Q R h kk =>
  sa C H σ δ fp ex _ _ R h fun H1 vs rs δ1 fp1 new1 r1 h1 => P H1 _ vs _ _ _ (r1.das R) h1 fun v d' sc h2 => kk H1 v _ δ1 fp1 [] (.fz r1.base r1.stp sc.da) h2
theorem sBl {r rp} {t : TA} (P : PN G r rp) (sa : SA G io p c t mr) : SE G io p c (tCB r t) (mBl rp mr) := fun C H σ δ fp ex K Q R h kk =>
  sa C H σ δ fp ex _ _ R h fun H1 vs rs δ1 fp1 new1 r1 h1 => P H1 _ vs _ _ _ (r1.das R) h1 fun H' v o new s ow nd hn h2 => kk H' v o δ1 fp1 new (RE.tree R r1.base r1.stp s hn nd ow) h2
variable {id T : String} {r : List V → Hp → VK → Prop}
theorem m_blS {rp} (P : PNs X.K r rp) (hc : CallR X (.builtin id) r) (hg : Gl X x) (hm : X.mg x = none) (hv : bootBuiltins x = some (.builtin id)) (ha : MA X io p c (e :: es) mr) (hn : x ≠ "__name__" := by decide) (hdb : (x == ("__debug__" : Str)) = false := by decide)
    (he : starEach (e :: es) X.env = (false, eval e X.env) :: starEach es X.env := by rfl) (hpl : (backTo pos (starEach es X.env)).any (·.1) = false := by rfl) : ME X io p true (.Call (.Name x pp) (e :: es) [] pos) (mBlS rp mr) := by
  obtain ⟨_, A, sa⟩ := ha
  exact ⟨_, pe_callB hc hg hm hv A hn hdb he hpl, sBlS P sa⟩
theorem m_tyS {rp} (P : PNs X.K r rp) (hc : CallR X (.type T) r) (hg : Gl X x) (hm : X.mg x = none) (hv : bootBuiltins x = some (.type T)) (ha : MA X io p c (e :: es) mr) (hn : x ≠ "__name__" := by decide) (hdb : (x == ("__debug__" : Str)) = false := by decide)
    (he : starEach (e :: es) X.env = (false, eval e X.env) :: starEach es X.env := by rfl) (hpl : (backTo pos (starEach es X.env)).any (·.1) = false := by rfl) : ME X io p true (.Call (.Name x pp) (e :: es) [] pos) (mBlS rp mr) := by
  obtain ⟨_, A, sa⟩ := ha
  exact ⟨_, pe_callTy hc hg hm hv A hn hdb he hpl, sBlS P sa⟩
theorem m_ty {rp} (P : PN X.K r rp) (hc : CallR X (.type T) r) (hg : Gl X x) (hm : X.mg x = none) (hv : bootBuiltins x = some (.type T)) (ha : MA X io p c (e :: es) mr) (hn : x ≠ "__name__" := by decide) (hdb : (x == ("__debug__" : Str)) = false := by decide)
    (he : starEach (e :: es) X.env = (false, eval e X.env) :: starEach es X.env := by rfl) (hpl : (backTo pos (starEach es X.env)).any (·.1) = false := by rfl) : ME X io p c (.Call (.Name x pp) (e :: es) [] pos) (mBl rp mr) := by
  obtain ⟨_, A, sa⟩ := ha
  exact ⟨_, pe_callTy hc hg hm hv A hn hdb he hpl, sBl P sa⟩
end
end L2
namespace L2
open PySem PySem.Spec PyProof.Rows
variable {G : PySem.W.Frag}
mutual
noncomputable def flatD : PyData → Bool
  | .none => true
  | .bool _ => true
  | .int _ => true
  | .str _ => true
  | .tuple ds => flatDs ds
  | .list _ => false
  | .dict _ => false
noncomputable def flatDs : List PyData → Bool
  | [] => true
  | d :: ds => flatD d && flatDs ds
end
theorem Da.flat2 {H : Hp} {L L' : Addr → Prop} : (∀ {v : V} {d : PyData}, Da G H L v d → flatD d = true → Da G H L' v d) ∧ ∀ {v : List V} {d : List PyData}, Das G H L v d → flatDs d = true → Das G H L' v d :=
  Da.both (fun _ => .non) (fun b _ => .bl b) (fun i _ => .int i) (fun x _ => .str x) (fun _ _ _ h => by rw [flatD] at h; cases h) (fun e r h => .tup e (r (by rw [flatD] at h; exact h))) (fun k _ => .scr k) (fun c n e _ => .exc c n e) (fun k _ => .fn k) (fun _ _ _ _ h => by rw [dcD, flatD] at h; cases h) (fun _ => .nil)
    (fun k r h => by rw [flatDs, Bool.and_eq_true] at h; exact .cons (k h.1) (r h.2))
theorem Da.flat {H : Hp} {L L' : Addr → Prop} {v : V} {d : PyData} (h : Da G H L v d) (f : flatD d = true) : Da G H L' v d := Da.flat2.1 h f
set_option genInjectivity false in
structure EndsM where
  nx : DEnv → Prop
  rt : OT → DEnv → Prop
  bk : DEnv → Prop := fun _ => False
  ct : DEnv → Prop := fun _ => False
noncomputable abbrev MSt := EndsM → DEnv → Prop
noncomputable abbrev Kp (H : Hp) (fp : Fp) (H' : Hp) (fp' : Fp) : Prop := Stp false H [] fp H' [] fp'
theorem Stp.kp {p : Bool} {H H' : Hp} {δ δ' : DEnv} {fp fp' : Fp} (S : Stp p H δ fp H' δ' fp') : Kp H fp H' fp' := ⟨fun b o e q => S.keep b o e (.inr (q.resolve_left (by decide))), fun z => (nomatch z), S.grow, S.al⟩
theorem Kp.trans {H H1 H2 : Hp} {fp fp1 fp2 : Fp} (a : Kp H fp H1 fp1) (b : Kp H1 fp1 H2 fp2) : Kp H fp H2 fp2 := Stp.trans a b
theorem Kp.refl (H : Hp) (fp : Fp) : Kp H fp H fp := Stp.refl _ _ _ _
structure RelEnds (C : MC G) (io : List Nat) (ex : Addr → Prop) (H : Hp) (fp : Fp) (D : EndsM) (D' : Ends) : Prop where
  nx : ∀ H' σ' δ' fp', Rel C io H' σ' δ' fp' ex → Kp H fp H' fp' → D.nx δ' → D'.nx σ' H'
  bk : ∀ H' σ' δ' fp', Rel C io H' σ' δ' fp' ex → Kp H fp H' fp' → D.bk δ' → D'.bk σ' H'
  ct : ∀ H' σ' δ' fp', Rel C io H' σ' δ' fp' ex → Kp H fp H' fp' → D.ct δ' → D'.ct σ' H'
  rt : ∀ H' σ' v r δ' fp' new, Rel C io H' σ' δ' fp' (exu ex new) → Own G H' (Lf C fp' (exu ex new)) v r new → new.Nodup → (∀ a ∈ new, C.H₀ a = none) → D.rt r δ' → D'.rt v H'
theorem RelEnds.shift {C : MC G} {io : List Nat} {ex : Addr → Prop} {H H1 : Hp} {fp fp1 : Fp} {D : EndsM} {D' : Ends} (E : RelEnds C io ex H fp D D') (k : Kp H fp H1 fp1) : RelEnds C io ex H1 fp1 D D' :=
  ⟨fun H' σ' δ' fp' R q => E.nx H' σ' δ' fp' R (k.trans q), fun H' σ' δ' fp' R q => E.bk H' σ' δ' fp' R (k.trans q), fun H' σ' δ' fp' R q => E.ct H' σ' δ' fp' R (k.trans q), E.rt⟩
noncomputable def SS (G : PySem.W.Frag) (io : List Nat) (t : TS) (m : MSt) : Prop := ∀ (C : MC G) (H : Hp) (σ : St) (δ : DEnv) (fp : Fp) (ex : Addr → Prop) (D : EndsM) (D' : Ends), Rel C io H σ δ fp ex → m D δ → RelEnds C io ex H fp D D' → t D' σ H
noncomputable def MS (X : Cx) (io : List Nat) (st : Stmt) (m : MSt) : Prop := ∃ t, PS X st t ∧ SS X.K io t m
noncomputable def MSs (X : Cx) (io : List Nat) (st : List Stmt) (m : MSt) : Prop := ∃ t, PSs X st t ∧ SS X.K io t m
section
variable {X : Cx} {io : List Nat} {p p' p'' c c' : Bool} {e a b : Expr} {m ma mb : MEt} {es rest : List Expr} {mr : MAt} {pos : Pos} {st : Stmt} {sts : List Stmt} {u w : MSt} {mt : MTt}
noncomputable def mNext : MSt := fun D δ => D.nx δ
noncomputable def Hold (w : MSt) (D : EndsM) (δ : DEnv) : Prop := w D δ
noncomputable def mSeq (u w : MSt) : MSt := fun D δ => u { D with nx := Hold w D } δ
theorem mss_nil : MSs X io [] mNext := ⟨_, pss_nil, fun C H σ δ fp ex D D' R h E => E.nx H σ δ fp R (.refl _ _) h⟩
theorem mss_one (h : MS X io st u) : MSs X io [st] u := by
  obtain ⟨_, A, s⟩ := h
  exact ⟨_, pss_one A, s⟩
theorem mss_cons (h : MS X io st u) (g : MSs X io sts w) : MSs X io (st :: sts) (mSeq u w) := by
  obtain ⟨_, A, s⟩ := h
  obtain ⟨tb, B, s'⟩ := g
  exact ⟨_, pss_cons A B, fun C H σ δ fp ex D D' R h E => s C H σ δ fp ex _ _ R h ⟨fun H1 σ1 δ1 fp1 R1 k1 h1 => s' C H1 σ1 δ1 fp1 ex D D' R1 h1 (E.shift k1), E.bk, E.ct, E.rt⟩⟩
noncomputable def mNever : MSt := fun _ _ => False
theorem ms_never : MS X io st mNever := ⟨_, ps_never, fun C H σ δ fp ex D D' R h E => h.elim⟩
noncomputable def mDrop (m : MEt) : MSt := fun D δ => m δ fun _ δ' => D.nx δ'
theorem ms_expr (he : ME X io p c e m) (hs : swapsWith e none pos.line X.env = pure false := by rfl) : MS X io (.Expr e pos) (mDrop m) := by
  obtain ⟨_, A, s⟩ := he
  exact ⟨_, ps_expr A hs, fun C H σ δ fp ex D D' R h E => s C H σ δ fp ex _ _ R h fun H' v r δ' fp' new r1 h1 => E.nx H' σ δ' fp' r1.base r1.stp.kp h1⟩
noncomputable def mRet (m : MEt) : MSt := fun D δ => m δ fun r δ' => D.rt r δ'
theorem ms_ret (he : ME X io p true e m) : MS X io (.Return (some e) pos) (mRet m) := by
  obtain ⟨_, A, s⟩ := he
  exact ⟨_, ps_ret A, fun C H σ δ fp ex D D' R h E => s C H σ δ fp ex _ _ R h fun H' v r δ' fp' new r1 h1 => E.rt H' σ v r δ' fp' new r1.rel (r1.own.wide fun a l _ => l rfl) r1.nd (fun a m => (R.newOk (r1.fresh a m)).2.2) h1⟩
noncomputable def mRetO (i : Nat) : MSt := fun D δ => match δ[i]? with | some (some t) => D.rt t (δ.set i none) | _ => False
theorem Rel.take {C : MC G} {H : Hp} {σ : St} {δ : DEnv} {fp : Fp} {ex : Addr → Prop} {i : Nat} {t : OT} (R : Rel C io H σ δ fp ex) (hi : δ[i]? = some (some t)) : Rel C io H σ (δ.set i none) (fpu fp i []) (exu ex (fp i)) := by
  have hil : i < δ.length := (List.getElem?_eq_some_iff.mp hi).1
  have get : ∀ j (t' : OT), (δ.set i none)[j]? = some (some t') → j ≠ i ∧ δ[j]? = some (some t') := fun j t' e => by
    by_cases ej : j = i
    · subst ej; rw [List.getElem?_set_self hil] at e; cases e
    · rw [List.getElem?_set_ne (Ne.symm ej)] at e; exact ⟨ej, e⟩
  have sub : ∀ j a, a ∈ fpu fp i [] j → j ≠ i ∧ a ∈ fp j := fun j a m => by
    by_cases ej : j = i
    · subst ej; rw [fpu_same] at m; exact nomatch m
    · rw [fpu_ne ej] at m; exact ⟨ej, m⟩
  have lw : ∀ a, Lf C fp ex a → Lf C (fpu fp i []) (exu ex (fp i)) a := fun a l => ⟨fun ⟨j, z⟩ => l.1 ⟨j, (sub j a z).2⟩, fun z => z.elim l.2.1 fun z => l.1 ⟨i, z⟩, l.2.2⟩
  refine ⟨by rw [List.length_set]; exact R.len, fun j t' e => ?_, fun j h => ?_, fun j => ?_, fun j k a h1 h2 => R.dj j k a (sub j a h1).2 (sub k a h2).2, fun j a h z => ?_, fun a z w => ?_, R.fr, R.al, fun j a h => R.new j a (sub j a h).2, R.io⟩
  · obtain ⟨ej, e⟩ := get j t' e
    obtain ⟨w, e1, o⟩ := R.own j t' e
    exact ⟨w, e1, by rw [fpu_ne ej]; exact o.wide fun a l _ => lw a l⟩
  · by_cases ej : j = i
    · subst ej; rw [fpu_same]
    · rw [fpu_ne ej]
      exact R.emp j fun t' z => h t' (by rw [List.getElem?_set_ne (Ne.symm ej)]; exact z)
  · by_cases ej : j = i
    · subst ej; rw [fpu_same]; exact .nil
    · rw [fpu_ne ej]; exact R.nd j
  · obtain ⟨ej, h⟩ := sub j a h
    rcases z with z | z
    · exact R.dx j a h z
    · exact ej (R.dj j i a h z)
  · rcases z with z | z
    · exact R.xa a z w
    · exact R.footSome w ⟨i, z⟩
theorem ms_retO (i : Nat) {x : Str} {px : Pos} (hio : i ∉ io := by decide) (hN : X.N[i]? = some x := by rfl) (hv : Vis X.env.scope x := by first | exact Or.inl rfl | exact Or.inr (Or.inl rfl) | exact Or.inr (Or.inr rfl)) (hd : (x == ("__debug__" : Str)) = false := by decide)
    (hcd : (x == ("__classdict__" : Str)) = false := by decide) : MS X io (.Return (some (.Name x px)) pos) (mRetO i) := by
  refine ⟨_, ps_ret (pv i hN hv hd hcd), fun C H σ δ fp ex D D' R h E => ?_⟩
  unfold mRetO at h
  split at h
  case h_2 => exact h.elim
  rename_i t hi
  obtain ⟨v, e, o⟩ := R.own i t hi
  have lw : ∀ a, Lf C fp ex a → H a ≠ none → Lf C (fpu fp i []) (exu ex (fp i)) a := fun a l _ => ⟨fun z => by
    rcases z.of_u with z | ⟨j, _, z⟩
    · exact nomatch z
    · exact l.1 ⟨j, z⟩, fun z => z.elim l.2.1 fun z => l.1 ⟨i, z⟩, l.2.2⟩
  have hn : ∀ a ∈ fp i, C.H₀ a = none := fun a m => by
    rcases R.new i a m with z | z
    · exact absurd z.1 hio
    · exact z
  exact ⟨v, e, E.rt H σ v t _ _ (fp i) (R.take hi) (o.wide lw) (R.nd i) hn h⟩
noncomputable def mIfS (t : MTt) (u w : MSt) : MSt := fun D δ => t δ fun b δ' => if b = true then u D δ' else w D δ'
theorem ms_if {cnd : Expr} {ss ss' : List Stmt} (hc : MT X io p cnd mt) (ha : MSs X io ss u) (hb : MSs X io ss' w) : MS X io (.If cnd ss ss' pos) (mIfS mt u w) := by
  obtain ⟨_, T, s⟩ := hc
  obtain ⟨_, A, sa⟩ := ha
  obtain ⟨_, B, sb⟩ := hb
  exact ⟨_, ps_if T A B, fun C H σ δ fp ex D D' R h E => s C H σ δ fp ex _ _ R h fun H' b δ' fp' R' S h' => by
    cases b with
    | true =>
      rw [if_pos rfl] at h' ⊢
      exact sa C H' σ δ' fp' ex D D' R' h' (E.shift S.kp)
    | false =>
      rw [if_neg Bool.false_ne_true] at h' ⊢
      exact sb C H' σ δ' fp' ex D D' R' h' (E.shift S.kp)⟩
theorem Rel.put {C : MC G} {H : Hp} {σ : St} {δ : DEnv} {fp : Fp} {ex : Addr → Prop} {i : Nat} {v : V} {r : OT} {new : List Addr} (R : Rel C io H σ δ fp (exu ex new)) (hio : i ∉ io) (o : Own G H (Lf C fp (exu ex new)) v r new) (nd : new.Nodup)
    (hn : ∀ a ∈ new, C.H₀ a = none ∧ ¬ ex a) : ∃ fp', Rel C io H (σ.set i (some v)) (δ.set i (some r)) fp' ex ∧ ∀ a, Foot fp' a → Foot fp a ∨ a ∈ new := by
  by_cases hil : i < δ.length
  case neg =>
    refine ⟨fp, ?_, fun a h => .inl h⟩
    have hl := R.len
    rw [List.set_eq_of_length_le (show δ.length ≤ i by omega), List.set_eq_of_length_le (show σ.length ≤ i by omega)]
    exact R.drop fun a z => .inl z
  have hsl : i < σ.length := by rw [R.len]; exact hil
  have sub : ∀ a, Foot (fpu fp i new) a → Foot fp a ∨ a ∈ new := fun a z => by
    rcases z.of_u with z | ⟨j, _, z⟩
    · exact .inr z
    · exact .inl ⟨j, z⟩
  have lw : ∀ a, Lf C fp (exu ex new) a → Lf C (fpu fp i new) ex a := fun a l => ⟨fun z => (sub a z).elim l.1 fun z => l.2.1 (.inr z), fun z => l.2.1 (.inl z), l.2.2⟩
  refine ⟨fpu fp i new, ⟨by rw [List.length_set, List.length_set]; exact R.len, fun j t' e => ?_, fun j h => ?_, fun j => ?_, fun j k a h1 h2 => ?_, fun j a h z => ?_, fun a z => R.xa a (.inl z), R.fr, R.al, fun j a h => ?_, fun j hj => ?_⟩, sub⟩
  · by_cases ej : j = i
    · subst ej
      rw [List.getElem?_set_self hil] at e
      cases e
      exact ⟨v, List.getElem?_set_self hsl, by rw [fpu_same]; exact o.wide fun a l _ => lw a l⟩
    · rw [List.getElem?_set_ne (Ne.symm ej)] at e
      obtain ⟨w, e1, o1⟩ := R.own j t' e
      exact ⟨w, by rw [List.getElem?_set_ne (Ne.symm ej)]; exact e1, by rw [fpu_ne ej]; exact o1.wide fun a l _ => lw a l⟩
  · by_cases ej : j = i
    · subst ej; exact absurd (List.getElem?_set_self hil) (h r)
    · rw [fpu_ne ej]
      exact R.emp j fun t' z => h t' (by rw [List.getElem?_set_ne (Ne.symm ej)]; exact z)
  · by_cases ej : j = i
    · subst ej; rw [fpu_same]; exact nd
    · rw [fpu_ne ej]; exact R.nd j
  · by_cases ej : j = i
    · subst ej
      rw [fpu_same] at h1
      by_cases ek : k = j
      · exact ek.symm
      · rw [fpu_ne ek] at h2
        exact absurd (.inr h1) (R.dx k a h2)
    · rw [fpu_ne ej] at h1
      by_cases ek : k = i
      · subst ek
        rw [fpu_same] at h2
        exact absurd (.inr h2) (R.dx j a h1)
      · rw [fpu_ne ek] at h2
        exact R.dj j k a h1 h2
  · by_cases ej : j = i
    · subst ej
      rw [fpu_same] at h
      exact (hn a h).2 z
    · rw [fpu_ne ej] at h
      exact R.dx j a h (.inl z)
  · by_cases ej : j = i
    · subst ej
      rw [fpu_same] at h
      exact .inr (hn a h).1
    · rw [fpu_ne ej] at h
      exact R.new j a h
  · have ej : j ≠ i := fun z => hio (z ▸ hj)
    rw [List.getElem?_set_ne (Ne.symm ej)]
    exact R.io j hj
theorem RE.put {C : MC G} {H H' : Hp} {σ : St} {δ δ' : DEnv} {fp fp' : Fp} {ex : Addr → Prop} {i : Nat} {v : V} {r : OT} {new : List Addr} (R : RE C io p true H σ δ fp ex H' v r δ' fp' new) (R0 : Rel C io H σ δ fp ex) (hio : i ∉ io) :
    ∃ fp2, Rel C io H' (σ.set i (some v)) (δ'.set i (some r)) fp2 ex ∧ Kp H fp H' fp2 := by
  obtain ⟨fp2, R2, g⟩ := R.rel.put hio (R.own.wide fun a l _ => l rfl) R.nd fun a m => ⟨(R0.newOk (R.fresh a m)).2.2, (R0.newOk (R.fresh a m)).2.1⟩
  refine ⟨fp2, R2, fun b o e q => R.stp.keep b o e (.inr (q.resolve_left (by decide))), fun z => (nomatch z), fun a z => ?_, R.stp.al⟩
  rcases g a z with z | z
  · exact R.stp.grow a z
  · exact .inr (R.fresh a z)
theorem RE.fzc {C : MC G} {H H' : Hp} {σ : St} {δ δ' : DEnv} {fp fp' : Fp} {ex : Addr → Prop} {v : V} {r : OT} {new : List Addr} (R : RE C io p c H σ δ fp ex H' v r δ' fp' new) (R0 : Rel C io H σ δ fp ex) :
    RE C io p c H σ δ fp ex H' v (.fz r.data) δ' fp' [] := .fz R.base R.stp (R.da R0)
theorem RE.fzs {C : MC G} {H H' : Hp} {σ : St} {δ δ' : DEnv} {fp fp' : Fp} {ex : Addr → Prop} {v : V} {r : OT} {new : List Addr} (R : RE C io p c H σ δ fp ex H' v r δ' fp' new) (R0 : Rel C io H σ δ fp ex) (h : flatD r.data = true) :
    RE C io p true H σ δ fp ex H' v (.fz r.data) δ' fp' [] := .fz R.base R.stp ((R.da R0).flat h)
noncomputable def mSet (i : Nat) (m : MEt) : MSt := fun D δ => m δ fun r δ' => D.nx (δ'.set i (some (.fz r.data)))
noncomputable def mSetS (i : Nat) (m : MEt) : MSt := fun D δ => m δ fun r δ' => flatD r.data = true ∧ D.nx (δ'.set i (some (.fz r.data)))
noncomputable def mSetO (i : Nat) (m : MEt) : MSt := fun D δ => m δ fun r δ' => D.nx (δ'.set i (some r))
section
variable {i : Nat} {x : Str} {px : Pos}
theorem sSet {t : TE} (s : SE G io p true t m) (hio : i ∉ io) : SS G io (tAsg t (gName i)) (mSet i m) := fun C H σ δ fp ex D D' R h E => s C H σ δ fp ex _ _ R h fun H' v r δ' fp' new r1 h1 => by
  obtain ⟨fp2, R2, k2⟩ := (r1.fzc R).put R hio
  exact E.nx H' _ _ fp2 R2 k2 h1
theorem sSetS {t : TE} (s : SE G io p c t m) (hio : i ∉ io) : SS G io (tAsg t (gName i)) (mSetS i m) := fun C H σ δ fp ex D D' R h E => s C H σ δ fp ex _ _ R h fun H' v r δ' fp' new r1 h1 => by
  obtain ⟨fp2, R2, k2⟩ := (r1.fzs R h1.1).put R hio
  exact E.nx H' _ _ fp2 R2 k2 h1.2
theorem sSetO {t : TE} (s : SE G io p true t m) (hio : i ∉ io) : SS G io (tAsg t (gName i)) (mSetO i m) := fun C H σ δ fp ex D D' R h E => s C H σ δ fp ex _ _ R h fun H' v r δ' fp' new r1 h1 => by
  obtain ⟨fp2, R2, k2⟩ := r1.put R hio
  exact E.nx H' _ _ fp2 R2 k2 h1
theorem ms_set (hN : X.N.Nodup) (hi : X.N[i]? = some x) (hx : Loc X.env.scope x) (he : ME X io p true e m) (hio : i ∉ io := by decide) (hs : swapsWith e (some (.Name x px)) pos.line X.env = pure false := by rfl) (hf : X.fn x = true ∨ X.env.scope.names.lookup x = some .local := by first | exact .inl rfl | exact .inr rfl | assumption) :
    MS X io (.Assign [.Name x px] e pos) (mSet i m) := by
  obtain ⟨_, A, s⟩ := he
  exact ⟨_, ps_set hN hi hx A hs hf, sSet s hio⟩
theorem ms_setS (hN : X.N.Nodup) (hi : X.N[i]? = some x) (hx : Loc X.env.scope x) (he : ME X io p c e m) (hio : i ∉ io := by decide) (hs : swapsWith e (some (.Name x px)) pos.line X.env = pure false := by rfl) (hf : X.fn x = true ∨ X.env.scope.names.lookup x = some .local := by first | exact .inl rfl | exact .inr rfl | assumption) :
    MS X io (.Assign [.Name x px] e pos) (mSetS i m) := by
  obtain ⟨_, A, s⟩ := he
  exact ⟨_, ps_set hN hi hx A hs hf, sSetS s hio⟩
theorem ms_setO (hN : X.N.Nodup) (hi : X.N[i]? = some x) (hx : Loc X.env.scope x) (he : ME X io p true e m) (hio : i ∉ io := by decide) (hs : swapsWith e (some (.Name x px)) pos.line X.env = pure false := by rfl) (hf : X.fn x = true ∨ X.env.scope.names.lookup x = some .local := by first | exact .inl rfl | exact .inr rfl | assumption) :
    MS X io (.Assign [.Name x px] e pos) (mSetO i m) := by
  obtain ⟨_, A, s⟩ := he
  exact ⟨_, ps_set hN hi hx A hs hf, sSetO s hio⟩
end
noncomputable def mWhile (t : MTt) (u : MSt) : MSt := fun D δ => ∃ W : Nat → DEnv → Prop, (∃ n, W n δ) ∧ ∀ n δ, W n δ → t δ fun b δ' => if b = true then ∃ N : DEnv → Prop, (∀ δ', N δ' → ∃ n', n' < n ∧ W n' δ') ∧ u { D with nx := N, ct := N, bk := D.nx } δ' else D.nx δ'
theorem ms_while {cnd : Expr} {ss : List Stmt} (hp : PassesOwn (model X.prog X.w) X.A X.env X.xe) (hc : MT X io p cnd mt) (ha : MSs X io ss u) : MS X io (.While cnd ss [] pos) (mWhile mt u) := by
  obtain ⟨_, T, s⟩ := hc
  obtain ⟨_, A, sa⟩ := ha
  refine ⟨_, ps_while hp T A, fun C H σ δ fp ex D D' R h E => ?_⟩
  obtain ⟨W, ⟨n0, w0⟩, turn⟩ := h
  refine ⟨fun n σ' H' => ∃ δ' fp', Rel C io H' σ' δ' fp' ex ∧ Kp H fp H' fp' ∧ W n δ', ⟨n0, δ, fp, R, .refl _ _, w0⟩, ?_⟩
  rintro n σ1 H1 ⟨δ1, fp1, R1, k1, w1⟩
  refine s C H1 σ1 δ1 fp1 ex _ _ R1 (turn n δ1 w1) fun H2 b δ2 fp2 R2 S2 h2 => ?_
  have k2 := k1.trans S2.kp
  cases b with
  | true =>
    rw [if_pos rfl] at h2 ⊢
    obtain ⟨N, hN, h2⟩ := h2
    refine ⟨fun σ' H' => ∃ δ' fp', Rel C io H' σ' δ' fp' ex ∧ Kp H fp H' fp' ∧ N δ', fun σ' H' ⟨δ', fp', R', k', n'⟩ => ?_, ?_⟩
    · obtain ⟨n1, hn1, w1⟩ := hN δ' n'
      exact ⟨n1, hn1, δ', fp', R', k', w1⟩
    · refine sa C H2 σ1 δ2 fp2 ex _ _ R2 h2 ⟨fun H' σ' δ' fp' R' k' n' => ⟨δ', fp', R', k2.trans k', n'⟩, fun H' σ' δ' fp' R' k' n' => E.nx H' σ' δ' fp' R' (k2.trans k') n', fun H' σ' δ' fp' R' k' n' => ⟨δ', fp', R', k2.trans k', n'⟩, E.rt⟩
  | false =>
    rw [if_neg Bool.false_ne_true] at h2 ⊢
    exact E.nx H2 σ1 δ2 fp2 R2 k2 h2
end
end L2
namespace L2
open PySem PySem.Spec PyProof.Rows
variable {G : PySem.W.Frag}
noncomputable def startD (N : List Str) (ds : List PyData) : DEnv := ds.map (fun d => some (.fz d)) ++ List.replicate (N.length - ds.length) none
section
variable {H : Hp} {L : Addr → Prop} {vs : List V} {ds : List PyData} {N : List Str}
theorem startD_at {i : Nat} {t : OT} {n : Nat} (h : (ds.map (fun d => some (.fz d)) ++ List.replicate n none : DEnv)[i]? = some (some t)) : ∃ d, ds[i]? = some d ∧ t = .fz d := by
  rw [List.getElem?_append] at h
  split at h
  · rw [List.getElem?_map] at h
    cases e : ds[i]? with
    | none => rw [e] at h; cases h
    | some d => rw [e] at h; cases h; exact ⟨d, rfl, rfl⟩
  · rw [List.getElem?_replicate] at h
    split at h
    · cases h
    · cases h
theorem Rel.entry (h : Das G H L vs ds) : Rel (G := G) ⟨H, fun _ => False, L, start N vs⟩ [] H (start N vs) (startD N ds) (fun _ => []) (fun _ => False) := by
  refine ⟨?_, fun i t e => ?_, fun _ _ => rfl, fun _ => .nil, fun i j a m => (nomatch m), fun i a m => (nomatch m), fun a z => z.elim, fun b o e _ => e, fun b e => e, fun i a m => (nomatch m), fun i m => nomatch m⟩
  · unfold start startD
    simp [h.length]
  · obtain ⟨d, e', rfl⟩ := startD_at e
    obtain ⟨x, e1, q⟩ := h.get e'
    refine ⟨x, ?_, .fz (q.wide fun a l _ => ⟨fun ⟨j, z⟩ => (nomatch z), fun z => z, .inl l⟩)⟩
    unfold L2.start
    rw [List.getElem?_append_left (by rw [List.length_map]; exact (List.getElem?_eq_some_iff.mp e1).1), List.getElem?_map, e1]
    rfl
variable {P : Program} {w : World} {K : PySem.W.Frag} {mg : Str → Option Value} {base : Heap}
noncomputable def endsD (k : OT → Prop) : EndsM := { nx := fun _ => k (.fz .none), rt := fun r _ => k r }
theorem Fun.okD {x qual : Str} {st : Stmt} {f : Addr} {fd : FuncData} {N ps : List Str} {n : Nat} {S : List PyData → (OT → Prop) → Prop} (F : Fun K x qual st f fd) (Sc : FnScope N ps (defScope st)) (len : ∀ ds k, S ds k → ds.length = ps.length)
    (hbody : ∀ (cdv : Value) (A : Around) (outer : List Env) (s : Shared) (H : Hp) (E : XK), Room n (A.deeper (envOfC qual (defScope st) s.heap.objs.size f cdv)) →
      ∃ m, MSs (cxOf CX0 P w K mg base N qual (defScope st) f cdv A outer s H E).nox [] (defBody st) m ∧ ∀ ds k, S ds k → m (endsD k) (startD N ds)) : FnOk P w K mg base CX0 (n + 1) f fd ps (spD K S) := by
  refine F.ok Sc (fun vs H Q E h => ?_) (fun cdv A outer s H vs Q E hr h => ?_)
  · obtain ⟨L, ds, k, h1, h2, _⟩ := h
    rw [h1.length]
    exact len ds k h2
  · obtain ⟨L, ds, k, h1, h2, h3⟩ := h
    obtain ⟨m, ⟨t, A1, s1⟩, q⟩ := hbody cdv A outer s H E hr
    refine ⟨t, A1, s1 ⟨H, fun _ => False, L, start N vs⟩ H _ _ _ _ (endsD k) _ (Rel.entry h1) (q ds k h2) ⟨fun H' σ' δ' fp' R _ hk => ?_, fun _ _ _ _ _ _ z => z.elim, fun _ _ _ _ _ _ z => z.elim, fun H' σ' v r δ' fp' new R o nd hn hk => ?_⟩⟩
    · exact h3 _ .non H' [] hk (fun b o e => R.fr b o e id) (.fz .non) .nil fun a m => nomatch m
    · refine h3 r v H' new hk (fun b o e => R.fr b o e id) (o.wide fun a l _ => ⟨?_, fun z => l.2.1 (.inr z)⟩) nd hn
      exact l.2.2
end
noncomputable abbrev MGt := PyData → DEnv → (DEnv → Prop) → Prop
noncomputable abbrev MGst := List PyData → DEnv → (DEnv → Prop) → Prop
noncomputable def SG (G : PySem.W.Frag) (io : List Nat) (c : Bool) (t : TG) (g : MGt) : Prop := ∀ (C : MC G) (H : Hp) (σ : St) (δ : DEnv) (fp : Fp) (ex : Addr → Prop) (v : V) (d : PyData) (k : DEnv → Prop) (Q : St → Hp → Prop), Rel C io H σ δ fp ex → Da G H (fun a => c = true → Lf C fp ex a) v d → g d δ k →
  (∀ σ' δ' fp', Rel C io H σ' δ' fp' ex → Kp H fp H fp' → k δ' → Q σ' H) → t v σ H Q
noncomputable def SGs (G : PySem.W.Frag) (io : List Nat) (c : Bool) (t : TGs) (g : MGst) : Prop := ∀ (C : MC G) (H : Hp) (σ : St) (δ : DEnv) (fp : Fp) (ex : Addr → Prop) (v : List V) (d : List PyData) (k : DEnv → Prop) (Q : St → Hp → Prop), Rel C io H σ δ fp ex → Das G H (fun a => c = true → Lf C fp ex a) v d → g d δ k →
  (∀ σ' δ' fp', Rel C io H σ' δ' fp' ex → Kp H fp H fp' → k δ' → Q σ' H) → t v σ H Q
noncomputable def MG (X : Cx) (io : List Nat) (c : Bool) (tg : Expr) (g : MGt) : Prop := ∃ t, PG X tg t ∧ SG X.K io c t g
noncomputable def MGs (X : Cx) (io : List Nat) (c : Bool) (tg : List Expr) (g : MGst) : Prop := ∃ t, PGs X tg t ∧ SGs X.K io c t g
section
variable {X : Cx} {io : List Nat} {c : Bool} {pos : Pos} {i : Nat} {x : Str}
noncomputable def dName (i : Nat) : MGt := fun d δ k => k (δ.set i (some (.fz d)))
theorem Rel.putD {C : MC G} {H : Hp} {σ : St} {δ : DEnv} {fp : Fp} {ex : Addr → Prop} {v : V} {d : PyData} (R : Rel C io H σ δ fp ex) (hio : i ∉ io) (q : Da G H (Lf C fp ex) v d) :
    ∃ fp', Rel C io H (σ.set i (some v)) (δ.set i (some (.fz d))) fp' ex ∧ Kp H fp H fp' := by
  obtain ⟨fp', R', g⟩ := (R.drop fun a z => exu_nil.mp z).put (new := []) hio (.fz (q.wide fun a l _ => ⟨l.1, fun z => l.2.1 (exu_nil.mp z), l.2.2⟩)) .nil (fun a m => nomatch m)
  exact ⟨fp', R', fun b o e _ => e, fun z => (nomatch z), fun a z => (g a z).imp id fun z => (nomatch z), fun b e => e⟩
theorem mg_name (hN : X.N.Nodup) (hi : X.N[i]? = some x := by rfl) (hx : Loc X.env.scope x := by first | exact Or.inl rfl | exact Or.inr rfl) (hio : i ∉ io := by decide) (hf : X.fn x = true ∨ X.env.scope.names.lookup x = some .local := by first | exact .inl rfl | exact .inr rfl | assumption) : MG X io true (.Name x pos) (dName i) :=
  ⟨_, pg_name hN hi hx hf, fun C H σ δ fp ex v d k Q R q h kk => by
    obtain ⟨fp', R', k'⟩ := R.putD hio (q.wide fun a l _ => l rfl)
    exact kk _ _ fp' R' k' h⟩
noncomputable def dNil : MGst := fun ds δ k => ds = [] ∧ k δ
noncomputable def dCons (g : MGt) (gs : MGst) : MGst := fun ds δ k => match ds with | d :: r => g d δ fun δ' => gs r δ' k | [] => False
theorem mgs_nil : MGs X io c [] dNil := ⟨_, pgs_nil, fun C H σ δ fp ex v d k Q R q h kk => by
  obtain ⟨rfl, h⟩ := h
  cases q
  exact ⟨rfl, kk σ δ fp R (.refl _ _) h⟩⟩
theorem Rel.kp_das {C : MC G} {H H' : Hp} {σ : St} {δ : DEnv} {fp fp' : Fp} {ex : Addr → Prop} {vs : List V} {ds : List PyData} (R : Rel C io H σ δ fp ex) (S : Kp H fp H' fp') (h : Das G H (Lf C fp ex) vs ds) : Das G H' (Lf C fp' ex) vs ds := by
  have S' : Stp false H δ fp H' δ fp' := ⟨S.keep, fun z => (nomatch z), S.grow, S.al⟩
  obtain ⟨f1, f2⟩ := R.frameL (c := true) (ex' := ex) S' (.inr rfl) fun a z => .inl z
  exact h.frame (fun a xs l q => ⟨(f1 a xs (fun _ => l) q).1 rfl, (f1 a xs (fun _ => l) q).2⟩) f2
theorem mgs_cons {e : Expr} {es : List Expr} {g : MGt} {gs : MGst} (h1 : MG X io true e g) (h2 : MGs X io true es gs)
    (hs : (assignEach (e :: es) X.env).map (·.2) = assign e X.env :: (assignEach es X.env).map (·.2) := by rfl) : MGs X io true (e :: es) (dCons g gs) := by
  obtain ⟨_, A, s⟩ := h1
  obtain ⟨_, B, s'⟩ := h2
  exact ⟨_, pgs_cons A B hs, fun C H σ δ fp ex v d k Q R q h kk => by
    cases q with
    | nil => exact h.elim
    | cons q qs =>
      refine ⟨_, _, rfl, s C H σ δ fp ex _ _ _ _ R q h fun σ1 δ1 fp1 R1 k1 h1 => ?_⟩
      exact s' C H σ1 δ1 fp1 ex _ _ _ _ R1 ((R.kp_das k1 (qs.wide fun a l _ => l rfl)).wide fun a l _ _ => l) h1 fun σ2 δ2 fp2 R2 k2 h2 => kk σ2 δ2 fp2 R2 (k1.trans k2) h2⟩
noncomputable def dTup (n : Nat) (gs : MGst) : MGt := fun d δ k => match d with | .tuple ds => ds.length = n ∧ gs ds δ k | _ => False
theorem mg_tup {es : List Expr} {k : Nat} {gs : MGst} {n : Nat} (hc : X.calm = true) (h : MGs X io c es gs)
    (hn : (assignEach es X.env).length = n := by rfl) (hst : (assignEach es X.env).findIdx? (·.1) = none := by rfl) : MG X io c (.Tuple es k pos) (dTup n gs) := by
  obtain ⟨_, A, s⟩ := h
  exact ⟨_, pg_tup hc A hn hst, fun C H σ δ fp ex v d k Q R q h kk => by
    cases q with
    | tup e qs => exact ⟨_, _, rfl, .inl (.inl e), by rw [qs.length]; exact h.1, s C H σ δ fp ex _ _ _ _ R qs h.2 kk⟩
    | _ => exact h.elim⟩
end
end L2
namespace L2
open PySem PySem.Spec PyProof.Rows
variable {G : PySem.W.Frag}
noncomputable def IterOk (C : MC G) (fp : Fp) (ex : Addr → Prop) (H1 : Hp) (c : Bool) (J : It) (ds : List PyData) : Prop := ∀ H' : Hp, (∀ b o, H1 b = some o → (c = false ∨ ¬ Foot fp b) → H' b = some o) → ∀ i : Nat,
  (∀ d, ds[i]? = some d → J.go i H' ∧ ∀ x H'', J.yld i H' x H'' → Same H' H'' ∧ Da G H'' (fun a => c = true → (Lf C fp ex a ∧ H1 a ≠ none)) x d) ∧ (ds[i]? = none → J.stop i H')
noncomputable abbrev MIt := DEnv → (List PyData → DEnv → Prop) → Prop
noncomputable def SI (G : PySem.W.Frag) (io : List Nat) (p c : Bool) (t : TI) (m : MIt) : Prop := ∀ (C : MC G) (H : Hp) (σ : St) (δ : DEnv) (fp : Fp) (ex : Addr → Prop) (K : List PyData → DEnv → Prop) (Q : It → Hp → Prop), Rel C io H σ δ fp ex → m δ K →
  (∀ J H1 ds δ1 fp1, Rel C io H1 σ δ1 fp1 ex → Stp p H δ fp H1 δ1 fp1 → IterOk C fp1 ex H1 c J ds → K ds δ1 → Q J H1) → t σ H Q
noncomputable def MI (X : Cx) (io : List Nat) (p c : Bool) (tg iter : Expr) (m : MIt) : Prop := ∃ t, PI X tg iter t ∧ SI X.K io p c t m
section
variable {X : Cx} {io : List Nat} {p c : Bool} {e a b tg : Expr} {m : MEt} {mr : MAt} {K : PySem.W.Frag}
noncomputable def iL (m : MEt) : MIt := fun δ K => m δ fun r δ' => match r.data with | .list ds => K ds δ' | _ => False
theorem Rel.kept {C : MC G} {H H' : Hp} {σ : St} {δ : DEnv} {fp : Fp} {ex : Addr → Prop} (R : Rel C io H σ δ fp ex) (kp : ∀ b o, H b = some o → (c = false ∨ ¬ Foot fp b) → H' b = some o) :
    (∀ a (xs : MuO), (c = true → Lf C fp ex a) → Rd H a xs.ho → (c = true → (Lf C fp ex a ∧ H a ≠ none)) ∧ Rd H' a xs.ho) ∧ (∀ a (xs : ImO), H a = some xs.ho → H' a = some xs.ho) := by
  refine ⟨fun a xs l q => ⟨fun hc => ⟨l hc, q.some⟩, ?_⟩, fun a xs q => kp a _ q (.inr fun z => ?_)⟩
  · have hk : c = false ∨ ¬ Foot fp a := by
      cases c with
      | false => exact .inl rfl
      | true => exact .inr (l rfl).1
    rcases q with q | ⟨o, q⟩
    · exact .inl (kp a _ q hk)
    · exact .inr ⟨o, kp a _ q hk⟩
  · obtain ⟨ys, e⟩ := R.foot z
    exact ImO.nm q e
theorem mi_list (h : ME X io p c e m) : MI X io p c tg e (iL m) := by
  obtain ⟨_, A, s⟩ := h
  exact ⟨_, pi_listK rfl A, fun C H σ δ fp ex K' Q R h kk => s C H σ δ fp ex _ _ R h fun H1 v r δ1 fp1 new r1 h1 => by
    have q := r1.da R
    generalize r.data = d at q h1
    cases q with
    | lst l e qs =>
      refine ⟨_, rfl, ⟨_, .inl e⟩, kk _ H1 _ δ1 fp1 r1.base r1.stp (fun H' kp i => ?_) h1⟩
      obtain ⟨f1, f2⟩ := r1.base.kept kp
      have e' := (f1 _ (.lst _) l e).2
      have qs' := qs.frame f1 f2
      refine ⟨fun d hd => ?_, fun hd => ?_⟩
      · obtain ⟨x, hx, qx⟩ := qs'.get hd
        refine ⟨⟨_, x, .inl e', hx⟩, fun y H'' hy => ?_⟩
        obtain ⟨rfl, hy⟩ := hy
        have := hy _ (.inl e')
        rw [hx] at this
        cases this
        exact ⟨Same.refl _, qx⟩
      · exact ⟨_, .inl e', by rw [qs'.length]; exact List.getElem?_eq_none_iff.mp hd⟩
    | scr ks =>
      refine ⟨_, rfl, ⟨_, ks.sq⟩, kk _ H1 _ δ1 fp1 r1.base r1.stp (fun H' kp i => ?_) h1⟩
      refine ⟨fun d hd => ?_, fun hd => ?_⟩
      · obtain ⟨x, hx, qx⟩ := (Das.ints (G := X.K) (H := H') (L := fun a => c = true → (Lf C fp1 ex a ∧ H1 a ≠ none)) _).get hd
        refine ⟨⟨_, x, ks.sq, hx⟩, fun y H'' hy => ?_⟩
        obtain ⟨rfl, hy⟩ := hy
        have := hy _ ks.sq
        rw [hx] at this
        cases this
        exact ⟨Same.refl _, qx⟩
      · refine ⟨_, ks.sq, ?_⟩
        have := List.getElem?_eq_none_iff.mp hd
        simpa using this
    | _ => exact h1.elim⟩
noncomputable def rngD (lo : Int) (n : Nat) : List PyData := (List.range n).map fun (i : Nat) => PyData.int (lo + (i : Int))
@[simp] theorem rngD_length (lo : Int) (n : Nat) : (rngD lo n).length = n := by simp [rngD]
theorem rngD_get {lo : Int} {n i : Nat} {d : PyData} (h : (rngD lo n)[i]? = some d) : i < n ∧ d = .int (lo + i) := by
  have hi : i < n := by
    have := (List.getElem?_eq_some_iff.mp h).1
    simpa using this
  unfold rngD at h
  rw [List.getElem?_map, List.getElem?_range hi] at h
  cases h
  exact ⟨hi, rfl⟩
theorem iter_rng {C : MC G} {fp : Fp} {ex : Addr → Prop} {H1 : Hp} {lo : Int} {n : Nat} : IterOk C fp ex H1 true (Itr lo n) (rngD lo n) := fun H' _ i => by
  refine ⟨fun d hd => ?_, fun hd => ?_⟩
  · obtain ⟨hi, rfl⟩ := rngD_get hd
    refine ⟨hi, fun x H'' hy => ?_⟩
    obtain ⟨rfl, rfl⟩ := hy
    exact ⟨Same.refl _, .int _⟩
  · have := List.getElem?_eq_none_iff.mp hd
    show n ≤ i
    simpa using this
noncomputable def iR1 (mr : MAt) : MIt := fun δ K => mr δ fun rs δ' => match OT.datas rs with | [.int j] => (-(2 ^ 62) ≤ j ∧ j < 2 ^ 62) ∧ K (rngD 0 j.toNat) δ' | _ => False
noncomputable def iR2 (mr : MAt) : MIt := fun δ K => mr δ fun rs δ' => match OT.datas rs with | [.int i, .int j] => (-(2 ^ 62) ≤ i ∧ i < 2 ^ 62 ∧ -(2 ^ 62) ≤ j ∧ j < 2 ^ 62) ∧ K (rngD i (j - i).toNat) δ' | _ => False
theorem mi_range1 {p' pos : Pos} (hg : Gl X "range") (hm : X.mg "range" = none) (ha : MA X io p c [a] mr) (hs : starEach [a] X.env = [(false, eval a X.env)] := by rfl) : MI X io p true tg (.Call (.Name "range" p') [a] [] pos) (iR1 mr) := by
  obtain ⟨_, A, s⟩ := ha
  exact ⟨_, pi_range1 hg hm A hs, fun C H σ δ fp ex K' Q R h kk => s C H σ δ fp ex _ _ R h fun H1 vs rs δ1 fp1 new r1 h1 => by
    have q := r1.das R
    generalize OT.datas rs = d at q h1
    split at h1
    case h_2 => exact h1.elim
    cases q with
    | cons q1 q2 =>
      cases q1
      cases q2
      exact ⟨_, rfl, h1.1.1, h1.1.2, kk _ H1 _ δ1 fp1 r1.base r1.stp iter_rng h1.2⟩⟩
theorem mi_range2 {p' pos : Pos} (hg : Gl X "range") (hm : X.mg "range" = none) (ha : MA X io p c [a, b] mr) (hs : starEach [a, b] X.env = [(false, eval a X.env), (false, eval b X.env)] := by rfl) (hs2 : starEach [b] X.env = [(false, eval b X.env)] := by rfl) : MI X io p true tg (.Call (.Name "range" p') [a, b] [] pos) (iR2 mr) := by
  obtain ⟨_, A, s⟩ := ha
  exact ⟨_, pi_range2 hg hm A hs hs2, fun C H σ δ fp ex K' Q R h kk => s C H σ δ fp ex _ _ R h fun H1 vs rs δ1 fp1 new r1 h1 => by
    have q := r1.das R
    generalize OT.datas rs = d at q h1
    split at h1
    case h_2 => exact h1.elim
    cases q with
    | cons q1 q2 =>
      cases q1
      cases q2 with
      | cons q2 q3 =>
        cases q2
        cases q3
        exact ⟨_, _, rfl, h1.1, kk _ H1 _ δ1 fp1 r1.base r1.stp iter_rng h1.2⟩⟩
theorem IterOk.at {C : MC G} {fp fp' : Fp} {ex : Addr → Prop} {H1 H' H'' : Hp} {J : It} {ds : List PyData} {x : V} {d : PyData} (g : ∀ a, Foot fp' a → Foot fp a ∨ H1 a = none) (h : Da G H'' (fun a => true = true → (Lf C fp ex a ∧ H1 a ≠ none)) x d) : Da G H'' (fun a => true = true → Lf C fp' ex a) x d :=
  h.wide fun a l _ z => ⟨fun w => (g a w).elim (l z).1.1 (l z).2, (l z).1.2.1, (l z).1.2.2⟩
noncomputable def mForB (ds : List PyData) (g : MGt) (u : MSt) (D : EndsM) (δ1 : DEnv) : Prop := ∃ I : Nat → DEnv → Prop, I 0 δ1 ∧ (∀ (i : Nat) (d : PyData) (δ' : DEnv), ds[i]? = some d → I i δ' → g d δ' fun δ2 => u { D with nx := I (i + 1), ct := I (i + 1), bk := D.nx } δ2) ∧ ∀ δ', I ds.length δ' → D.nx δ'
noncomputable def mFor (mi : MIt) (g : MGt) (u : MSt) : MSt := fun D δ => mi δ fun ds δ1 => mForB ds g u D δ1
theorem Rel.mk0 {C : MC G} {H H' : Hp} {σ : St} {δ : DEnv} {fp : Fp} {ex : Addr → Prop} (R : Rel C io H σ δ fp ex) (s : Same H H') : Rel C io H' σ δ fp ex := (R.made (new := []) s fun a m => nomatch m).drop fun a z => .inl z
theorem ms_for {iter : Expr} {body : List Stmt} {mi : MIt} {g : MGt} {u : MSt} {pos : Pos} (hp : PassesOwn (model X.prog X.w) X.A X.env X.xe) (hc : X.calm = true) (hi : MI X io p true tg iter mi) (hg : MG X io true tg g) (hb : MSs X io body u)
    (hs : ∀ x, foldedSetIterable iter X.env x = pure x := by intro _; rfl) : MS X io (.For tg iter body [] pos) (mFor mi g u) := by
  obtain ⟨_, A, s⟩ := hi
  obtain ⟨_, G, sg⟩ := hg
  obtain ⟨_, B, sb⟩ := hb
  refine ⟨_, ps_for hp hc A G B hs, fun C H σ δ fp ex D D' R h E => s C H σ δ fp ex _ _ R h fun J H1 ds δ1 fp1 R1 S1 it h1 => ?_⟩
  obtain ⟨I, h0, turn, fin⟩ := h1
  refine ⟨fun i n σ' H' => n = ds.length - i ∧ i ≤ ds.length ∧ ∃ δ' fp', Rel C io H' σ' δ' fp' ex ∧ Kp H1 fp1 H' fp' ∧ I i δ', ⟨ds.length, rfl, Nat.zero_le _, δ1, fp1, R1, .refl _ _, h0⟩, ?_⟩
  rintro i n σ2 H2 ⟨rfl, hle, δ2, fp2, R2, k2, i2⟩
  have itk := it H2 (fun b o e q => k2.keep b o e (.inr (q.resolve_left (by decide)))) i
  by_cases hlt : i < ds.length
  · have hd : ds[i]? = some ds[i] := List.getElem?_eq_getElem hlt
    obtain ⟨go, yl⟩ := itk.1 _ hd
    refine .inr ⟨go, fun σ' H' => ∃ δ' fp', Rel C io H' σ' δ' fp' ex ∧ Kp H1 fp1 H' fp' ∧ I (i + 1) δ', fun σ' H' ⟨δ', fp', R', k', i'⟩ => ⟨ds.length - (i + 1), by omega, rfl, hlt, δ', fp', R', k', i'⟩, fun x H3 hy => ?_⟩
    obtain ⟨s3, q3⟩ := yl x H3 hy
    have R3 := R2.mk0 s3
    have k3 : Kp H1 fp1 H3 fp2 := k2.trans ⟨fun b o e _ => s3 _ _ e, fun z => (nomatch z), fun a z => .inl z, s3.al⟩
    refine sg C H3 σ2 δ2 fp2 ex x _ _ _ R3 (IterOk.at (H' := H2) (J := J) (ds := ds) k2.grow q3) (turn i _ δ2 hd i2) fun σ4 δ4 fp4 R4 k4 h4 => ?_
    have k5 := k3.trans k4
    refine sb C H3 σ4 δ4 fp4 ex _ _ R4 h4 ⟨fun H' σ' δ' fp' R' k' n' => ⟨δ', fp', R', k5.trans k', n'⟩, fun H' σ' δ' fp' R' k' n' => E.nx H' σ' δ' fp' R' (S1.kp.trans (k5.trans k')) n', fun H' σ' δ' fp' R' k' n' => ⟨δ', fp', R', k5.trans k', n'⟩, E.rt⟩
  · have e : i = ds.length := by omega
    subst e
    exact .inl ⟨itk.2 (by simp), E.nx H2 σ2 δ2 fp2 R2 (S1.kp.trans k2) (fin δ2 i2)⟩
end
noncomputable def gM (G : PySem.W.Frag) (io : List Nat) (c : Bool) (g : MGt) : TG := fun v σ H Q => ∃ (C : MC G) (δ : DEnv) (fp : Fp) (ex : Addr → Prop) (d : PyData) (k : DEnv → Prop), Rel C io H σ δ fp ex ∧ Da G H (fun a => c = true → Lf C fp ex a) v d ∧ g d δ k ∧
  ∀ σ' δ' fp', Rel C io H σ' δ' fp' ex → Kp H fp H fp' → k δ' → Q σ' H
noncomputable def tM (G : PySem.W.Frag) (io : List Nat) (p c : Bool) (m : MEt) : TE := fun σ H Q => ∃ (C : MC G) (δ : DEnv) (fp : Fp) (ex : Addr → Prop) (K : OT → DEnv → Prop), Rel C io H σ δ fp ex ∧ m δ K ∧ ∀ H' v r δ' fp' new, RE C io p c H σ δ fp ex H' v r δ' fp' new → K r δ' → Q v H'
noncomputable def ttM (G : PySem.W.Frag) (io : List Nat) (p : Bool) (m : MTt) : TT := fun σ H Q => ∃ (C : MC G) (δ : DEnv) (fp : Fp) (ex : Addr → Prop) (K : Bool → DEnv → Prop), Rel C io H σ δ fp ex ∧ m δ K ∧ ∀ H' b δ' fp', Rel C io H' σ δ' fp' ex → Stp p H δ fp H' δ' fp' → K b δ' → Q b H'
noncomputable def MIfs (X : Cx) (io : List Nat) (p : Bool) (ifs : List Expr) (m : MTt) : Prop := ∃ t, PIfs X ifs t ∧ STt X.K io p t m
section
variable {X : Cx} {io : List Nat} {p c : Bool} {e tg : Expr} {m : MEt} {mt : MTt} {g : MGt} {ifs : List Expr}
theorem MG.canon (h : MG X io c tg g) : PG X tg (gM X.K io c g) := by
  obtain ⟨t, A, s⟩ := h
  rintro pins sh σ H v u Q I r ⟨C, δ, fp, ex, d, k, R, q, h, kk⟩
  exact A pins sh σ H v u Q I r (s C H σ δ fp ex v d k Q R q h kk)
theorem ME.canon (h : ME X io p c e m) : PE X e (tM X.K io p c m) := by
  obtain ⟨t, A, s⟩ := h
  rintro pins sh σ H Q I ⟨C, δ, fp, ex, K, R, h, kk⟩
  exact A pins sh σ H Q I (s C H σ δ fp ex K Q R h kk)
theorem MIfs.canon (h : MIfs X io p ifs mt) : PIfs X ifs (ttM X.K io p mt) := by
  obtain ⟨t, A, s⟩ := h
  rintro pins sh σ H Q I ⟨C, δ, fp, ex, K, R, h, kk⟩
  exact A pins sh σ H Q I (s C H σ δ fp ex K Q R h kk)
noncomputable def mTrue : MTt := fun δ K => K true δ
theorem mif_nil : MIfs X io true [] mTrue := ⟨_, pif_nil, fun C H σ δ fp ex K Q R h kk => kk H true δ fp R (.refl _ _ _ _) h⟩
theorem mif_one {cnd : Expr} (h : MT X io p cnd mt) : MIfs X io p [cnd] mt := by
  obtain ⟨_, A, s⟩ := h
  exact ⟨_, pif_one A, s⟩
end
end L2
namespace L2
open PySem PySem.Spec PyProof.Rows
variable {G : PySem.W.Frag}
noncomputable def blk (n : Nat) (caps : List Nat) (δ : DEnv) : DEnv := List.replicate n none ++ caps.map fun i => (δ[i]?).getD none
noncomputable def blkFp (n : Nat) (caps : List Nat) (fp : Fp) : Fp := fun k => if k < n then [] else match caps[k - n]? with | some i => fp i | none => []
noncomputable def blkIo (n : Nat) (caps : List Nat) : List Nat := (List.range caps.length).map (· + n)
noncomputable def blkC (C : MC G) (H1 : Hp) (fp : Fp) (σ0 : St) : MC G := ⟨H1, Foot fp, fun a => (C.L a ∨ C.H₀ a = none) ∧ ¬ Foot fp a, σ0⟩
noncomputable def blkEx (ex : Addr → Prop) (D : Addr) (fp fpb : Fp) (a : Addr) : Prop := ex a ∨ a = D ∨ (Foot fp a ∧ ¬ Foot fpb a)
section
variable {C : MC G} {io : List Nat} {H1 H' : Hp} {σ : St} {δ : DEnv} {fp : Fp} {ex : Addr → Prop} {own : List Str} {caps : List Nat} {D : Addr} {n : Nat}
theorem blkFp_at {k : Nat} {a : Addr} (h : a ∈ blkFp n caps fp k) : ∃ i, n ≤ k ∧ caps[k - n]? = some i ∧ a ∈ fp i := by
  unfold blkFp at h
  split at h
  · exact nomatch h
  · split at h
    · rename_i i e
      exact ⟨i, by omega, e, h⟩
    · exact nomatch h
theorem blkFp_of {j i : Nat} (h : caps[j]? = some i) : blkFp n caps fp (n + j) = fp i := by
  unfold blkFp
  rw [if_neg (by omega), show n + j - n = j by omega, h]
theorem blk_at {k : Nat} {t : OT} (h : (blk n caps δ)[k]? = some (some t)) : ∃ i, n ≤ k ∧ caps[k - n]? = some i ∧ δ[i]? = some (some t) := by
  unfold blk at h
  rw [List.getElem?_append] at h
  split at h
  · rw [List.getElem?_replicate] at h
    split at h <;> cases h
  · rename_i hk
    rw [List.length_replicate] at hk h
    rw [List.getElem?_map] at h
    cases e : caps[k - n]? with
    | none => rw [e] at h; cases h
    | some i =>
      rw [e] at h
      refine ⟨i, by omega, rfl, ?_⟩
      simp only [Option.map_some] at h
      cases e2 : δ[i]? with
      | none => rw [e2] at h; cases h
      | some o =>
        rw [e2] at h
        simpa using h
theorem Rel.block (R : Rel C io H1 σ δ fp ex) (nd : caps.Nodup) (hD : H1 D = none) :
    Rel (blkC C H1 fp (start' own caps σ)) (blkIo own.length caps) (upd H1 D (.lst [])) (start' own caps σ) (blk own.length caps δ) (blkFp own.length caps fp) (blkEx ex D fp (blkFp own.length caps fp)) := by
  have s := same_new hD (.lst [])
  have sub : ∀ a, Foot (blkFp own.length caps fp) a → Foot fp a := fun a q91 => by
    obtain ⟨k, z⟩ := q91
    obtain ⟨i, _, _, z⟩ := blkFp_at z
    exact ⟨i, z⟩
  have neD : ∀ a, H1 a ≠ none → a ≠ D := fun a h z => h (z ▸ hD)
  refine ⟨by unfold start' blk; simp, fun k t e => ?_, fun k h => ?_, fun k => ?_, fun k l a h1 h2 => ?_, fun k a h z => ?_, fun a z => ?_, fun b o e _ => s _ _ e, fun b e => s.free e, fun k a h => ?_, fun k _ => rfl⟩
  · obtain ⟨i, hk, e1, e2⟩ := blk_at e
    obtain ⟨v, e3, o⟩ := R.own i t e2
    refine ⟨v, ?_, ?_⟩
    · unfold start'
      rw [List.getElem?_append_right (by simpa using hk), List.length_map, List.getElem?_map, e1]
      simp [e3]
    · have ef : blkFp own.length caps fp k = fp i := by
        have := blkFp_of (n := own.length) (fp := fp) e1
        rwa [show own.length + (k - own.length) = k by omega] at this
      rw [ef]
      refine (o.wide fun a l q => ⟨fun z => l.1 (sub a z), fun z => ?_, .inl ⟨l.2.2, l.1⟩⟩).same s
      rcases z with z | z | z
      · exact l.2.1 z
      · exact neD a q z
      · exact l.1 z.1
  · unfold blkFp
    split
    · rfl
    · split
      · rename_i i e1
        refine R.emp i fun t z => h t ?_
        unfold blk
        rw [List.getElem?_append_right (by rw [List.length_replicate]; omega), List.length_replicate, List.getElem?_map, e1]
        simp [z]
      · rfl
  · unfold blkFp
    split
    · exact .nil
    · split
      · exact R.nd _
      · exact .nil
  · obtain ⟨i, hk, e1, m1⟩ := blkFp_at h1
    obtain ⟨j, hl, e2, m2⟩ := blkFp_at h2
    have := R.dj i j a m1 m2
    subst this
    have hlt := (List.getElem?_eq_some_iff.mp e1).1
    have := (List.getElem?_inj hlt nd).mp (e1.trans e2.symm)
    omega
  · obtain ⟨i, hk, e1, m⟩ := blkFp_at h
    rcases z with z | z | z
    · exact R.dx i a m z
    · exact R.footSome (z ▸ hD) ⟨i, m⟩
    · exact z.2 ⟨k, h⟩
  · rcases z with z | z | z
    · intro q; exact R.xa a z (s.free q)
    · subst z; rw [upd_same]; intro q; cases q
    · obtain ⟨xs, e⟩ := R.foot z.1
      rw [s _ _ e]; intro q; cases q
  · obtain ⟨i, hk, e1, m⟩ := blkFp_at h
    refine .inl ⟨?_, ⟨i, m⟩⟩
    have := (List.getElem?_eq_some_iff.mp e1).1
    exact List.mem_map.mpr ⟨k - own.length, by simpa using this, by omega⟩
theorem blk_lf {σ0 : St} {fp' : Fp} {ex' : Addr → Prop} {a : Addr} (hx : ∀ a, ex a → ex' a) (l : Lf (blkC C H1 fp σ0) fp' ex' a) : Lf C fp ex a ∨ H1 a = none := by
  obtain ⟨l1, l2, l3⟩ := l
  rcases l3 with l3 | l3
  · exact .inl ⟨l3.2, fun z => l2 (hx a z), l3.1⟩
  · exact .inr l3
theorem Rel.poke (R : Rel C io H' σ δ fp ex) {xs ys : List V} (hx : ex D) (hD : H' D = some (.lst xs)) (h0 : C.H₀ D = none) : Rel C io (upd H' D (.lst ys)) σ δ fp ex := by
  have nf : ¬ Foot fp D := fun ⟨i, z⟩ => R.dx i D z hx
  have kp : ∀ b o, b ≠ D → H' b = some o → upd H' D (.lst ys) b = some o := fun b o n e => by rw [upd_ne n]; exact e
  refine ⟨R.len, fun i t e => ?_, R.emp, R.nd, R.dj, R.dx, fun a z => ?_, fun b o e n => ?_, fun b e => ?_, R.new, R.io⟩
  · obtain ⟨v, e1, o⟩ := R.own i t e
    refine ⟨v, e1, o.frame (fun a zs l q => ⟨l, ?_⟩) (fun a zs q => kp a _ (fun z => ?_) q) fun a m zs q => kp a _ (fun z => nf ⟨i, z ▸ m⟩) q⟩
    · have na : a ≠ D := fun z => l.2.1 (z ▸ hx)
      rcases q with q | ⟨u, q⟩
      · exact .inl (kp a _ na q)
      · exact .inr ⟨u, kp a _ na q⟩
    · exact ImO.nl q (z ▸ hD)
  · by_cases e : a = D
    · subst e; rw [upd_same]; intro q; cases q
    · rw [upd_ne e]; exact R.xa a z
  · refine kp b o (fun z => ?_) (R.fr b o e n)
    rw [z, h0] at e; cases e
  · refine R.al b ?_
    by_cases q : b = D
    · subst q; rw [upd_same] at e; cases e
    · rwa [upd_ne q] at e
theorem Owns.poke {L : Addr → Prop} {xs ys zs : List V} {rs : List OT} {as : List Addr} (o : Owns G H' L zs rs as) (hD : H' D = Option.some (HO.lst xs)) (hL : ¬ L D) (hn : D ∉ as) : Owns G (upd H' D (.lst ys)) L zs rs as := by
  refine o.frame (fun a zs l q => ⟨l, ?_⟩) (fun a zs q => ?_) fun a m zs q => ?_
  · have na : a ≠ D := fun z => hL (z ▸ l)
    rcases q with q | ⟨u, q⟩
    · exact .inl (by rw [upd_ne na]; exact q)
    · exact .inr ⟨u, by rw [upd_ne na]; exact q⟩
  · rw [upd_ne (fun z => ImO.nl q (z ▸ hD))]; exact q
  · have na : a ≠ D := fun z => hn (by rw [← z]; exact m)
    rw [upd_ne na]; exact q
theorem Owns.snoc {L : Addr → Prop} {xs : List V} {rs : List OT} {as bs : List Addr} {x : V} {r : OT} (h : Owns G H' L xs rs as) (k : Own G H' L x r bs) : Owns G H' L (xs ++ [x]) (rs ++ [r]) (as ++ bs) :=
  Owns.rec (motive_1 := fun _ _ _ _ => True) (motive_2 := fun xs rs as _ => Owns G H' L (xs ++ [x]) (rs ++ [r]) (as ++ bs)) (fun _ => trivial) (fun _ _ _ => trivial) (fun _ _ _ => trivial) (fun _ _ _ => trivial) (by have := Owns.cons k .nil; rwa [List.append_nil] at this) (fun k _ _ ih => by rw [List.append_assoc]; exact .cons k ih) h
end
structure BlkFin (C : MC G) (H1 : Hp) (fp1 : Fp) (ex : Addr → Prop) (n : Nat) (caps : List Nat) (σ0 : St) (D : Addr) (pb : Bool) (H' : Hp) (σ' : St) (δ' : DEnv) (fp' : Fp) (ys : List V) (rs : List OT) (new : List Addr) : Prop where
  keep : ∀ b o, H1 b = some o → (pb = true ∨ ¬ Foot (blkFp n caps fp1) b) → H' b = some o
  al : ∀ b, H' b = none → H1 b = none
  dat : H' D = some (.lst ys)
  rel : Rel (blkC C H1 fp1 σ0) (blkIo n caps) H' σ' δ' fp' (exu (blkEx ex D fp1 (blkFp n caps fp1)) new)
  grow : ∀ a, Foot fp' a → Foot (blkFp n caps fp1) a ∨ H1 a = none
  own : Owns G H' (fun a => true = true → Lf (blkC C H1 fp1 σ0) fp' (exu (blkEx ex D fp1 (blkFp n caps fp1)) new) a) ys rs new
  nd : new.Nodup
  fresh : ∀ a ∈ new, H1 a = none ∧ a ≠ D
section
variable {io : List Nat} {p c pt pe ci : Bool} {g : MGt} {mt : MTt} {me : MEt} {own : List Str} {caps : List Nat}
theorem comp_loop {C : MC G} {H1 : Hp} {σ : St} {δ1 : DEnv} {fp1 : Fp} {ex : Addr → Prop} {J : It} {ds : List PyData} {D : Addr} {Qf : Hp → Prop} (I : Nat → List OT → DEnv → Prop) (R1 : Rel C io H1 σ δ1 fp1 ex)
    (it : ∀ H' : Hp, (∀ b o, H1 b = some o → ((pt && pe) = true ∨ ¬ Foot (blkFp own.length caps fp1) b) → H' b = some o) → ∀ i : Nat, (∀ d, ds[i]? = some d → J.go i H' ∧ ∀ x H'', J.yld i H' x H'' → Same H' H'' ∧ Da G H'' (fun a => ci = true → (Lf C fp1 ex a ∧ H1 a ≠ none)) x d) ∧ (ds[i]? = none → J.stop i H'))
    (nd : caps.Nodup) (hD : H1 D = none) (hz : ds.length ≤ sizeLine) (h0 : I 0 [] (blk own.length caps δ1))
    (turn : ∀ (i : Nat) (d : PyData) (rs : List OT) (δ' : DEnv), ds[i]? = some d → I i rs δ' → g d δ' fun δ2 => mt δ2 fun b δ3 => if b = true then me δ3 fun r δ4 => I (i + 1) (rs ++ [r]) δ4 else I (i + 1) rs δ3)
    (fin : ∀ H' σ' δ' fp' ys rs new, BlkFin C H1 fp1 ex own.length caps (start' own caps σ) D (pt && pe) H' σ' δ' fp' ys rs new → I ds.length rs δ' → Qf H') :
    cLoop J (gM G (blkIo own.length caps) ci g) (ttM G (blkIo own.length caps) pt mt) (tM G (blkIo own.length caps) pe true me) (start' own caps σ) D Qf H1 := by
  have hx : blkEx ex D fp1 (blkFp own.length caps fp1) D := .inr (.inl rfl)
  refine ⟨fun i n σ' H' => n = ds.length - i ∧ i ≤ ds.length ∧ ∃ rs ys new δ' fp', BlkFin C H1 fp1 ex own.length caps (start' own caps σ) D (pt && pe) H' σ' δ' fp' ys rs new ∧ ys.length ≤ i ∧ I i rs δ', ⟨ds.length, rfl, Nat.zero_le _, [], [], [], _, _, ⟨fun b o e _ => same_new hD _ _ _ e, (same_new hD _).al, upd_same, ?_, fun a z => .inl z, .nil, .nil, fun a m => (nomatch m)⟩, Nat.le_refl _, h0⟩, ?_⟩
  · exact (R1.block nd hD).drop fun a z => exu_nil.mp z
  rintro i n σ2 H2 ⟨rfl, hle, rs, ys, new, δ2, fp2, B, hl, i2⟩
  have subB : ∀ b, Foot (blkFp own.length caps fp1) b → Foot fp1 b := fun b q92 => by
    obtain ⟨k, z⟩ := q92
    obtain ⟨i, _, _, z⟩ := blkFp_at z
    exact ⟨i, z⟩
  have itk := it H2 B.keep i
  by_cases hlt : i < ds.length
  case neg =>
    have e : i = ds.length := by omega
    subst e
    exact .inl ⟨itk.2 (by simp), fin H2 σ2 δ2 fp2 ys rs new B i2⟩
  have hd : ds[i]? = some ds[i] := List.getElem?_eq_getElem hlt
  obtain ⟨go, yl⟩ := itk.1 _ hd
  refine .inr ⟨go, fun x H3 hy => ?_⟩
  obtain ⟨s3, q3⟩ := yl x H3 hy
  have R3 := B.rel.mk0 s3
  have D3 : H3 D = some (.lst ys) := s3 _ _ B.dat
  -- the item, clean in the block
  have q3' : Da G H3 (fun a => ci = true → Lf (blkC C H1 fp1 (start' own caps σ)) fp2 (exu (blkEx ex D fp1 (blkFp own.length caps fp1)) new) a) x ds[i] := by
    refine q3.wide fun a l _ z => ?_
    obtain ⟨⟨l1, l2, l3⟩, l4⟩ := l z
    refine ⟨fun w => ?_, fun w => ?_, .inl ⟨l3, l1⟩⟩
    · rcases B.grow a w with w | w
      · exact l1 (subB a w)
      · exact l4 w
    · rcases w with (w | w | w) | w
      · exact l2 w
      · subst w; exact l4 hD
      · exact l1 w.1
      · exact l4 (B.fresh a w).1
  refine ⟨_, δ2, fp2, _, _, _, R3, q3', turn i _ rs δ2 hd i2, fun σ4 δ4 fp4 R4 k4 h4 => ?_⟩
  refine ⟨_, δ4, fp4, _, _, R4, h4, fun H5 b δ5 fp5 R5 S5 h5 => ?_⟩
  -- the state behind the test
  have keep5 : ∀ b o, H1 b = some o → ((pt && pe) = true ∨ ¬ Foot (blkFp own.length caps fp1) b) → H5 b = some o := fun b o e q => by
    refine S5.keep b o (s3 _ _ (B.keep b o e q)) ?_
    rcases q with q | q
    · rw [Bool.and_eq_true] at q; exact .inl q.1
    · refine .inr fun z => ?_
      rcases k4.grow b z with z | z
      · rcases B.grow b z with z | z
        · exact q z
        · rw [e] at z; cases z
      · rw [s3 _ _ (B.keep b o e (.inr q))] at z; cases z
  have al5 : ∀ b, H5 b = none → H1 b = none := fun b e => B.al b (s3.al b (S5.al b e))
  have grow4 : ∀ a, Foot fp4 a → Foot (blkFp own.length caps fp1) a ∨ H1 a = none := fun a z => by
    rcases k4.grow a z with z | z
    · exact B.grow a z
    · exact .inr (B.al a (s3.al a z))
  have grow5 : ∀ a, Foot fp5 a → Foot (blkFp own.length caps fp1) a ∨ H1 a = none := fun a z => by
    rcases S5.grow a z with z | z
    · exact grow4 a z
    · exact .inr (B.al a (s3.al a z))
  have D5 : H5 D = some (.lst ys) := S5.keep D _ D3 (.inr fun ⟨k, z⟩ => R4.dx k D z (.inl hx))
  have own3 := B.own.same s3
  -- the items so far behind the target and the test
  have own4 : Owns G H3 (fun a => true = true → Lf (blkC C H1 fp1 (start' own caps σ)) fp4 (exu (blkEx ex D fp1 (blkFp own.length caps fp1)) new) a) ys rs new := by
    refine own3.wide fun a l q z => ?_
    obtain ⟨l1, l2, l3⟩ := l z
    exact ⟨fun w => (k4.grow a w).elim l1 q, l2, l3⟩
  have own5 := R4.owns_step (ex' := exu (blkEx ex D fp1 (blkFp own.length caps fp1)) new) S5 (c := true) (.inr rfl) (fun a z => .inl z) (fun a m => .inr m) own4
  dsimp only at h5 ⊢
  cases b with
  | false =>
    rw [if_neg Bool.false_ne_true] at h5 ⊢
    exact ⟨ds.length - (i + 1), by omega, rfl, hlt, rs, ys, new, δ5, fp5, ⟨keep5, al5, D5, R5, grow5, own5, B.nd, B.fresh⟩, by omega, h5⟩
  | true =>
    rw [if_pos rfl] at h5 ⊢
    refine ⟨_, δ5, fp5, _, _, R5, h5, fun H6 v r δ6 fp6 nr r6 h6 => ?_⟩
    have D6 : H6 D = some (.lst ys) := r6.stp.keep D _ D5 (.inr fun ⟨k, z⟩ => R5.dx k D z (.inl hx))
    have hDnr : D ∉ nr := fun z => by
      have := r6.fresh D z
      rw [D5] at this; cases this
    have own6 := R5.owns_step (ex' := exu (exu (blkEx ex D fp1 (blkFp own.length caps fp1)) new) nr) r6.stp (c := true) (.inr rfl) (fun a z => z.imp id fun z => r6.fresh a z) (fun a m => .inr m) own5
    have eqx : ∀ a, exu (blkEx ex D fp1 (blkFp own.length caps fp1)) (new ++ nr) a → exu (exu (blkEx ex D fp1 (blkFp own.length caps fp1)) new) nr a := fun a z => by
      rcases z with z | z
      · exact .inl (.inl z)
      · rcases List.mem_append.mp z with z | z
        · exact .inl (.inr z)
        · exact .inr z
    have lw : ∀ a, (true = true → Lf (blkC C H1 fp1 (start' own caps σ)) fp6 (exu (exu (blkEx ex D fp1 (blkFp own.length caps fp1)) new) nr) a) → H6 a ≠ none → (true = true → Lf (blkC C H1 fp1 (start' own caps σ)) fp6 (exu (blkEx ex D fp1 (blkFp own.length caps fp1)) (new ++ nr)) a) :=
      fun a l _ z => ⟨(l z).1, fun w => (l z).2.1 (eqx a w), (l z).2.2⟩
    have ownA := (own6.snoc r6.own).wide lw
    refine ⟨ys, D6, by omega, ds.length - (i + 1), by omega, rfl, hlt, rs ++ [r], ys ++ [v], new ++ nr, δ6, fp6, ⟨fun b o e q => ?_, fun b e => ?_, upd_same, ?_, fun a z => ?_, ?_, ?_, fun a m => ?_⟩, by rw [List.length_append]; show ys.length + 1 ≤ i + 1; omega, h6⟩
    · have nD : b ≠ D := fun z => by rw [z, hD] at e; cases e
      rw [upd_ne nD]
      refine r6.stp.keep b o (keep5 b o e q) ?_
      rcases q with q | q
      · rw [Bool.and_eq_true] at q; exact .inl q.2
      · refine .inr fun z => ?_
        rcases grow5 b z with z | z
        · exact q z
        · rw [e] at z; cases z
    · by_cases q : b = D
      · subst q; rw [upd_same] at e; cases e
      · rw [upd_ne q] at e
        exact al5 b (r6.stp.al b e)
    · exact (r6.rel.drop eqx).poke (.inl hx) D6 hD
    · rcases r6.stp.grow a z with z | z
      · exact grow5 a z
      · exact .inr (al5 a z)
    · exact ownA.poke D6 (fun z => (z rfl).2.1 (.inl hx)) (fun m => by
        rcases List.mem_append.mp m with m | m
        · exact (B.fresh D m).2 rfl
        · exact hDnr m)
    · refine List.nodup_append.mpr ⟨B.nd, r6.nd, fun a m b m' z => ?_⟩
      subst z
      obtain ⟨xs, e⟩ := own5.some a m
      rw [r6.fresh a m'] at e; cases e
    · rcases List.mem_append.mp m with m | m
      · exact B.fresh a m
      · exact ⟨al5 a (r6.fresh a m), fun z => hDnr (z ▸ m)⟩
end
end L2
namespace L2
open PySem PySem.Spec PyProof.Rows
variable {G : PySem.W.Frag}
section
variable {X : Cx} {io : List Nat} {p p' c pt pe ci : Bool} {g : MGt} {mt : MTt} {me m : MEt} {mi : MIt} {own : List Str} {caps : List Nat} {e : Expr}
noncomputable def mFlat (m : MEt) : MEt := fun δ K => m δ fun r δ' => flatD r.data = true ∧ K (.fz r.data) δ'
theorem m_flat (h : ME X io p c e m) : ME X io p true e (mFlat m) := by
  obtain ⟨_, A, s⟩ := h
  exact ⟨_, A, fun C H σ δ fp ex K Q R h k => s C H σ δ fp ex _ _ R h fun H' v r δ' fp' new r1 h1 => k H' v _ δ' fp' [] (r1.fzs R h1.1) h1.2⟩
noncomputable def mCompB (n : Nat) (caps : List Nat) (ds : List PyData) (g : MGt) (mt : MTt) (me : MEt) (δ1 : DEnv) (K : OT → DEnv → Prop) : Prop := ds.length ≤ sizeLine ∧ ∃ I : Nat → List OT → DEnv → Prop, I 0 [] (blk n caps δ1) ∧
  (∀ (i : Nat) (d : PyData) (rs : List OT) (δ' : DEnv), ds[i]? = some d → I i rs δ' → g d δ' fun δ2 => mt δ2 fun b δ3 => if b = true then me δ3 fun r δ4 => I (i + 1) (rs ++ [r]) δ4 else I (i + 1) rs δ3) ∧
  ∀ rs δ', I ds.length rs δ' → K (.nd rs) δ1
noncomputable def mComp (n : Nat) (caps : List Nat) (mi : MIt) (g : MGt) (mt : MTt) (me : MEt) : MEt := fun δ K => mi δ fun ds δ1 => mCompB n caps ds g mt me δ1 K
theorem sComp {wi : TI} (si : SI G io p ci wi mi) (nd : caps.Nodup) (hp : (pt && pe) = true) :
    SE G io p true (tComp own caps wi (gM G (blkIo own.length caps) ci g) (ttM G (blkIo own.length caps) pt mt) (tM G (blkIo own.length caps) pe true me)) (mComp own.length caps mi g mt me) := by
  intro C H σ δ fp ex K Q R h k
  refine si C H σ δ fp ex _ _ R h fun J H1 ds δ1 fp1 R1 S1 it h1 D hD => ?_
  obtain ⟨hz, I, h0, turn, fin⟩ := h1
  refine comp_loop I R1 (fun H' kp => it H' fun b o e _ => kp b o e (.inl hp)) nd hD hz h0 turn fun H' σ' δ' fp' ys rs new B i' => ?_
  have s : Same H1 H' := fun b o e => B.keep b o e (.inl hp)
  refine k H' (.ref D) (.nd rs) δ1 fp1 (D :: new) (RE.tree R R1 S1 s (fun a m => ?_) (List.nodup_cons.mpr ⟨fun m => (B.fresh D m).2 rfl, B.nd⟩) (.nd B.dat (B.own.wide fun a l _ => ?_))) (fin rs δ' i')
  · rcases List.mem_cons.mp m with rfl | m
    · exact hD
    · exact (B.fresh a m).1
  · refine ⟨?_, fun m => ?_⟩
    · rcases blk_lf (fun a z => .inl (.inl z)) (l rfl) with z | z
      · exact .inl fun _ => z
      · exact .inr z
    · rcases List.mem_cons.mp m with z | z
      · exact (l rfl).2.1 (.inl (.inr (.inl z)))
      · exact (l rfl).2.1 (.inr z)
variable {N' : List Str} {sc : Scope} {tg elt iter : Expr} {ifs : List Expr} {pos : Pos}
theorem m_comp (S : CompScope X own caps N' sc) (hc : X.calm = true) (nd : caps.Nodup) (hi : MI X io p ci tg iter mi)
    (hg : ∀ C cells s₂ H₂ fp, MG (compCx X N' sc C cells s₂ H₂ fp) (blkIo own.length caps) ci tg g) (ht : ∀ C cells s₂ H₂ fp, MIfs (compCx X N' sc C cells s₂ H₂ fp) (blkIo own.length caps) pt ifs mt) (he : ∀ C cells s₂ H₂ fp, ME (compCx X N' sc C cells s₂ H₂ fp) (blkIo own.length caps) pe true elt me)
    (hp : (pt && pe) = true := by rfl) (hs : ∀ x, foldedSetIterable iter X.env x = pure x := by intro _; rfl) : ME X io p true (.ListComp elt [⟨tg, iter, ifs, 0⟩] sc pos) (mComp own.length caps mi g mt me) := by
  obtain ⟨_, A, si⟩ := hi
  exact ⟨_, pe_comp S hc A (fun C cells s₂ H₂ fp => (hg C cells s₂ H₂ fp).canon) (fun C cells s₂ H₂ fp => (ht C cells s₂ H₂ fp).canon) (fun C cells s₂ H₂ fp => (he C cells s₂ H₂ fp).canon) hs, sComp si nd hp⟩
section
variable {i : Nat} {y : Str} {py spos : Pos}
theorem ms_setcomp (own' : Bool) (hN : X.N.Nodup) (hy : X.N[i]? = some y) (hx : Loc X.env.scope y) (S : CompScope X own caps N' sc) (hc : X.calm = true) (nd : caps.Nodup) (hi : MI X io p ci tg iter mi)
    (hg : ∀ C cells s₂ H₂ fp, MG (compCx X N' sc C cells s₂ H₂ fp) (blkIo own.length caps) ci tg g) (ht : ∀ C cells s₂ H₂ fp, MIfs (compCx X N' sc C cells s₂ H₂ fp) (blkIo own.length caps) pt ifs mt) (he : ∀ C cells s₂ H₂ fp, ME (compCx X N' sc C cells s₂ H₂ fp) (blkIo own.length caps) pe true elt me)
    (hp : (pt && pe) = true := by rfl) (hio : i ∉ io := by decide)
    (hsw : swapsWith (.ListComp elt [⟨tg, iter, ifs, 0⟩] sc pos) (some (.Name y py)) spos.line X.env = pure true := by rfl)
    (hs : ∀ x, foldedSetIterable iter X.env x = pure x := by intro _; rfl) (hf : X.fn y = true ∨ X.env.scope.names.lookup y = some .local := by first | exact .inl rfl | exact .inr rfl | assumption) :
    MS X io (.Assign [.Name y py] (.ListComp elt [⟨tg, iter, ifs, 0⟩] sc pos) spos) (if own' = true then mSetO i (mComp own.length caps mi g mt me) else mSet i (mComp own.length caps mi g mt me)) := by
  obtain ⟨_, A, si⟩ := hi
  refine ⟨_, ps_setcomp (g := gM X.K (blkIo own.length caps) ci g) (tt := ttM X.K (blkIo own.length caps) pt mt) (te := tM X.K (blkIo own.length caps) pe true me) hN hy hx S hc A (fun C cells s₂ H₂ fp => (hg C cells s₂ H₂ fp).canon) (fun C cells s₂ H₂ fp => (ht C cells s₂ H₂ fp).canon) (fun C cells s₂ H₂ fp => (he C cells s₂ H₂ fp).canon) hsw hs hf, ?_⟩
  cases own'
  · exact sSet (sComp si nd hp) hio
  · exact sSetO (sComp si nd hp) hio
end
end
end L2
namespace L2
open PySem PySem.Spec PyProof.Rows
variable {G : PySem.W.Frag}
section
variable {X : Cx} {pins : List (Addr × Obj)} {σ : St} {H : Hp} {s : Shared} {l : Addr} {xs : List V}
noncomputable def rCatR (K : PySem.W.Frag) : R2 := fun x y H Q => ∃ l b xs zs, x = .ref l ∧ y = .ref b ∧ SqL K H l xs ∧ SqL K H b zs ∧ xs.length + zs.length ≤ sizeLine ∧ ∀ p, H p = none → Q (.ref p) (upd H p (.lst (xs ++ zs)))
theorem Inv.lstQ {K : PySem.W.Frag} (hK : X.K = K) (I : Inv X pins σ H s) (hH : SqL K H l xs) : ∃ (its : List Value) (n : Nat), Vals xs its ∧ xs.length = its.length ∧ ∃ o, s.heap.get? l = some o ∧ o.cls = .type "list" ∧ o.dict = none ∧ o.data = .seq its.toArray n := by
  subst hK
  obtain ⟨its, r, ⟨o, n, e, h1, h2, h3⟩, _⟩ := I.list hH
  exact ⟨its, n, r, r.length, o, e, h1, h2, h3⟩
theorem op_catR {K : PySem.W.Frag} (hK : X.K = K) : OpR X (binaryOp .Add) (rCatR K) := by
  intro pins s σ H x y v u Q I rx ry h
  obtain ⟨l, b, xs, zs, rfl, rfl, hH, hB, hz, q⟩ := h
  cases rx
  cases ry
  obtain ⟨its, n, r, hl, ⟨cls, dd, data, sl⟩, ho, hc, _, hd⟩ := I.lstQ hK hH
  obtain ⟨its2, n2, r2, hl2, ⟨cls2, dd2, data2, sl2⟩, ho2, hc2, _, hd2⟩ := I.lstQ hK hB
  simp only at hc hd hc2 hd2
  subst hc hd hc2 hd2
  have ea : its.toArray ++ its2.toArray = (its ++ its2).toArray := by simp
  refine concat_meets ⟨_, ho, rfl⟩ ⟨_, ho2, rfl⟩ noFill_list_add seq_list_add PySem.F.slot_list_add PySem.F.entry_list_add (PySem.F.args_list_add_2 _ _) (list_addW l b its.toArray its2.toArray n n2 dd dd2 sl sl2 (by simp only [List.size_toArray]; omega)) ⟨ho, ho2, ?_⟩
  rw [ea]
  exact ⟨.ref _, _, I.lnew (t' := s.toks) (r.append r2) (by rw [List.length_append]; omega), rfl, q _ I.fresh⟩
end
noncomputable def asI (d : PyData) (k : Int → Prop) : Prop := match d with | .int i => k i | _ => False
noncomputable def asL (d : PyData) (k : List PyData → Prop) : Prop := match d with | .list ds => k ds | _ => False
section
variable {H : Hp} {L : Addr → Prop} {v : V} {d : PyData}
theorem Da.intInv {k : Int → Prop} (q : Da G H L v d) (h : asI d k) : ∃ i, v = .int i ∧ k i := by
  cases q with
  | int b => exact ⟨b, rfl, h⟩
  | _ => exact h.elim
theorem Da.lstInv {k : List PyData → Prop} (q : Da G H L v d) (h : asL d k) : ∃ a xs ds, v = .ref a ∧ SqL G H a xs ∧ Das G H L xs ds ∧ k ds := by
  cases q with
  | lst l e r => exact ⟨_, _, _, rfl, .inl e, r, h⟩
  | scr s => exact ⟨_, _, _, rfl, s.sq, .ints _, h⟩
  | _ => exact h.elim
end
noncomputable def d2I (C : Int → Int → Prop) (g : Int → Int → PyData) : PyData → PyData → (PyData → Prop) → Prop := fun d e k => asI d fun i => asI e fun j => C i j ∧ k (g i j)
noncomputable def d2I0 (g : Int → Int → PyData) : PyData → PyData → (PyData → Prop) → Prop := fun d e k => asI d fun i => asI e fun j => k (g i j)
theorem p2_int {C : Int → Int → Prop} {f : Int → Int → Int} : P2s G (rI C fun i j => .int (f i j)) (d2I C fun i j => .int (f i j)) := fun H L x y d e k Q hx hy h kk => by
  obtain ⟨i, rfl, h⟩ := hx.intInv h
  obtain ⟨j, rfl, h⟩ := hy.intInv h
  exact ⟨i, j, rfl, rfl, h.1, kk _ _ (.int _) h.2⟩
structure MulOk (i j : Int) : Prop where
  ok : IntMulOk i j
structure DvOk (i j : Int) : Prop where
  ok : DivOk i j
structure PwOk (i j : Int) : Prop where
  ok : CPow i j
theorem p2_mul {f : Int → Int → Int} : P2s G (rI IntMulOk fun i j => .int (f i j)) (d2I MulOk fun i j => .int (f i j)) := fun H L x y d e k Q hx hy h kk => by
  obtain ⟨i, rfl, h⟩ := hx.intInv h
  obtain ⟨j, rfl, h⟩ := hy.intInv h
  exact ⟨i, j, rfl, rfl, h.1.ok, kk _ _ (.int _) h.2⟩
theorem p2_div {f : Int → Int → Int} : P2s G (rI DivOk fun i j => .int (f i j)) (d2I DvOk fun i j => .int (f i j)) := fun H L x y d e k Q hx hy h kk => by
  obtain ⟨i, rfl, h⟩ := hx.intInv h
  obtain ⟨j, rfl, h⟩ := hy.intInv h
  exact ⟨i, j, rfl, rfl, h.1.ok, kk _ _ (.int _) h.2⟩
theorem p2_pow {f : Int → Int → Int} : P2s G (rI CPow fun i j => .int (f i j)) (d2I PwOk fun i j => .int (f i j)) := fun H L x y d e k Q hx hy h kk => by
  obtain ⟨i, rfl, h⟩ := hx.intInv h
  obtain ⟨j, rfl, h⟩ := hy.intInv h
  exact ⟨i, j, rfl, rfl, h.1.ok, kk _ _ (.int _) h.2⟩
theorem p2_int0 {f : Int → Int → Int} : P2s G (rI0 fun i j => .int (f i j)) (d2I0 fun i j => .int (f i j)) := fun H L x y d e k Q hx hy h kk => by
  obtain ⟨i, rfl, h⟩ := hx.intInv h
  obtain ⟨j, rfl, h⟩ := hy.intInv h
  exact ⟨i, j, rfl, rfl, kk _ _ (.int _) h⟩
theorem p2_cmp {f : Int → Int → Bool} : P2s G (rI0 fun i j => .bl (f i j)) (d2I0 fun i j => .bool (f i j)) := fun H L x y d e k Q hx hy h kk => by
  obtain ⟨i, rfl, h⟩ := hx.intInv h
  obtain ⟨j, rfl, h⟩ := hy.intInv h
  exact ⟨i, j, rfl, rfl, kk _ _ (.bl _) h⟩
section
variable {X : Cx}
noncomputable def rEqA (K : PySem.W.Frag) : R2 := fun x y H Q => ∃ (L L' : Addr → Prop) (d e : PyData), Da K H L x d ∧ Da K H L' y e ∧ Shp d ∧ Shp e ∧ Q (.bl (PyData.eqv d e)) H
noncomputable def rNeA (K : PySem.W.Frag) : R2 := fun x y H Q => ∃ (L L' : Addr → Prop) (d e : PyData), Da K H L x d ∧ Da K H L' y e ∧ Shp d ∧ Shp e ∧ Q (.bl (!PyData.eqv d e)) H
theorem op_eqA (hu : X.A.units + 64 < cLine) : OpR X (compareOp .Eq) (rEqA X.K) := by
  intro pins s σ H x y v u Q I rx ry h
  obtain ⟨L, L', d, e, h1, h2, s1, s2, q⟩ := h
  obtain ⟨as, k1⟩ := h1.reads rfl I rx (SeqAt.canLay_of_shaped s1)
  obtain ⟨bs, k2⟩ := h2.reads rfl I ry (SeqAt.canLay_of_shaped s2)
  exact eq_dataH k1 k2 s1 s2 hu ⟨.bl _, H, I, rfl, q⟩
theorem op_neA (hu : X.A.units + 64 < cLine) : OpR X (compareOp .NotEq) (rNeA X.K) := by
  intro pins s σ H x y v u Q I rx ry h
  obtain ⟨L, L', d, e, h1, h2, s1, s2, q⟩ := h
  obtain ⟨as, k1⟩ := h1.reads rfl I rx (SeqAt.canLay_of_shaped s1)
  obtain ⟨bs, k2⟩ := h2.reads rfl I ry (SeqAt.canLay_of_shaped s2)
  exact ne_dataH k1 k2 s1 s2 hu ⟨.bl _, H, I, rfl, q⟩
end
structure ShpD (d : PyData) : Prop where
  ok : Shp d
noncomputable def dEq : PyData → PyData → (PyData → Prop) → Prop := fun d e k => ShpD d ∧ ShpD e ∧ k (.bool (PyData.eqv d e))
noncomputable def dNe : PyData → PyData → (PyData → Prop) → Prop := fun d e k => ShpD d ∧ ShpD e ∧ k (.bool (!PyData.eqv d e))
theorem p2_eq : P2s G (rEqA G) dEq := fun H L x y d e k Q hx hy h kk => ⟨L, L, d, e, hx, hy, h.1.ok, h.2.1.ok, kk _ _ (.bl _) h.2.2⟩
theorem p2_ne : P2s G (rNeA G) dNe := fun H L x y d e k Q hx hy h kk => ⟨L, L, d, e, hx, hy, h.1.ok, h.2.1.ok, kk _ _ (.bl _) h.2.2⟩
noncomputable def isNoneD : PyData → Bool
  | .none => true
  | _ => false
theorem Da.isNone {H : Hp} {L : Addr → Prop} {v : V} {d : PyData} (h : Da G H L v d) : decide (v = .non) = isNoneD d := by
  cases h <;> rfl
noncomputable def dIsN : PyData → PyData → (PyData → Prop) → Prop := fun d e k => e = .none ∧ k (.bool (isNoneD d))
theorem p2_isN : P2s G (fun x y H Q => y = .non ∧ Q (.bl (decide (x = .non))) H) dIsN := fun H L x y d e k Q hx hy h kk => by
  obtain ⟨rfl, h⟩ := h
  cases hy
  exact ⟨rfl, by rw [hx.isNone]; exact kk _ _ (.bl _) h⟩
noncomputable def ixD (d e : PyData) : Option PyData := match d, e with
  | .list ds, .int i => atI ds i
  | .tuple ds, .int i => atI ds i
  | _, _ => none
noncomputable def dIx : PyData → PyData → (OT → Prop) → Prop := fun d e k => match ixD d e with | some x => k (.fz x) | none => False
theorem Das.atI {H : Hp} {L : Addr → Prop} {xs : List V} {ds : List PyData} {i : Int} {d : PyData} (h : Das G H L xs ds) (e : L2.atI ds i = some d) : ∃ x, L2.atI xs i = some x ∧ Da G H L x d := by
  unfold L2.atI at *
  rw [h.length]
  cases q : ixN ds.length i with
  | none => rw [q] at e; cases e
  | some j =>
    rw [q] at e
    exact h.get e
theorem p2_ix : P2 G (rIx G) dIx := fun H L x y d e k Q hx hy h kk => by
  unfold dIx at h
  split at h
  case h_2 => exact h.elim
  rename_i z ez
  have fin : ∀ v, Da G H L v z → Q v H := fun v q => kk H v (.fz z) [] (Same.refl _) (.fz (q.wide fun a l _ => ⟨.inl l, fun m => nomatch m⟩)) .nil (fun a m => nomatch m) h
  cases hx with
  | lst l e1 r =>
    cases hy with
    | int i =>
      obtain ⟨v, e2, q⟩ := r.atI (show L2.atI _ i = some z from ez)
      exact .inl ⟨_, _, i, v, rfl, rfl, .inl e1, e2, fin v q⟩
    | _ => cases ez
  | tup e1 r =>
    cases hy with
    | int i =>
      obtain ⟨v, e2, q⟩ := r.atI (show L2.atI _ i = some z from ez)
      exact .inr (.inl ⟨_, _, i, v, rfl, rfl, .inl (.inl e1), e2, fin v q⟩)
    | _ => cases ez
  | scr ks =>
    cases hy with
    | int i =>
      obtain ⟨v, e2, q⟩ := (Das.ints (G := G) (H := H) (L := L) _).atI (show L2.atI _ i = some z from ez)
      exact .inl ⟨_, _, i, v, rfl, rfl, ks.sq, e2, fin v q⟩
    | _ => cases ez
  | _ => cases ez
theorem Own.list {H : Hp} {L : Addr → Prop} {p : Addr} {xs : List V} {ds : List PyData} (hp : H p = none) (h : Das G H L xs ds) : Own G (upd H p (.lst xs)) (fun a => (L a ∨ H a = none) ∧ a ∉ [p]) (.ref p) (.nd (ds.map OT.fz)) [p] :=
  .nd upd_same (((h.wide fun a l q => ⟨.inl l, fun m => q (by rw [List.mem_singleton.mp m]; exact hp)⟩).same (same_new hp _)).owns)
theorem one_new {H : Hp} {p : Addr} (hp : H p = none) : ∀ a ∈ [p], H a = none := fun a m => by rw [List.mem_singleton.mp m]; exact hp
theorem one_nd (p : Addr) : [p].Nodup := List.nodup_cons.mpr ⟨fun m => (nomatch m), .nil⟩
noncomputable def dCat : PyData → PyData → (OT → Prop) → Prop := fun d e k => asL d fun ds => asL e fun es => ds.length + es.length ≤ sizeLine ∧ k (.nd ((ds ++ es).map OT.fz))
theorem p2_cat : P2 G (rCatR G) dCat := fun H L x y d e k Q hx hy h kk => by
  obtain ⟨a, xs, ds, rfl, e1, r1, h⟩ := hx.lstInv h
  obtain ⟨b, ys, es, rfl, e2, r2, h⟩ := hy.lstInv h
  exact ⟨a, b, xs, ys, rfl, rfl, e1, e2, by rw [r1.length, r2.length]; exact h.1, fun p hp => kk _ _ _ [p] (same_new hp _) (Own.list hp (r1.append r2)) (one_nd p) (one_new hp) h.2⟩
noncomputable def n1 (k : PyData → Prop) (ds : List PyData) : Prop := match ds with | [d] => k d | _ => False
noncomputable def n2 (k : PyData → PyData → Prop) (ds : List PyData) : Prop := match ds with | [d, e] => k d e | _ => False
theorem Das.one {H : Hp} {L : Addr → Prop} {vs : List V} {ds : List PyData} {k : PyData → Prop} (q : Das G H L vs ds) (h : n1 k ds) : ∃ v d, vs = [v] ∧ ds = [d] ∧ Da G H L v d ∧ k d := by
  cases q with
  | nil => exact h.elim
  | cons q r =>
    cases r with
    | nil => exact ⟨_, _, rfl, rfl, q, h⟩
    | cons _ _ => exact h.elim
noncomputable def lenD : PyData → Option Nat
  | .list ds => some ds.length
  | .tuple ds => some ds.length
  | _ => none
noncomputable def dLen : List PyData → (PyData → Prop) → Prop := fun ds k => n1 (fun d => match lenD d with | some n => k (.int n) | none => False) ds
theorem pn_len : PNs G (rLen G) dLen := fun H L xs ds k Q hx h kk => by
  obtain ⟨v, d, rfl, rfl, q, h⟩ := hx.one h
  cases q with
  | lst l e r => exact ⟨_, _, rfl, .inl (.inl e), by rw [r.length]; exact kk _ _ (.int _) h⟩
  | tup e r => exact ⟨_, _, rfl, .inr (.inl (.inl e)), by rw [r.length]; exact kk _ _ (.int _) h⟩
  | scr ks => exact ⟨_, _, rfl, .inl ks.sq, by rw [(Das.ints (G := G) (H := H) (L := L) _).length]; exact kk _ _ (.int _) h⟩
  | _ => exact h.elim
noncomputable def dAbs : List PyData → (PyData → Prop) → Prop := fun ds k => n1 (fun d => asI d fun i => k (.int (if i < 0 then -i else i))) ds
theorem pn_abs : PNs G (fun xs H Q => ∃ i, xs = [.int i] ∧ Q (.int (if i < 0 then -i else i)) H) dAbs := fun H L xs ds k Q hx h kk => by
  obtain ⟨v, d, rfl, rfl, q, h⟩ := hx.one h
  obtain ⟨i, rfl, h⟩ := q.intInv h
  exact ⟨i, rfl, kk _ _ (.int _) h⟩
noncomputable def itemsD : PyData → Option (List PyData)
  | .list ds => some ds
  | .tuple ds => some ds
  | _ => none
noncomputable def dList : List PyData → (OT → Prop) → Prop := fun ds k => n1 (fun d => match itemsD d with | some es => k (.nd (es.map OT.fz)) | none => False) ds
theorem pn_list : PN G (rListOf G) dList := fun H L xs ds k Q hx h kk => by
  obtain ⟨v, d, rfl, rfl, q, h⟩ := hx.one h
  cases q with
  | lst l e r => exact ⟨_, _, rfl, .inl (.inl e), fun p hp => kk _ _ _ [p] (same_new hp _) (Own.list hp r) (one_nd p) (one_new hp) h⟩
  | tup e r => exact ⟨_, _, rfl, .inr (.inl (.inl e)), fun p hp => kk _ _ _ [p] (same_new hp _) (Own.list hp r) (one_nd p) (one_new hp) h⟩
  | scr ks => exact ⟨_, _, rfl, .inl ks.sq, fun p hp => kk _ _ _ [p] (same_new hp _) (Own.list hp (Das.ints _)) (one_nd p) (one_new hp) h⟩
  | _ => exact h.elim
section
variable {X : Cx} {io : List Nat} {p c : Bool} {a : Expr} {ma : MEt} {pos : Pos}
noncomputable def isTy (T : String) : PyData → Bool
  | .none => false
  | .bool _ => T == "bool" || T == "int"
  | .int _ => T == "int"
  | .str _ => T == "str"
  | .list _ => T == "list"
  | .tuple _ => T == "tuple"
  | .dict _ => false
noncomputable def mIsi (T : String) (m : MEt) : MEt := fun δ K => m δ fun r δ' => isFnD r.data = false ∧ K (.fz (.bool (isTy T r.data))) δ'
end
end L2
namespace L2
open PySem PySem.Spec PyProof.Rows
section
variable {prog : Program} {w : World} {A : Around} {E : Value → Shared → Prop} {h : Heap} {g : Array GenState} {d : Drawn} {t : Nat} {os : OsState} {a C : Addr} {o : Obj} {K : PySem.W.Frag}
theorem xcls_ty (M : Model) (hx : h.get? a = some o) (hc : o.cls = .ref C) : PySem.W.Looks M h (typeOf (.ref a)) (.ref C) := hc ▸ (PySem.W.Looks.ld hx).andThen .now
theorem xcls_get {R : Result → Shared → Prop} (X : K.In h) (Z : ExCls K C) (hx : h.get? a = some o) (hc : o.cls = .ref C) (hq : R (.ok (.ret (.ref C))) ⟨h, g, d, t, os⟩) :
    codeAny (model prog w) A (.call (.builtin "getset_descriptor.__get__") ⟨[.builtin "object.__class__", .ref a, .ref C], []⟩) R ⟨h, g, d, t, os⟩ := by
  have L1 : PySem.W.Looks (model prog w) h (isSubtype (.ref C) (.type (".".intercalate ("object.__class__".cutAt '.').dropLast))) true := by
    rw [F.owner_object_class]
    exact PySem.W.looks_subIn X Z.isO
  have T5 : (⟨h, g, d, t, os⟩ : Shared).TypeIs (.builtin "object.__class__") "getset_descriptor" := F.typeOf_object_class
  refine codeAny_call_builtin F.slot_gs_get.plain F.entry_gs_get (F.slot_gs_get.check _ _ _ _ _ _ _ _ T5 (F.args_gs_get _ _ _) ?_)
  repeat (any_goals (first | assumption | (with_reducible refine wpAny_loadPart_at hx ?_; rw [hc]) | (with_reducible refine wpAny_bind (PySem.W.Looks.at L1 ?_)) | (with_reducible refine PySem.W.Looks.at L1 ?_) | wp_step))
  refine ⟨Code.quiet_builtin _ (by decide +kernel), codeAny_builtin F.entry_object_class ?_⟩
  repeat (any_goals (first | assumption | (with_reducible refine wpAny_loadPart_at hx ?_; rw [hc]) | wp_step))
theorem xcls_entry {tk : Tok} {Q : Fin → Shared → Prop} (X : K.In h) (Z : ExCls K C) (hx : h.get? a = some o) (hc : o.cls = .ref C) (hq : Q (.done (.ret (.ref C))) ⟨h, g, d, t, os⟩) :
    wpAny (model prog w) A (Builtin.«object.__getattribute__» ⟨[.ref a, .str "__class__" tk], []⟩) Q E ⟨h, g, d, t, os⟩ := by
  have T5 : (⟨h, g, d, t, os⟩ : Shared).TypeIs (.builtin "object.__class__") "getset_descriptor" := F.typeOf_object_class
  have g5 := F.typeOf_object_class
  have g6 := F.slot_gs_get.lookup
  have g7 := F.slot_gs_set.lookup
  have L4 := PySem.W.looks_findIn (M := model prog w) X Z.cl
  repeat (any_goals (first | assumption | (with_reducible refine wpAny_loadPart_at hx ?_; rw [hc]) | (with_reducible refine wpAny_bind (PySem.W.Looks.at L4 ?_)) | (with_reducible refine PySem.W.Looks.at L4 ?_) | wp_step))
  refine xcls_get X Z hx hc ?_
  repeat (any_goals (first | assumption | wp_step))
theorem xcls_check {M : Model} {nameV : Value} {Q : Unit → Shared → Prop} (X : K.In h) (Z : ExCls K C) (hx : h.get? a = some o) (hc : o.cls = .ref C) (hq : Q () ⟨h, g, d, t, os⟩) :
    wpAny M A (checkBuiltinCall "BaseException.__getattribute__" ⟨[.ref a, nameV], []⟩) Q E ⟨h, g, d, t, os⟩ := by
  have e1 : builtinKind "BaseException.__getattribute__" = some .slot := by decide +kernel
  have e2 : splitId "BaseException.__getattribute__" = some ("BaseException", "__getattribute__") := by decide +kernel
  have L1 := PySem.W.looks_subIn (M := M) X Z.isB
  have e3 := F.args_bexc_ga (.ref a) nameV
  simp only [checkBuiltinCall, e1, e2]
  refine wpAny_bind ?_
  unfold isInstance
  repeat (first | (with_reducible refine wpAny_loadPart_at hx ?_; rw [hc]) | (with_reducible refine wpAny_bind (PySem.W.Looks.at L1 ?_)) | (with_reducible refine PySem.W.Looks.at L1 ?_) | wp_step)
  exact hq
theorem xcls_call {tk : Tok} {R : Result → Shared → Prop} (X : K.In h) (Z : ExCls K C) (hx : h.get? a = some o) (hc : o.cls = .ref C) (hq : R (.ok (.ret (.ref C))) ⟨h, g, d, t, os⟩) :
    codeAny (model prog w) A (.call (.builtin "BaseException.__getattribute__") ⟨[.ref a, .str "__class__" tk], []⟩) R ⟨h, g, d, t, os⟩ :=
  codeAny_call_builtin F.excAttr_ValueError.ga.plain F.entry_bexc_ga (xcls_check X Z hx hc (xcls_entry X Z hx hc hq))
theorem xcls_by {tk : Tok} {fill expr : Bool} {Q : Value → Shared → Prop} (X : K.In h) (Z : ExCls K C) (hx : h.get? a = some o) (hc : o.cls = .ref C) (hq : Q (.ref C) ⟨h, g, d, t, os⟩) :
    wpAny (model prog w) A (getAttrBy (.ref a) (.str "__class__" tk) fill expr) Q E ⟨h, g, d, t, os⟩ := by
  have f3 := F.excAttr_ValueError.ga.bind (.ref a)
  have y0 : (expr && onTheHeap (Value.builtin "BaseException.__getattribute__")) = false := by cases expr <;> rfl
  have y2 : (Value.builtin "BaseException.__getattribute__" == Value.builtin "object.__getattribute__") = false := by decide +kernel
  have y1 : (onTheHeap (Value.ref C) && Value.builtin "BaseException.__getattribute__" == Value.builtin "object.__getattribute__") = false := by rw [y2]; rfl
  have L2 := PySem.W.looks_findIn (M := model prog w) X Z.ga
  have L3 := PySem.W.looks_findIn (M := model prog w) X Z.gt
  repeat (any_goals (first | assumption | (with_reducible refine wpAny_loadPart_at hx ?_; rw [hc]) | (with_reducible refine PySem.W.Looks.at L2 ?_) | (with_reducible refine PySem.W.Looks.at L3 ?_) | (with_reducible refine wpAny_bind (PySem.W.Looks.at L2 ?_)) | (with_reducible refine wpAny_bind (PySem.W.Looks.at L3 ?_)) | wp_step))
  refine xcls_call X Z hx hc ?_
  repeat (any_goals (first | assumption | wp_step))
theorem xcls_attr {Q : Option Value → Shared → Prop} (X : K.In h) (Z : ExCls K C) (hx : h.get? a = some o) (hc : o.cls = .ref C) (hq : Q (some (.ref C)) ⟨h, g, d, t + 1, os⟩) :
    wpAny (model prog w) A (getAttr? (.ref a) "__class__") Q E ⟨h, g, d, t, os⟩ := by
  unfold getAttr? getAttrBy?
  repeat (any_goals (first | assumption | with_reducible apply xcls_by X Z hx hc | wp_step))
end
theorem kitx_exc {K : PySem.W.Frag} {a C : Addr} (Z : ExCls K C) : PySem.W.KitX K (.ref a) (.ref C) (fun h => ∃ o, h.get? a = some o ∧ o.cls = .ref C) where
  ty := fun M h _ p => let ⟨_, hx, hc⟩ := p; xcls_ty M hx hc
  it := fun M h X _ => by
    have z := Z.isC
    unfold PySem.W.clsIn at z
    split at z
    · rename_i ho
      intro A' Q' E' s' k q
      unfold isType loadHead
      exact wpAny_bind (wpAny_loadPart (k _ _ (X _ _ ho)) (wpAny_pure q))
    · cases z
  ne := fun h tp dd its n sl X htp => by
    have z := Z.isC
    refine Bool.eq_false_iff.mpr fun q => ?_
    have e : C = tp := Value.ref.inj (beq_iff_eq.mp q)
    subst e
    unfold PySem.W.clsIn at z
    split at z
    · rename_i ho
      have z := (X _ _ ho).symm.trans htp
      cases z
    · cases z
  ca := fun {_ _ _ _ _ s} X p k => by
    obtain ⟨h, g, d, t, os⟩ := s
    obtain ⟨_, hx, hc⟩ := p
    exact xcls_attr X Z hx hc k
end L2
namespace L2
open PySem PySem.Spec PyProof.Rows
variable {G : PySem.W.Frag}
noncomputable def tyD : PyData → String
  | .none => "NoneType"
  | .bool _ => "bool"
  | .int _ => "int"
  | .str _ => "str"
  | .list _ => "list"
  | .tuple _ => "tuple"
  | .dict _ => "dict"
theorem kitT {K : PySem.W.Frag} {T : String} {d : PyData} (h : T = "int" ∨ T = "bool" ∨ T = "str" ∨ T = "list" ∨ T = "tuple") (hd : ∀ kvs, d ≠ .dict kvs) : PySem.W.kitOne K (.type (tyD d)) (.type T) = some (isTy T d) := by
  rcases h with rfl | rfl | rfl | rfl | rfl <;> cases d <;> first | rfl | (exact absurd rfl (hd _)) | (unfold PySem.W.kitOne PySem.W.kitCls; rfl) | (simp only [tyD, isTy]; decide +kernel)
noncomputable def rIsiD (G : PySem.W.Frag) : List V → Hp → VK → Prop := fun xs H Q => ∃ (x : V) (T : String) (L : Addr → Prop) (d : PyData), xs = [x, .ty T] ∧ Da G H L x d ∧ isFnD d = false ∧ (T = "int" ∨ T = "bool" ∨ T = "str" ∨ T = "list" ∨ T = "tuple") ∧ Q (.bl (isTy T d)) H
theorem call_isiD {X : Cx} (hK : X.K = G) : CallR X (.builtin "isinstance") (rIsiD G) := by
  subst hK
  intro pins s σ H xs us Q I r h
  obtain ⟨x, T, L, d, rfl, q, hf, hT, h⟩ := h
  obtain ⟨u, w', rfl, r1, r2⟩ := vals2 r
  cases (show w' = Value.type T from r2)
  have fin : ∀ tk : Nat, EP X pins σ Q (.bool (isTy T d)) { s with toks := tk } := fun tk => ⟨.bl _, H, I.tok tk, rfl, h⟩
  cases q with
  | non => exact isinst_ok I r1 .non (kitT (d := .none) hT fun _ z => by cases z) fin
  | bl b => exact isinst_ok I r1 (.bl b) (kitT (d := .bool b) hT fun _ z => by cases z) fin
  | int b => exact isinst_ok I r1 (.int b) (kitT (d := .int b) hT fun _ z => by cases z) fin
  | str b => exact isinst_ok I r1 (.str b) (kitT (d := .str b) hT fun _ z => by cases z) fin
  | lst l e qs =>
    rename_i ds
    rcases e with e | ⟨o, e⟩
    · exact isinst_ok I r1 (.lst e) (kitT (d := .list ds) hT fun _ z => by cases z) fin
    · exact isinst_ok I r1 (.frz e) (kitT (d := .list ds) hT fun _ z => by cases z) fin
  | tup e qs =>
    rename_i ds
    exact isinst_ok I r1 (.tup e) (kitT (d := .tuple ds) hT fun _ z => by cases z) fin
  | scr ks =>
    rename_i a ns
    cases (show u = Value.ref a from r1)
    obtain ⟨its, vs, ⟨o, n, ho, hc, hd, hs⟩, _⟩ := I.list (ks.sq (H := H))
    exact PySem.W.kia_one PySem.W.kitx_list I.kIn ⟨o, ho, hc⟩ (kitT (d := .list (ns.map PyData.int)) hT fun _ z => by cases z) (fun z => nomatch z) fin
  | exc Z hn e =>
    rename_i a C x
    cases (show u = Value.ref a from r1)
    obtain ⟨⟨o, vs, ho, hc, _⟩, _, _⟩ := (show ObjOk X.prog X.w H s.heap a (.ext (ExO C a)) from I.hok a _ e)
    refine PySem.W.kia_one (kitx_exc Z) I.kIn ⟨o, ho, hc⟩ (b := isTy T (exD x)) ?_ (fun z => nomatch z) fin
    rcases hT with rfl | rfl | rfl | rfl | rfl
    · exact Z.k1
    · exact Z.k2
    · exact Z.k3
    · exact Z.k4
    · exact Z.k5
  | fn _ => cases hf
  | dic _ _ _ _ => unfold dcD isFnD at hf; cases hf
section
variable {X : Cx} {io : List Nat} {p c p' c' : Bool} {a b e : Expr} {ma m : MEt} {pos pp p2 : Pos} {K : PySem.W.Frag}
theorem m_isi {T : Str} {T' : String} (hT : T' = "int" ∨ T' = "bool" ∨ T' = "str" ∨ T' = "list" ∨ T' = "tuple") (hg : Gl X "isinstance") (hm : X.mg "isinstance" = none) (hv : bootBuiltins "isinstance" = some (.builtin "isinstance"))
    (hg2 : Gl X T) (hm2 : X.mg T = none) (hv2 : bootBuiltins T = some (.type T')) (ha : ME X io p c a ma) (hn : T ≠ "__name__" := by decide) (hd : (T == ("__debug__" : Str)) = false := by decide)
    (he : starEach [a, .Name T p2] X.env = (false, eval a X.env) :: starEach [.Name T p2] X.env := by rfl) (he2 : starEach [.Name T p2] X.env = (false, eval (.Name T p2) X.env) :: starEach [] X.env := by rfl) (hpl : (backTo pos (starEach [.Name T p2] X.env)).any (·.1) = false := by rfl) :
    ME X io p true (.Call (.Name "isinstance" pp) [a, .Name T p2] [] pos) (mIsi T' ma) := by
  obtain ⟨_, A, s⟩ := ha
  refine ⟨_, pe_callB (call_isiD rfl) hg hm hv (pa_cons A (pa_cons (pe_bltn (v := .ty T') hg2 hm2 hv2 rfl hn hd) pa_nil he2) he) (by decide) (by decide) he hpl, ?_⟩
  intro C H σ δ fp ex K' Q R h k
  refine s C H σ δ fp ex _ _ R h fun H' v r δ' fp' new r1 h1 => ?_
  exact ⟨v, T', _, _, rfl, r1.da R, h1.1, hT, k H' _ _ δ' fp' [] (.fz r1.base r1.stp (.bl _)) h1.2⟩
noncomputable abbrev MOt := DEnv → (Option Int → DEnv → Prop) → Prop
noncomputable def MO (X : Cx) (io : List Nat) (p : Bool) (e : Option Expr) (m : MOt) : Prop := ∃ t, PO X e t ∧ ∀ (C : MC X.K) (H : Hp) (σ : St) (δ : DEnv) (fp : Fp) (ex : Addr → Prop) (K : Option Int → DEnv → Prop) (Q : Option Int → Hp → Prop), Rel C io H σ δ fp ex → m δ K →
  (∀ H' b δ' fp', Rel C io H' σ δ' fp' ex → Stp p H δ fp H' δ' fp' → K b δ' → Q b H') → t σ H Q
noncomputable def mPart (m : MEt) : MOt := fun δ K => m δ fun r δ' => asI r.data fun i => K (some i) δ'
theorem mo_some (h : ME X io p c e m) : MO X io p (some e) (mPart m) := by
  obtain ⟨_, A, s⟩ := h
  exact ⟨_, po_some A, fun C H σ δ fp ex K Q R h k => s C H σ δ fp ex _ _ R h fun H' v r δ' fp' new r1 h1 => by
    obtain ⟨i, rfl, h1⟩ := (r1.da R).intInv h1
    exact ⟨i, rfl, k H' _ δ' fp' r1.base r1.stp h1⟩⟩
noncomputable def cutD (ds : List PyData) (lo hi : Option Int) : List PyData := (ds.drop (HT.sIx ds.length 0 lo)).take (HT.sIx ds.length ds.length hi - HT.sIx ds.length 0 lo)
theorem Das.cut {H : Hp} {L : Addr → Prop} {xs : List V} {ds : List PyData} (h : Das G H L xs ds) (lo hi : Option Int) : Das G H L (cutV xs lo hi) (cutD ds lo hi) := by
  unfold cutV cutD
  rw [h.length]
  exact (h.drop _).take _
noncomputable def mSl (m : MEt) (ml mh : MOt) : MEt := fun δ K => m δ fun r δ1 => ml δ1 fun lo δ2 => mh δ2 fun hi δ3 => asL r.data fun ds => K (.nd ((cutD ds lo hi).map OT.fz)) δ3
theorem m_slL {lo hi : Option Expr} {ml mh : MOt} (ha : ME X io true c a ma) (hl : MO X io true lo ml) (hh : MO X io true hi mh) : ME X io true c (.Subscript a (.Slice lo hi none p2) pos) (mSl ma ml mh) := by
  obtain ⟨_, A, s⟩ := ha
  obtain ⟨_, B, sl⟩ := hl
  obtain ⟨_, D, sh⟩ := hh
  refine ⟨_, pe_slice (sl_listK rfl) A B D, ?_⟩
  intro C H σ δ fp ex K' Q R h k
  refine s C H σ δ fp ex _ _ R h fun H1 v r δ1 fp1 new r1 h1 => ?_
  refine sl C H1 σ δ1 fp1 ex _ _ r1.base h1 fun H2 l δ2 fp2 R2 S2 h2 => ?_
  refine sh C H2 σ δ2 fp2 ex _ _ R2 h2 fun H3 u δ3 fp3 R3 S3 h3 => ?_
  have s2 : Same H1 H2 := fun b o e => S2.keep b o e (.inl rfl)
  have s3 : Same H2 H3 := fun b o e => S3.keep b o e (.inl rfl)
  obtain ⟨e1, e2⟩ := r1.stp.env rfl
  obtain ⟨e3, e4⟩ := S2.env rfl
  obtain ⟨e5, e6⟩ := S3.env rfl
  have q := ((r1.da R).same s2).same s3
  obtain ⟨a', xs, ds, rfl, e, qs, h3⟩ := q.lstInv h3
  refine ⟨a', xs, rfl, e, fun p hp => ?_⟩
  have S := (r1.stp.trans S2).trans S3
  refine k _ _ _ δ3 fp3 [p] (RE.tree R R3 S (same_new hp _) (one_new hp) (one_nd p) (Own.list hp ((qs.cut l u).wide fun a l _ => ?_))) h3
  rw [e6, e4]
  exact l
theorem Owns.set {H : Hp} {L : Addr → Prop} {x : V} {r : OT} (hr : Own G H L x r []) : ∀ {xs : List V} {ts : List OT} {as : List Addr} (j : Nat), Owns G H L xs ts as → ∃ bs, Owns G H L (xs.set j x) (ts.set j r) bs ∧ bs.Sublist as
  | _, _, _, _, .nil => ⟨[], .nil, .refl _⟩
  | _, _, _, 0, .cons k t => ⟨_, .cons hr t, by simp⟩
  | _, _, _, j + 1, .cons (as := as) k t => by
    obtain ⟨bs, o, s⟩ := Owns.set hr j t
    exact ⟨as ++ bs, .cons k o, List.Sublist.append_left s as⟩
theorem Owns.get {H : Hp} {L : Addr → Prop} : ∀ {xs : List V} {ts : List OT} {as : List Addr} {j : Nat} {t : OT}, Owns G H L xs ts as → ts[j]? = Option.some t → ∃ x bs, xs[j]? = Option.some x ∧ Own G H L x t bs ∧ bs.Sublist as
  | _, _, _, _, _, .nil, e => by simp at e
  | _, _, _, 0, _, .cons k _, e => by simp at e; subst e; exact ⟨_, _, rfl, k, List.sublist_append_left _ _⟩
  | _, _, _, j + 1, t, .cons _ r, e => by
    obtain ⟨x, bs, h1, h2, h3⟩ := Owns.get (j := j) (t := t) r (by simpa using e)
    exact ⟨x, bs, by simpa using h1, h2, h3.trans (List.sublist_append_right _ _)⟩
theorem Rel.top {C : MC G} {H : Hp} {σ : St} {δ : DEnv} {fp : Fp} {ex : Addr → Prop} {i : Nat} {ts ts' : List OT} {a' : Addr} {xs ys : List V} {bs bs' : List Addr} (R : Rel C io H σ δ fp ex) (hi : δ[i]? = some (some (.nd ts))) (hv : σ[i]? = some (some (.ref a')))
    (hf : fp i = a' :: bs) (hx : H a' = some (.lst xs)) (o : Owns G H (Lf C fp ex) ys ts' bs') (hs : bs'.Sublist bs) :
    Rel C io (upd H a' (.lst ys)) σ (δ.set i (some (.nd ts'))) (fpu fp i (a' :: bs')) ex ∧ Stp false H δ fp (upd H a' (.lst ys)) (δ.set i (some (.nd ts'))) (fpu fp i (a' :: bs')) := by
  have nd := R.nd i
  rw [hf] at nd
  have hn := List.nodup_cons.mp nd
  have hm : a' ∈ fp i := by rw [hf]; exact .head _
  have ne' : ∀ a, ¬ Foot fp a → a ≠ a' := fun a h z => h ⟨i, by rw [z]; exact hm⟩
  have kp : ∀ b o, H b = some o → b ≠ a' → upd H a' (.lst ys) b = some o := fun b o e n => by rw [upd_ne n]; exact e
  have sub : ∀ a, a ∈ a' :: bs' → a ∈ fp i := fun a m => by
    rw [hf]
    rcases List.mem_cons.mp m with rfl | m
    · exact .head _
    · exact .tail _ (hs.subset m)
  have o' : Owns G (upd H a' (.lst ys)) (Lf C (fpu fp i (a' :: bs')) (exu ex [])) ys ts' bs' := by
    have f0 : ∀ a, ¬ Foot fp a → ¬ Foot (fpu fp i (a' :: bs')) a := fun a h z => by
      rcases z.of_u with z | ⟨j, _, z⟩
      · exact h ⟨i, sub a z⟩
      · exact h ⟨j, z⟩
    have f1 : ∀ a (zs : MuO), Lf C fp ex a → Rd H a zs.ho → Lf C (fpu fp i (a' :: bs')) (exu ex []) a ∧ Rd (upd H a' (.lst ys)) a zs.ho := fun a zs l q => by
      refine ⟨⟨f0 a l.1, fun z => l.2.1 (exu_nil.mp z), l.2.2⟩, ?_⟩
      rcases q with q | ⟨u, q⟩
      · exact .inl (kp a _ q (ne' a l.1))
      · exact .inr ⟨u, kp a _ q (ne' a l.1)⟩
    have f2 : ∀ a (zs : ImO), H a = some zs.ho → upd H a' (.lst ys) a = some zs.ho := fun a zs q => kp a _ q fun z => ImO.nl q (z ▸ hx)
    exact o.frame f1 f2 fun a m zs q => kp a _ q fun z => hn.1 (hs.subset (z ▸ m))
  have key := R.change (new := []) (as' := a' :: bs') (t' := .nd ts') (H' := upd H a' (.lst ys)) hi hv (fun b o e nb => kp b o e fun z => nb (by rw [z]; exact hm)) (fun b e => by
      by_cases q : b = a'
      · subst q; rw [upd_same] at e; cases e
      · rwa [upd_ne q] at e) (.nd upd_same o') (List.nodup_cons.mpr ⟨fun m => hn.1 (hs.subset m), hn.2.sublist hs⟩) (fun a m => .inl (sub a m)) (fun a m => nomatch m)
  exact ⟨key.1.drop fun a z => .inl z, key.2⟩
end
end L2
namespace L2
open PySem PySem.Spec PyProof.Rows
variable {G : PySem.W.Frag}
section
variable {X : Cx} {io : List Nat} {p c p' c' : Bool} {a b e : Expr} {ma m mi mj : MEt} {pos pp p2 apos cpos px : Pos} {K : PySem.W.Frag} {i : Nat} {x : Str}
theorem Rel.ownNd {C : MC G} {H : Hp} {σ : St} {δ : DEnv} {fp : Fp} {ex : Addr → Prop} {ts : List OT} (R : Rel C io H σ δ fp ex) (hi : δ[i]? = some (some (.nd ts))) :
    ∃ a' xs bs, σ[i]? = some (some (.ref a')) ∧ H a' = some (.lst xs) ∧ Owns G H (Lf C fp ex) xs ts bs ∧ fp i = a' :: bs := by
  obtain ⟨v, e, o⟩ := R.own i _ hi
  generalize hf : fp i = as at o
  cases o with
  | nd h r => exact ⟨_, _, _, e, h, r, rfl⟩
noncomputable def mAppend (i : Nat) (m : MEt) : MSt := fun D δ => match δ[i]? with
  | some (some (.nd _)) => m δ fun r δ1 => match δ1[i]? with
    | some (some (.nd ts)) => ts.length < sizeLine ∧ D.nx (δ1.set i (some (.nd (ts ++ [.fz r.data]))))
    | _ => False
  | _ => False
theorem ms_append (i : Nat) (he : ME X io p true e m) (hN : X.N[i]? = some x := by rfl) (hv : Vis X.env.scope x := by first | exact Or.inl rfl | exact Or.inr (Or.inl rfl) | exact Or.inr (Or.inr rfl)) (hd : (x == ("__debug__" : Str)) = false := by decide)
    (hcd : (x == ("__classdict__" : Str)) = false := by decide)
    (hbase : attributeBase (.Name x px) "append" X.env (eval (.Name x px) X.env) = eval (.Name x px) X.env := by rfl)
    (hfew : ((backTo cpos (starEach [e] X.env)).all (fun x => !x.1) && (backToKw cpos (keywordEach [] X.env)).all (fun x => x.1.isSome)
      && decide ([e].length + ([] : List Keyword).length + (if ([] : List Keyword).isEmpty then 0 else 1) < 30)) = true := by rfl)
    (hline : (apos.endLine == cpos.line) = true := by rfl) (hs : starEach [e] X.env = (false, eval e X.env) :: starEach [] X.env := by rfl) (hplain : (backTo cpos (starEach [] X.env)).any (·.1) = false := by rfl)
    (hsw : swapsWith (.Call (.Attribute (.Name x px) "append" apos) [e] [] cpos) none pos.line X.env = pure false := by rfl) :
    MS X io (.Expr (.Call (.Attribute (.Name x px) "append" apos) [e] [] cpos) pos) (mAppend i m) := by
  obtain ⟨_, A, s⟩ := he
  refine ⟨_, ps_expr (pe_bm PySem.F.plainAttrs_list PySem.F.slot_list_append PySem.F.type_list_append mt_append (pv i hN hv hd hcd) (pa_cons A pa_nil hs) hbase hfew hline hs hplain) hsw, fun C H σ δ fp ex D D' R h E => ?_⟩
  unfold mAppend at h
  split at h
  case h_2 => exact h.elim
  rename_i ts0 hi0
  obtain ⟨a', xs0, bs0, hv0, hx0, _, _⟩ := R.ownNd hi0
  refine ⟨_, hv0, .inl ⟨rfl, xs0, .inl (.inl hx0)⟩, ?_⟩
  refine s C H σ δ fp ex _ _ R h fun H1 v r δ1 fp1 new r1 h1 => ?_
  split at h1
  case h_2 => exact h1.elim
  rename_i ts1 hi1
  have R1 := r1.base
  obtain ⟨a1, xs1, bs1, hv1, hx1, o1, hf1⟩ := R1.ownNd hi1
  rw [hv0] at hv1
  cases hv1
  have q := (r1.da R).wide (L' := Lf C fp1 ex) fun a l _ => l rfl
  refine ⟨a', xs1, v, rfl, rfl, hx1, by rw [o1.length]; exact h1.1, ?_⟩
  have o2 := o1.snoc (.fz q)
  obtain ⟨R2, S2⟩ := R1.top hi1 hv0 hf1 hx1 o2 (by simp)
  exact E.nx _ σ _ _ R2 (r1.stp.kp.trans S2.kp) h1.2
noncomputable def mPut (i : Nat) (m mi : MEt) : MSt := fun D δ => m δ fun r δ1 => match δ1[i]? with
  | some (some (.nd ts)) => mi δ1 fun n _ => asI n.data fun k => match ixN ts.length k with
    | some j => D.nx (δ1.set i (some (.nd (ts.set j (.fz r.data)))))
    | none => False
  | _ => False
noncomputable def mPut2 (i : Nat) (m mi mj : MEt) : MSt := fun D δ => m δ fun r δ1 => match δ1[i]? with
  | some (some (.nd ts)) => mi δ1 fun n _ => asI n.data fun k => match ixN ts.length k with
    | some j => match ts[j]? with
      | some (.nd us) => mj δ1 fun n' _ => asI n'.data fun k' => match ixN us.length k' with
        | some j' => D.nx (δ1.set i (some (.nd (ts.set j (.nd (us.set j' (.fz r.data)))))))
        | none => False
      | _ => False
    | none => False
  | _ => False
theorem SE.pureAfter {t : TE} {C : MC G} {H : Hp} {σ : St} {δ : DEnv} {fp : Fp} {ex : Addr → Prop} {K' : OT → DEnv → Prop} {Q : VK} (s : SE G io true c t m) (R : Rel C io H σ δ fp ex) (h : m δ K') (k : ∀ H' v r, Rel C io H' σ δ fp ex → Same H H' → Da G H' (fun a => c = true → Lf C fp ex a) v r.data → K' r δ → Q v H') : t σ H Q :=
  s C H σ δ fp ex _ _ R h fun H1 v r δ1 fp1 new r1 h1 => by
    obtain ⟨e1, e2⟩ := r1.stp.env rfl
    have q := r1.da R
    have R1 := r1.base
    rw [e1] at R1 h1
    rw [e2] at R1 q
    exact k H1 v r R1 (fun b o e => r1.stp.keep b o e (.inl rfl)) q h1
theorem ms_put (i : Nat) (he : ME X io p true e m) (hj : ME X io true c a mi) (hN : X.N[i]? = some x := by rfl) (hv : Vis X.env.scope x := by first | exact Or.inl rfl | exact Or.inr (Or.inl rfl) | exact Or.inr (Or.inr rfl)) (hd : (x == ("__debug__" : Str)) = false := by decide)
    (hcd : (x == ("__classdict__" : Str)) = false := by decide)
    (hpg : ∀ {to ti : TE}, PE X (.Name x px) to → PE X a ti → PG X (.Subscript (.Name x px) a pp) (gSub to ti rSetL) := by intro _ _ A B; exact pg_sub A B set_list)
    (hs : swapsWithSole [.Subscript (.Name x px) a pp] e pos.line X.env = pure false := by rfl) (hw : swappedStores [.Subscript (.Name x px) a pp] e X.env = pure none := by rfl)
    (h1 : (assignEach [.Subscript (.Name x px) a pp] X.env).map (·.2) = [assign (.Subscript (.Name x px) a pp) X.env] := by rfl) : MS X io (.Assign [.Subscript (.Name x px) a pp] e pos) (mPut i m mi) := by
  obtain ⟨_, A, s⟩ := he
  obtain ⟨_, B, sj⟩ := hj
  refine ⟨_, ps_asg A (hpg (pv i hN hv hd hcd) B) hs hw h1, fun C H σ δ fp ex D D' R h E => ?_⟩
  refine s C H σ δ fp ex _ _ R h fun H1 v r δ1 fp1 new r1 h1 => ?_
  have R1 := r1.base
  have q := (r1.da R).wide (L' := Lf C fp1 ex) fun a l _ => l rfl
  split at h1
  case h_2 => exact h1.elim
  rename_i ts hi
  obtain ⟨a', _, _, hv0, _⟩ := R1.ownNd hi
  refine ⟨_, hv0, ?_⟩
  refine sj.pureAfter R1 h1 fun H2 w n R2 s2 q2 h2 => ?_
  obtain ⟨k, rfl, h2⟩ := q2.intInv h2
  split at h2
  case h_2 => exact h2.elim
  rename_i j hj
  obtain ⟨a2, xs, bs, hv2, hx, o, hf⟩ := R2.ownNd hi
  rw [hv0] at hv2
  cases hv2
  obtain ⟨bs', o', hs'⟩ := Owns.set (.fz (q.same s2)) j o
  refine ⟨a', xs, k, j, rfl, rfl, hx, by rw [o.length]; exact hj, ?_⟩
  obtain ⟨R3, S3⟩ := R2.top hi hv0 hf hx o' hs'
  exact E.nx _ σ _ _ R3 (r1.stp.kp.trans (Kp.trans ⟨fun b o e _ => s2 _ _ e, fun z => (nomatch z), fun a z => .inl z, s2.al⟩ S3.kp)) h2
theorem Owns.deep {H : Hp} {L : Addr → Prop} {b' : Addr} {ws ws' : List V} {us us' : List OT} (hb : H b' = Option.some (HO.lst ws)) (hL : ¬ L b') (hc : ∀ cs, Owns G H L ws us cs → ∃ cs', Owns G H L ws' us' cs' ∧ cs'.Sublist cs) :
    ∀ {xs : List V} {ts : List OT} {as : List Addr} {j : Nat}, Owns G H L xs ts as → as.Nodup → xs[j]? = Option.some (.ref b') → ts[j]? = Option.some (.nd us) → ∃ as', Owns G (upd H b' (.lst ws')) L xs (ts.set j (.nd us')) as' ∧ as'.Sublist as ∧ b' ∈ as
  | _, _, _, _, .nil, _, e, _ => by simp at e
  | _, _, _, 0, .cons (as := as) (bs := bs) k t, nd, e, e' => by
    simp at e e'
    subst e e'
    have nd' := List.nodup_append.mp nd
    have kp : ∀ a o, a ≠ b' → H a = Option.some o → upd H b' (.lst ws') a = Option.some o := fun a o n q => by rw [upd_ne n]; exact q
    have f1 : ∀ a (zs : MuO), L a → Rd H a zs.ho → L a ∧ Rd (upd H b' (.lst ws')) a zs.ho := fun a zs l q => ⟨l, by
      have na : a ≠ b' := fun z => hL (z ▸ l)
      rcases q with q | ⟨u, q⟩
      · exact .inl (kp a _ na q)
      · exact .inr ⟨u, kp a _ na q⟩⟩
    have f2 : ∀ a (zs : ImO), H a = Option.some zs.ho → upd H b' (.lst ws') a = Option.some zs.ho := fun a zs q => kp a _ (fun z => ImO.nl q (z ▸ hb)) q
    cases k with
    | nd h r =>
      rename_i xs0 as0
      rw [hb] at h
      cases h
      have nd2 := List.nodup_cons.mp nd'.1
      obtain ⟨cs', o', s'⟩ := hc _ r
      refine ⟨b' :: cs' ++ bs, .cons (.nd upd_same (o'.frame f1 f2 fun a m zs q => kp a _ (fun z => nd2.1 (s'.subset (z ▸ m))) q)) (t.frame f1 f2 fun a m zs q => kp a _ (fun z => nd'.2.2 b' (.head _) a m z.symm) q), List.Sublist.append_right (List.Sublist.cons₂ _ s') bs, List.mem_append_left _ (.head _)⟩
  | _, _, _, j + 1, .cons (as := as) (bs := bs) k t, nd, e, e' => by
    have nd' := List.nodup_append.mp nd
    obtain ⟨as', o, s, m⟩ := Owns.deep hb hL hc (j := j) t nd'.2.1 (by simpa using e) (by simpa using e')
    have nb : b' ∉ as := fun z => nd'.2.2 b' z b' m rfl
    refine ⟨as ++ as', .cons ?_ o, List.Sublist.append_left s as, List.mem_append_right _ m⟩
    have kp : ∀ a o, a ≠ b' → H a = Option.some o → upd H b' (.lst ws') a = Option.some o := fun a o n q => by rw [upd_ne n]; exact q
    refine k.frame (fun a zs l q => ⟨l, ?_⟩) (fun a zs q => kp a _ (fun z => ImO.nl q (z ▸ hb)) q) fun a m' zs q => kp a _ (fun z => nb (z ▸ m')) q
    have na : a ≠ b' := fun z => hL (z ▸ l)
    rcases q with q | ⟨u, q⟩
    · exact .inl (kp a _ na q)
    · exact .inr ⟨u, kp a _ na q⟩
theorem ms_put2 (i : Nat) (he : ME X io p true e m) (hj : ME X io true c a mi) (hk : ME X io true c' b mj) (hPa : PlainIx a) (hN : X.N[i]? = some x := by rfl) (hv : Vis X.env.scope x := by first | exact Or.inl rfl | exact Or.inr (Or.inl rfl) | exact Or.inr (Or.inr rfl)) (hd : (x == ("__debug__" : Str)) = false := by decide)
    (hcd : (x == ("__classdict__" : Str)) = false := by decide)
    (hpg : ∀ {to ti : TE}, PE X (.Subscript (.Name x px) a pp) to → PE X b ti → PG X (.Subscript (.Subscript (.Name x px) a pp) b p2) (gSub to ti rSetL) := by intro _ _ A B; exact pg_sub A B set_list)
    (hs : swapsWithSole [.Subscript (.Subscript (.Name x px) a pp) b p2] e pos.line X.env = pure false := by rfl) (hw : swappedStores [.Subscript (.Subscript (.Name x px) a pp) b p2] e X.env = pure none := by rfl)
    (h1 : (assignEach [.Subscript (.Subscript (.Name x px) a pp) b p2] X.env).map (·.2) = [assign (.Subscript (.Subscript (.Name x px) a pp) b p2) X.env] := by rfl) :
    MS X io (.Assign [.Subscript (.Subscript (.Name x px) a pp) b p2] e pos) (mPut2 i m mi mj) := by
  obtain ⟨_, A, s⟩ := he
  obtain ⟨_, B, sj⟩ := hj
  obtain ⟨_, B2, sk⟩ := hk
  refine ⟨_, ps_asg A (hpg (pe_ix (ix_listK rfl) (pv i hN hv hd hcd) B hPa) B2) hs hw h1, fun C H σ δ fp ex D D' R h E => ?_⟩
  refine s C H σ δ fp ex _ _ R h fun H1 v r δ1 fp1 new r1 h1 => ?_
  have R1 := r1.base
  have q := (r1.da R).wide (L' := Lf C fp1 ex) fun a l _ => l rfl
  split at h1
  case h_2 => exact h1.elim
  rename_i ts hi
  obtain ⟨a', _, _, hv0, _⟩ := R1.ownNd hi
  refine ⟨_, hv0, ?_⟩
  refine sj.pureAfter R1 h1 fun H2 w n R2 s2 q2 h2 => ?_
  obtain ⟨k, rfl, h2⟩ := q2.intInv h2
  split at h2
  case h_2 => exact h2.elim
  rename_i j hj
  split at h2
  case h_2 => exact h2.elim
  rename_i us hus
  -- the row
  obtain ⟨a2, xs2, bs2, hv2, hx2, o2, hf2⟩ := R2.ownNd hi
  rw [hv0] at hv2
  cases hv2
  obtain ⟨xr, cr, hxr, orow, _⟩ := o2.get hus
  obtain ⟨b', rfl⟩ : ∃ b', xr = V.ref b' := by
    cases orow with
    | nd h r => exact ⟨_, rfl⟩
  refine ⟨a', xs2, k, V.ref b', rfl, rfl, .inl (.inl hx2), ?_, ?_⟩
  · unfold atI
    rw [o2.length, hj]
    exact hxr
  refine sk.pureAfter R2 h2 fun H3 w' n' R3 s3 q3 h3 => ?_
  obtain ⟨k', rfl, h3⟩ := q3.intInv h3
  split at h3
  case h_2 => exact h3.elim
  rename_i j' hj'
  obtain ⟨a3, xs3, bs3, hv3, hx3, o3, hf3⟩ := R3.ownNd hi
  rw [hv0] at hv3
  cases hv3
  have exs : xs3 = xs2 := by
    have := s3 _ _ hx2
    rw [hx3] at this
    cases this; rfl
  subst exs
  obtain ⟨xr3, cr3, hxr3, orow3, hsub3⟩ := o3.get hus
  rw [hxr] at hxr3
  cases hxr3
  have nd3 := R3.nd i
  rw [hf3] at nd3
  have hn3 := List.nodup_cons.mp nd3
  cases orow3 with
  | nd hb r3 =>
    rename_i ws3 bs4
    have hbm : b' ∈ bs3 := hsub3.subset (.head _)
    have hbf : b' ∈ fp1 i := by rw [hf3]; exact .tail _ hbm
    have hLb : ¬ Lf C fp1 ex b' := fun l => l.1 ⟨i, hbf⟩
    obtain ⟨as', oo, ss, _⟩ := Owns.deep (ws' := ws3.set j' v) (us' := us.set j' (.fz r.data)) hb hLb (fun cs hcs => Owns.set (.fz ((q.same s2).same s3)) j' hcs) o3 hn3.2 hxr hus
    refine ⟨b', ws3, k', j', rfl, rfl, hb, by rw [r3.length]; exact hj', ?_⟩
    have hba : a' ≠ b' := fun z => hn3.1 (z ▸ hbm)
    -- the change
    have sub : ∀ a, a ∈ a' :: as' → a ∈ fp1 i := fun a m => by
      rw [hf3]
      rcases List.mem_cons.mp m with rfl | m
      · exact .head _
      · exact .tail _ (ss.subset m)
    have kp : ∀ b o, H3 b = some o → b ≠ b' → upd H3 b' (.lst (ws3.set j' v)) b = some o := fun b o e n => by rw [upd_ne n]; exact e
    have lw : ∀ a, Lf C fp1 ex a → upd H3 b' (.lst (ws3.set j' v)) a ≠ none → Lf C (fpu fp1 i (a' :: as')) (exu ex []) a := fun a l _ => ⟨fun z => by
      rcases z.of_u with z | ⟨j, _, z⟩
      · exact l.1 ⟨i, sub a z⟩
      · exact l.1 ⟨j, z⟩, fun z => l.2.1 (exu_nil.mp z), l.2.2⟩
    obtain ⟨R4, S4⟩ := R3.change (new := []) (as' := a' :: as') (t' := .nd (ts.set j (.nd (us.set j' (.fz r.data))))) (H' := upd H3 b' (.lst (ws3.set j' v))) hi hv0 (fun b o e nb => kp b o e fun z => nb (by rw [z]; exact hbf)) (fun b e => by
        by_cases q : b = b'
        · subst q; rw [upd_same] at e; cases e
        · rwa [upd_ne q] at e) (.nd (by rw [upd_ne hba]; exact hx3) (oo.wide lw)) (List.nodup_cons.mpr ⟨fun m => hn3.1 (ss.subset m), hn3.2.sublist ss⟩) (fun a m => .inl (sub a m)) (fun a m => nomatch m)
    have k23 : Kp H1 fp1 H3 fp1 := ⟨fun b o e _ => s3 _ _ (s2 _ _ e), fun z => (nomatch z), fun a z => .inl z, fun b e => s2.al b (s3.al b e)⟩
    exact E.nx _ σ _ _ (R4.drop fun a z => .inl z) (r1.stp.kp.trans (k23.trans S4.kp)) h3
end
end L2
namespace L2
open PySem PySem.Spec PyProof.Rows
variable {G : PySem.W.Frag}
mutual
noncomputable def flatT : OT → Bool
  | .fz d => flatD d
  | .nd ts => flatTs ts
  | .tp ts => flatTs ts
  | .dc _ _ _ => false
noncomputable def flatTs : List OT → Bool
  | [] => true
  | t :: ts => flatT t && flatTs ts
end
section
variable {X : Cx} {io : List Nat} {p c : Bool} {e : Expr} {m : MEt}
end
end L2
namespace L2
open PySem PySem.Spec PyProof.Rows
variable {G : PySem.W.Frag}
noncomputable def SLaw (ds : List PyData) (k : OT → Prop) : Prop := ∃ ns : List Int, ds = [.list (ns.map PyData.int)] ∧ ns.length ≤ 63 ∧ k (.fz (.bool true))
theorem law_sp {H : Hp} {a : Addr} {ns : List Int} {E : XK} (hl : ns.length ≤ 63) (h : SqL G H a (ns.map V.int)) : spD G SLaw [.ref a] H (fun v _ => v = .bl true) E := by
  refine ⟨fun _ => True, [.list (ns.map PyData.int)], fun r => r = .fz (.bool true), .cons ?_ .nil, ⟨ns, rfl, hl, rfl⟩, fun r v H' new kr s o _ _ => ?_⟩
  · rcases h with h | h
    · exact .lst trivial h (.ints ns)
    · exact .scr h
  · subst kr
    cases o with
    | fz q => cases q; rfl
section
variable {P : Program} {w : World} {mg : Str → Option Value} {base : Heap} {CX : CXT} {n : Nat} {f : Addr} {fd : FuncData} {ps : List Str}
end
end L2
namespace L2
open PySem PySem.Spec PyProof.Rows
@[simp] theorem datas_nil : OT.datas [] = [] := rfl
@[simp] theorem datas_cons (t : OT) (ts : List OT) : OT.datas (t :: ts) = t.data :: OT.datas ts := rfl
theorem atI_nn {α : Type} {xs : List α} {i : Int} (h0 : 0 ≤ i) : atI xs i = xs[i.toNat]? := by
  unfold atI ixN
  rw [if_pos h0]
  split
  · rfl
  · rename_i h
    symm
    exact List.getElem?_eq_none_iff.mpr (by omega)
theorem atI_of {α : Type} {xs : List α} {i : Nat} : atI xs (i : Int) = xs[i]? := by
  rw [atI_nn (by omega), Int.toNat_natCast]
@[simp] theorem atI_0 {α : Type} (x : α) (xs : List α) : atI (x :: xs) 0 = some x := by
  rw [atI_nn (by decide)]; rfl
@[simp] theorem atI_1 {α : Type} (x y : α) (xs : List α) : atI (x :: y :: xs) 1 = some y := by
  rw [atI_nn (by decide)]; rfl
@[simp] theorem atI_2 {α : Type} (x y z : α) (xs : List α) : atI (x :: y :: z :: xs) 2 = some z := by
  rw [atI_nn (by decide)]; rfl
@[simp] theorem ixD_list (ds : List PyData) (i : Int) : ixD (.list ds) (.int i) = atI ds i := rfl
@[simp] theorem ixD_tup (ds : List PyData) (i : Int) : ixD (.tuple ds) (.int i) = atI ds i := rfl
@[simp] theorem lenD_list (ds : List PyData) : lenD (.list ds) = some ds.length := rfl
@[simp] theorem lenD_tup (ds : List PyData) : lenD (.tuple ds) = some ds.length := rfl
noncomputable def rowD (r : List Rat) : PyData := .list (r.map frD)
noncomputable def tbD (T : List (List Rat)) : PyData := .list (T.map rowD)
noncomputable def rowT (r : List Rat) : OT := .nd (r.map fun q => .fz (frD q))
noncomputable def tbT (T : List (List Rat)) : OT := .nd (T.map rowT)
@[simp] theorem rowT_data (r : List Rat) : (rowT r).data = rowD r := by
  unfold rowT rowD
  rw [OT.data_nd, List.map_map]
  rfl
@[simp] theorem tbT_data (T : List (List Rat)) : (tbT T).data = tbD T := by
  unfold tbT tbD
  rw [OT.data_nd, List.map_map]
  exact congrArg PyData.list (List.map_congr_left fun r _ => rowT_data r)
noncomputable def dd (T : List (List Rat)) (i j : Nat) : Rat := (T.getD i []).getD j 0
@[simp] theorem lenD_tb (T : List (List Rat)) : lenD (tbD T) = some T.length := by unfold tbD lenD; simp
@[simp] theorem lenD_row (r : List Rat) : lenD (rowD r) = some r.length := by unfold rowD lenD; simp
@[simp] theorem flat_fr (q : Rat) : flatD (frD q) = true := by unfold frD fr; simp [flatD, flatDs]
end L2
namespace L2
open PySem PySem.Spec PyProof.Rows
end L2
namespace L2
open PySem PySem.Spec PyProof.Rows
end L2
namespace L2
open PySem PySem.Spec PyProof.Rows
end L2
namespace L2
open PySem PySem.Spec PyProof.Rows
end L2
namespace L2
open PySem PySem.Spec PyProof.Rows
end L2
namespace L2
open PySem PySem.Spec PyProof.Rows
theorem ixN_of {n a : Nat} (h : a < n) : ixN n (a : Int) = some a := by
  unfold ixN
  rw [if_pos (by omega), if_pos (by omega)]; simp
end L2
namespace L2
open PySem PySem.Spec PyProof.Rows
end L2
namespace L2
open PySem PySem.Spec PyProof.Rows
end L2
namespace L2
open PySem PySem.Spec PyProof.Rows
theorem eqv_self {d : PyData} (h : plainD d = true) : PyData.eqv d d = true := eqv_eq h h rfl
end L2
namespace L2
open PySem PySem.Spec PyProof.Rows
structure Sh (n : Nat) (d : PyData) : Prop where
  lay : PyData.canLay0 d = true
  dep : PyData.depth d ≤ n
theorem Sh.shp {n : Nat} {d : PyData} (h : Sh n d) (hn : n ≤ 64 := by decide) : ShpD d := ⟨by
  show (PyData.canLay0 d && decide (PyData.depth d ≤ 64)) = true
  rw [h.lay, decide_eq_true (Nat.le_trans h.dep hn)]; rfl⟩
theorem sh_all {n : Nat} : ∀ {ds : List PyData}, (∀ d ∈ ds, Sh n d) → PyData.canLayAll0 ds = true ∧ PyData.depthAll ds ≤ n
  | [], _ => ⟨by rw [PyData.canLayAll0], by rw [PyData.depthAll]; exact Nat.zero_le _⟩
  | d :: ds, h => by
    obtain ⟨h1, h2⟩ := sh_all fun e m => h e (.tail _ m)
    have h3 := h d (.head _)
    refine ⟨by rw [PyData.canLayAll0, h3.lay, h1]; rfl, ?_⟩
    rw [PyData.depthAll]
    exact Nat.max_le.mpr ⟨h3.dep, h2⟩
theorem sh_list {n : Nat} {ds : List PyData} (h : ∀ d ∈ ds, Sh n d) : Sh (n + 1) (.list ds) :=
  ⟨by rw [PyData.canLay0]; exact (sh_all h).1, by rw [PyData.depth]; exact Nat.succ_le_succ (sh_all h).2⟩
theorem sh_tup {n : Nat} {ds : List PyData} (h : ∀ d ∈ ds, Sh n d) : Sh (n + 1) (.tuple ds) :=
  ⟨by rw [PyData.canLay0]; exact (sh_all h).1, by rw [PyData.depth]; exact Nat.succ_le_succ (sh_all h).2⟩
theorem sh_int (i : Int) : Sh 0 (.int i) := ⟨rfl, Nat.le_of_eq rfl⟩
theorem sh_fr (q : Rat) : Sh 1 (frD q) := sh_tup fun d m => by
  simp at m
  rcases m with rfl | rfl <;> exact sh_int _
end L2
namespace L2
open PySem PySem.Spec PyProof.Rows
section
variable {X : Cx} {pins : List (Addr × Obj)} {σ : St} {H : Hp} {s : Shared}
theorem Inv.turnTup {h' : Heap} {ch : List Addr} {T : Addr} {xs : List V} {its : List Value} (I : Inv X pins σ H s) (f : ∀ b ∈ ch, FpOk X pins H b) (k : ∀ b o, b ∉ ch → s.heap.get? b = some o → h'.get? b = some o)
    (th : ∀ b ∈ ch, ∃ o, h'.get? b = some o) (hT : s.heap.objs.size ≤ T) (hz : xs.length ≤ sizeLine) (r : Vals xs its) (ht : IsTup h' T its.toArray) : Inv X pins σ (upd H T (.tup xs)) { s with heap := h' } := by
  have hn : H T = none := I.hok.fresh hT
  have nch : ∀ b u, H b = some u → b ∉ ch := fun b u e z => by rw [(f b z).1] at e; cases e
  have new : ObjOk X.prog X.w (upd H T (.tup xs)) h' T (.tup xs) := ⟨hz, its, r, ht⟩
  refine I.call (ch := ch) (g' := s.gens) (d' := s.drawn) (t' := s.toks) ⟨fun b o e _ _ hc => k b o hc e, fun b o e _ _ hc => ⟨o.slots, k b o hc e⟩, fun b o e n _ => ?_, fun b o e hc => ?_, fun b ys e => ?_, fun b o u e => ?_, fun b ps e => ?_⟩ (fun b u e => ?_) I.bare (fun b hb => ?_)
  · rw [upd_ne (fun z => by rw [z] at e; exact absurd (Heap.lt_size e) (Nat.not_lt.mpr hT))]; exact n
  · exact ⟨o, k b o hc e⟩
  · rw [upd_ne (ne_of_none e hn)]; exact e
  · rw [upd_ne (ne_of_none e hn)]; exact e
  · exact ⟨#[], by rw [upd_ne (ne_of_none e hn), e]; simp⟩
  · by_cases hb : b = T
    · subst hb; rw [upd_same] at e; cases e; exact new
    · rw [upd_ne hb] at e
      refine (I.hok b u e).stay (fun c v hc q => k c v ?_ q) (fun c q => by rw [upd_ne (ne_of_none q hn)]; exact q) fun c ys q => by rw [upd_ne (ne_of_none q hn)]; exact q
      rcases hc with rfl | hc
      · exact nch _ _ e
      · exact nch _ _ hc
  · obtain ⟨f0, f1, f2, f3, f4, f5⟩ := f b hb
    exact ⟨f3, f1, f4, f5⟩
theorem Inv.turnAll {h' : Heap} {ch : List Addr} (I : Inv X pins σ H s) (f : ∀ b ∈ ch, FpOk X pins H b) (k : ∀ b o, b ∉ ch → s.heap.get? b = some o → h'.get? b = some o) : Inv X pins σ H { s with heap := h' } := by
  have nch : ∀ b u, H b = some u → b ∉ ch := fun b u e z => by rw [(f b z).1] at e; cases e
  refine I.call (ch := ch) (g' := s.gens) (d' := s.drawn) (t' := s.toks) ⟨fun b o e _ _ hc => k b o hc e, fun b o e _ _ hc => ⟨o.slots, k b o hc e⟩, fun b o e n _ => n, fun b o e hc => ⟨o, k b o hc e⟩, fun b ys e => e, fun b o u e => e, fun b ps e => ⟨#[], by rw [e]; simp⟩⟩ (fun b u e => ?_) I.bare (fun b hb => ?_)
  · refine (I.hok b u e).stay (fun c v hc q => k c v ?_ q) (fun c q => q) fun c ys q => q
    rcases hc with rfl | hc
    · exact nch _ _ e
    · exact nch _ _ hc
  · obtain ⟨f0, f1, f2, f3, f4, f5⟩ := f b hb
    exact ⟨f3, f1, f4, f5⟩
end
end L2
namespace L2
open PySem PySem.Spec PyProof.Rows
variable {G : PySem.W.Frag}
section
variable {X : Cx} {io : List Nat} {p c : Bool} {e a b tg : Expr} {m : MEt} {mr : MAt}
theorem Rel.keptList {C : MC G} {H : Hp} {σ : St} {δ : DEnv} {fp : Fp} {ex : Addr → Prop} {v : V} {ds : List PyData} (R : Rel C io H σ δ fp ex) (q : Da G H (fun a => c = true → Lf C fp ex a) v (.list ds)) :
    ∃ a xs, v = .ref a ∧ ∀ H' : Hp, (∀ b o, H b = some o → (c = false ∨ ¬ Foot fp b) → H' b = some o) → SqL G H' a xs ∧ Das G H' (fun a => c = true → (Lf C fp ex a ∧ H a ≠ none)) xs ds := by
  generalize hd : PyData.list ds = d at q
  cases q with
  | lst l e r =>
    cases hd
    rename_i a0 xs0
    refine ⟨a0, xs0, rfl, fun H' kp => ?_⟩
    obtain ⟨f1, f2⟩ := R.kept kp
    exact ⟨.inl (f1 _ (.lst _) l e).2, r.frame f1 f2⟩
  | scr k =>
    rename_i a ns
    have := PyData.list.inj hd
    subst this
    exact ⟨a, _, rfl, fun H' _ => ⟨k.sq, .ints ns⟩⟩
  | _ => cases hd
noncomputable def zipD (as bs : List PyData) : List PyData := (as.zip bs).map fun x => .tuple [x.1, x.2]
theorem zipD_get {as bs : List PyData} {i : Nat} {d : PyData} (h : (zipD as bs)[i]? = some d) : ∃ x y, as[i]? = some x ∧ bs[i]? = some y ∧ d = .tuple [x, y] := by
  unfold zipD at h
  rw [List.getElem?_map] at h
  cases e : (as.zip bs)[i]? with
  | none => rw [e] at h; cases h
  | some z =>
    rw [e] at h
    cases h
    obtain ⟨h1, h2⟩ := List.getElem?_zip_eq_some.mp e
    exact ⟨z.1, z.2, h1, h2, rfl⟩
theorem zipD_none {as bs : List PyData} {i : Nat} (h : (zipD as bs)[i]? = none) : as.length ≤ i ∨ bs.length ≤ i := by
  unfold zipD at h
  have := List.getElem?_eq_none_iff.mp h
  simp at this
  omega
@[simp] theorem zipD_length (as bs : List PyData) : (zipD as bs).length = min as.length bs.length := by simp [zipD]
end
end L2
namespace L2
open PySem PySem.Spec PyProof.Rows
variable {G : PySem.W.Frag}
section
variable {X : Cx} {io : List Nat} {c1 c2 c3 : Bool} {a b e : Expr} {ma mb mc : MEt} {pos : Pos} {f g : Int → Int → Bool}
noncomputable def mChain (f g : Int → Int → Bool) (ma mb mc : MEt) : MEt := fun δ K => ma δ fun x δ1 => mb δ1 fun y δ2 => asI x.data fun i => asI y.data fun j => if f i j = true then mc δ2 fun z δ3 => asI z.data fun k => K (.fz (.bool (g j k))) δ3 else K (.fz (.bool false)) δ2
theorem sChain {ta tb tc : TE} (ha : SE G io true c1 ta ma) (hb : SE G io true c2 tb mb) (hc : SE G io true c3 tc mc) : SE G io true true (tChain (rI0 fun i j => .bl (f i j)) (rI0 fun i j => .bl (g i j)) ta tb tc) (mChain f g ma mb mc) := by
  intro C H σ δ fp ex K Q R h k
  refine ha.pureAfter R h fun H1 x u R1 s1 q1 h1 => ?_
  refine hb.pureAfter R1 h1 fun H2 y v R2 s2 q2 h2 => ?_
  obtain ⟨i, rfl, h2⟩ := q1.intInv h2
  obtain ⟨j, rfl, h2⟩ := q2.intInv h2
  refine ⟨i, j, rfl, rfl, f i j, rfl, ?_⟩
  by_cases hf : f i j = true
  · rw [if_pos hf] at h2 ⊢
    refine hc.pureAfter R2 h2 fun H3 z w R3 s3 q3 h3 => ?_
    obtain ⟨l, rfl, h3⟩ := q3.intInv h3
    have s13 : Same H H3 := (s1.trans s2).trans s3
    exact ⟨j, l, rfl, rfl, k H3 _ _ δ fp [] (.fz R3 (.same s13 s13.al) (.bl _)) h3⟩
  · rw [if_neg hf] at h2 ⊢
    have s12 : Same H H2 := s1.trans s2
    exact k H2 _ _ δ fp [] (.fz R2 (.same s12 s12.al) (.bl _)) h2
theorem m_chain {op op' : CmpOp} (ho : OpR X (compareOp op) (rI0 fun i j => .bl (f i j))) (ho' : OpR X (compareOp op') (rI0 fun i j => .bl (g i j))) (ha : ME X io true c1 a ma) (hb : ME X io true c2 b mb) (hc : ME X io true c3 e mc)
    (hm : lastMarks [op, op'] [b, e] = false := by with_unfolding_all rfl) : ME X io true true (.Compare a [op, op'] [b, e] pos) (mChain f g ma mb mc) := by
  obtain ⟨_, A, sa⟩ := ha
  obtain ⟨_, B, sb⟩ := hb
  obtain ⟨_, D, sc⟩ := hc
  exact ⟨_, pe_chain ho ho' A B D hm, sChain sa sb sc⟩
theorem mt_chain {op op' : CmpOp} (ho : OpR X (compareOp op) (rI0 fun i j => .bl (f i j))) (ho' : OpR X (compareOp op') (rI0 fun i j => .bl (g i j))) (ha : ME X io true c1 a ma) (hb : ME X io true c2 b mb) (hc : ME X io true c3 e mc)
    (hm : lastMarks [op, op'] [b, e] = false := by with_unfolding_all rfl) : MT X io true (.Compare a [op, op'] [b, e] pos) (fun δ K => mChain f g ma mb mc δ (kB K)) := by
  obtain ⟨_, A, sa⟩ := ha
  obtain ⟨_, B, sb⟩ := hb
  obtain ⟨_, D, sc⟩ := hc
  exact ⟨_, pt_chain ho ho' A B D hm, sTest (sChain sa sb sc)⟩
end
section
variable {X : Cx} {io : List Nat} {p c : Bool} {a b e : Expr} {ma mb m : MEt} {pos pl : Pos}
end
end L2
namespace L2
open PySem PySem.Spec PyProof.Rows
variable {G : PySem.W.Frag}
section
variable {X : Cx}
end
end L2
namespace L2
open PySem PySem.Spec PyProof.Rows PySem.SeqAt
variable {G : PySem.W.Frag}
section
variable {X : Cx} {io : List Nat} {p c : Bool} {a b e : Expr} {ma mb m : MEt} {mr : MAt} {pos pos' pl pr : Pos}
end
section
variable {X : Cx} {io : List Nat} {p c : Bool} {a b e : Expr} {ma mb m : MEt} {mr : MAt} {pos pos' pl pr : Pos}
end
end L2
namespace L2
open PySem PySem.Spec PyProof.Rows
section
variable {X : Cx} {io : List Nat} {p p' c : Bool} {a b e : Expr} {ma mb m : MEt} {pos p2 : Pos}
end
end L2
namespace L2
open PySem PySem.Spec PyProof.Rows
structure Apart (X : Cx) (pins : List (Addr × Obj)) (H : Hp) (b : Addr) : Prop where
  fr : H b = none
  new : X.s₀.heap.get? b = none
  loc : b ≠ X.env.locals
  cel : ∀ x c, X.env.cells.lookup x = some c → c ≠ b
  pin : ∀ p ∈ X.pn ++ pins, p.1 ≠ b
section
variable {X : Cx} {pins : List (Addr × Obj)} {σ : St} {H H' : Hp} {s : Shared} {h' : Heap} {b a C : Addr}
noncomputable def Fl (ap : Addr → Prop) (C a : Addr) (fl : Value) (h : Heap) : Prop := ∃ a0 oe vs T oT ts, h.get? a = some oe ∧ (oe.cls = .ref C ∧ vs[0]? = some a0) ∧ oe.data = .fields vs ∧ vs[1]? = some (.ref T) ∧ T ≠ a ∧ h.get? T = some oT ∧ oT.data = .fields ts ∧ ts[3]? = some fl ∧ ap a ∧ ap T
noncomputable def Fl0 (ap : Addr → Prop) (C a : Addr) (h : Heap) : Prop := ∃ a0 oe vs, h.get? a = some oe ∧ (oe.cls = .ref C ∧ vs[0]? = some a0) ∧ oe.data = .fields vs ∧ vs[1]? = some .none ∧ ap a
noncomputable def FlA (ap : Addr → Prop) (fl : Value) (C a : Addr) (h : Heap) : Prop := Fl ap C a .none h ∨ Fl0 ap C a h ∨ Fl ap C a fl h
section
variable {M : Model} {A : Around} {E : Value → Shared → Prop} {Q : Unit → Shared → Prop} {ch : List Addr}
end
end
end L2
namespace L2
open PySem PySem.Spec PyProof.Rows
noncomputable def RsCls (K : PySem.W.Frag) (C : Addr) : Prop := PySem.W.excIn K C [.type "ValueError", .type "Exception", .type "BaseException", .type "object"] "ValueError.__new__" = true
noncomputable abbrev MXt := DEnv → (Addr → DEnv → Prop) → Prop
noncomputable def XW (X : Cx) (C : MC X.K) (io : List Nat) (pins : List (Addr × Obj)) (ex : Addr → Prop) (H : Hp) (fp : Fp) (k : Addr → DEnv → Prop) (e : Value) (s' : Shared) : Prop :=
  ∃ a cl σ' H' δ' fp', e = .ref a ∧ Inv X pins σ' H' s' ∧ FlA (Apart X pins H') (rawInt X.env.locals) cl a s'.heap ∧ Rel C io H' σ' δ' fp' ex ∧ Kp H fp H' fp' ∧ k cl δ'
noncomputable def XS (X : Cx) (io : List Nat) (st : Stmt) (m : MXt) : Prop := ∀ (C : MC X.K) (pins : List (Addr × Obj)) (s : Shared) (σ : St) (H : Hp) (δ : DEnv) (fp : Fp) (ex : Addr → Prop) (k : Addr → DEnv → Prop), Inv X pins σ H s → Rel C io H σ δ fp ex → m δ k →
  wpAny (model X.prog X.w) X.A (exec st X.env) (fun _ _ => False) (XW X C io pins ex H fp k) s
noncomputable def XSs (X : Cx) (io : List Nat) (sts : List Stmt) (m : MXt) : Prop := ∀ (C : MC X.K) (pins : List (Addr × Obj)) (s : Shared) (σ : St) (H : Hp) (δ : DEnv) (fp : Fp) (ex : Addr → Prop) (k : Addr → DEnv → Prop), Inv X pins σ H s → Rel C io H σ δ fp ex → m δ k →
  wpAny (model X.prog X.w) X.A (execs sts X.env) (fun _ _ => False) (XW X C io pins ex H fp k) s
section
variable {X : Cx} {io : List Nat} {p c : Bool} {e : Expr} {es : List Expr} {mr : MAt} {m : MXt} {pos : Pos} {st : Stmt} {sts a b : List Stmt} {u : MSt} {w v : MXt} {mt : MTt} {i : Nat} {x : Str}
end
end L2
namespace L2
open PySem PySem.Spec PyProof.Rows
section
variable {P : Program} {w : World} {K : PySem.W.Frag} {mg : Str → Option Value} {base : Heap}
end
section
variable {X : Cx} {io : List Nat} {p c : Bool} {e : Expr} {es : List Expr} {mr : MAt} {pos pp : Pos} {k : Nat} {f : Addr} {fd : FuncData} {ps : List Str} {x : Str}
end
section
variable {X : Cx} {pins : List (Addr × Obj)} {σ : St} {H : Hp} {s : Shared} {a C : Addr}
noncomputable abbrev Cx.suite (X : Cx) (a : Addr) : Cx := { X with A := X.A.mark (some (.ref a)), calm := false }
end
end L2
namespace L2
open PySem PySem.Spec PyProof.Rows
section
variable {X : Cx} {io : List Nat} {i : Nat} {n y : Str} {Dc : Addr} {b₀ : Stmt} {body suite : List Stmt} {pos hpos np : Pos} {u h : MSt} {x : MXt}
end
end L2
namespace L2
open PySem PySem.Spec PyProof.Rows
theorem asB_bl (b : Bool) (k : Bool → Prop) : asB (.bool b) k = k b := rfl
inductive ClsV : V → Value → Prop where
  | own (D : Addr) : ClsV (.ref D) (.ref D)
  | ty (T : String) : ClsV (.ty T) (.type T)
inductive ClsVs : List V → List Value → Prop where
  | nil : ClsVs [] []
  | cons {v : V} {c : Value} {vs : List V} {cs : List Value} : ClsV v c → ClsVs vs cs → ClsVs (v :: vs) (c :: cs)
theorem ClsVs.length : ∀ {vs : List V} {cs : List Value}, ClsVs vs cs → vs.length = cs.length
  | _, _, .nil => rfl
  | _, _, .cons _ t => by simp [t.length]
section
variable {X : Cx} {io : List Nat} {p c : Bool} {a b : Expr} {ma : MEt} {pos pp p2 : Pos}
end
end L2
namespace L2
open PySem PySem.Spec PyProof.Rows PySem.P
section
variable {prog : Program} {w : World} {A : Around} {E : Value → Shared → Prop} {s : Shared} {e t0 C : Addr} {o : Obj} {vs : Array Value} {K : PySem.W.Frag} {m : Str} {tk : Tok}
structure XText (s : Shared) (e C t0 : Addr) (m : Str) (tk : Tok) : Prop where
  ob : ∃ o vs, s.heap.get? e = some o ∧ o.cls = .ref C ∧ o.data = .fields vs ∧ vs[0]? = some (.ref t0)
  tx : s.heap.TupAt t0 [.str m tk]
end
section
variable {X : Cx} {C : Addr} {x j : Str} {jk : Nat} {np cpos pos kp p1 : Pos}
end
end L2
namespace L2
open PySem PySem.Spec PyProof.Rows
variable {G : PySem.W.Frag}
theorem Rel.topN {io : List Nat} {C : MC G} {H : Hp} {σ : St} {δ : DEnv} {fp : Fp} {ex : Addr → Prop} {i : Nat} {ts ts' : List OT} {a' : Addr} {xs ys : List V} {bs bs' new : List Addr} (R : Rel C io H σ δ fp (exu ex new)) (hi : δ[i]? = some (some (.nd ts))) (hv : σ[i]? = some (some (.ref a')))
    (hf : fp i = a' :: bs) (hx : H a' = some (.lst xs)) (o : Owns G H (Lf C fp (exu ex new)) ys ts' bs') (hs : ∀ a ∈ bs', a ∈ bs ∨ a ∈ new) (ndb : (a' :: bs').Nodup) (hn : ∀ a ∈ new, C.H₀ a = none ∧ ¬ ex a) :
    Rel C io (upd H a' (.lst ys)) σ (δ.set i (some (.nd ts'))) (fpu fp i (a' :: bs')) ex ∧ ∀ a, Foot (fpu fp i (a' :: bs')) a → Foot fp a ∨ a ∈ new := by
  have hil : i < δ.length := (List.getElem?_eq_some_iff.mp hi).1
  have hm : a' ∈ fp i := by rw [hf]; exact .head _
  have kp : ∀ b o, H b = some o → b ≠ a' → upd H a' (.lst ys) b = some o := fun b o e n => by rw [upd_ne n]; exact e
  have mem : ∀ a, a ∈ a' :: bs' → a ∈ fp i ∨ a ∈ new := fun a m => by
    rw [hf]
    rcases List.mem_cons.mp m with rfl | m
    · exact .inl (.head _)
    · exact (hs a m).imp (fun z => .tail _ z) id
  have sub : ∀ a, Foot (fpu fp i (a' :: bs')) a → Foot fp a ∨ a ∈ new := fun a z => by
    rcases z.of_u with z | ⟨j, _, z⟩
    · exact (mem a z).imp (fun z => ⟨i, z⟩) id
    · exact .inl ⟨j, z⟩
  have lw : ∀ a, Lf C fp (exu ex new) a → Lf C (fpu fp i (a' :: bs')) ex a := fun a l => ⟨fun z => (sub a z).elim l.1 fun z => l.2.1 (.inr z), fun z => l.2.1 (.inl z), l.2.2⟩
  have f1 : ∀ a (zs : MuO), Lf C fp (exu ex new) a → Rd H a zs.ho → Lf C (fpu fp i (a' :: bs')) ex a ∧ Rd (upd H a' (.lst ys)) a zs.ho := fun a zs l q => by
    have na : a ≠ a' := fun z => l.1 ⟨i, by rw [z]; exact hm⟩
    refine ⟨lw a l, ?_⟩
    rcases q with q | ⟨u, q⟩
    · exact .inl (kp a _ q na)
    · exact .inr ⟨u, kp a _ q na⟩
  have f2 : ∀ a (zs : ImO), H a = some zs.ho → upd H a' (.lst ys) a = some zs.ho := fun a zs q => kp a _ q fun z => ImO.nl q (z ▸ hx)
  have hn' := List.nodup_cons.mp ndb
  refine ⟨⟨by rw [List.length_set]; exact R.len, fun j t' e => ?_, fun j h => ?_, fun j => ?_, fun j k a h1 h2 => ?_, fun j a h z => ?_, fun a z => ?_, fun b ob e nb => ?_, fun b e => ?_, fun j a h => ?_, R.io⟩, sub⟩
  · by_cases ej : j = i
    · subst ej
      rw [List.getElem?_set_self hil] at e
      cases e
      exact ⟨_, hv, by rw [fpu_same]; exact .nd upd_same (o.frame f1 f2 fun a m zs q => kp a _ q fun z => hn'.1 (z ▸ m))⟩
    · rw [List.getElem?_set_ne (Ne.symm ej)] at e
      obtain ⟨w, e1, o1⟩ := R.own j t' e
      exact ⟨w, e1, by rw [fpu_ne ej]; exact o1.frame f1 f2 fun a m zs q => kp a _ q fun z => ej (R.dj j i a m (z ▸ hm))⟩
  · by_cases ej : j = i
    · subst ej; exact absurd (List.getElem?_set_self hil) (h _)
    · rw [fpu_ne ej]
      exact R.emp j fun t' z => h t' (by rw [List.getElem?_set_ne (Ne.symm ej)]; exact z)
  · by_cases ej : j = i
    · subst ej; rw [fpu_same]; exact ndb
    · rw [fpu_ne ej]; exact R.nd j
  · have one : ∀ k, k ≠ i → a ∈ a' :: bs' → a ∈ fp k → False := fun k ek m1 m2 => by
      rcases mem a m1 with z | z
      · exact ek (R.dj k i a m2 z)
      · exact R.dx k a m2 (.inr z)
    by_cases ej : j = i
    · by_cases ek : k = i
      · rw [ej, ek]
      · rw [ej, fpu_same] at h1
        rw [fpu_ne ek] at h2
        exact (one k ek h1 h2).elim
    · rw [fpu_ne ej] at h1
      by_cases ek : k = i
      · rw [ek, fpu_same] at h2
        exact (one j ej h2 h1).elim
      · rw [fpu_ne ek] at h2
        exact R.dj j k a h1 h2
  · by_cases ej : j = i
    · rw [ej, fpu_same] at h
      rcases mem a h with m | m
      · exact R.dx i a m (.inl z)
      · exact (hn a m).2 z
    · rw [fpu_ne ej] at h
      exact R.dx j a h (.inl z)
  · by_cases e : a = a'
    · subst e; rw [upd_same]; intro q; cases q
    · rw [upd_ne e]; exact R.xa a (.inl z)
  · refine kp b ob (R.fr b ob e nb) fun z => ?_
    rcases R.new i a' hm with y | y
    · exact nb (z ▸ y.2)
    · rw [z, y] at e; cases e
  · refine R.al b ?_
    by_cases q : b = a'
    · subst q; rw [upd_same] at e; cases e
    · rwa [upd_ne q] at e
  · by_cases ej : j = i
    · rw [ej, fpu_same] at h
      rcases mem a h with m | m
      · rw [ej]; exact R.new i a m
      · exact .inr (hn a m).1
    · rw [fpu_ne ej] at h
      exact R.new j a h
noncomputable def mAppendO (i : Nat) (m : MEt) : MSt := fun D δ => match δ[i]? with
  | some (some (.nd _)) => m δ fun r δ1 => match δ1[i]? with
    | some (some (.nd ts)) => ts.length < sizeLine ∧ D.nx (δ1.set i (some (.nd (ts ++ [r]))))
    | _ => False
  | _ => False
section
variable {X : Cx} {io : List Nat} {p c : Bool} {e : Expr} {m : MEt} {pos apos cpos px : Pos} {i : Nat} {x : Str}
theorem ms_appendO (i : Nat) (he : ME X io p true e m) (hN : X.N[i]? = some x := by rfl) (hv : Vis X.env.scope x := by first | exact Or.inl rfl | exact Or.inr (Or.inl rfl) | exact Or.inr (Or.inr rfl)) (hd : (x == ("__debug__" : Str)) = false := by decide)
    (hcd : (x == ("__classdict__" : Str)) = false := by decide)
    (hbase : attributeBase (.Name x px) "append" X.env (eval (.Name x px) X.env) = eval (.Name x px) X.env := by rfl)
    (hfew : ((backTo cpos (starEach [e] X.env)).all (fun x => !x.1) && (backToKw cpos (keywordEach [] X.env)).all (fun x => x.1.isSome)
      && decide ([e].length + ([] : List Keyword).length + (if ([] : List Keyword).isEmpty then 0 else 1) < 30)) = true := by rfl)
    (hline : (apos.endLine == cpos.line) = true := by rfl) (hs : starEach [e] X.env = (false, eval e X.env) :: starEach [] X.env := by rfl) (hplain : (backTo cpos (starEach [] X.env)).any (·.1) = false := by rfl)
    (hsw : swapsWith (.Call (.Attribute (.Name x px) "append" apos) [e] [] cpos) none pos.line X.env = pure false := by rfl) :
    MS X io (.Expr (.Call (.Attribute (.Name x px) "append" apos) [e] [] cpos) pos) (mAppendO i m) := by
  obtain ⟨_, A, s⟩ := he
  refine ⟨_, ps_expr (pe_bm PySem.F.plainAttrs_list PySem.F.slot_list_append PySem.F.type_list_append mt_append (pv i hN hv hd hcd) (pa_cons A pa_nil hs) hbase hfew hline hs hplain) hsw, fun C H σ δ fp ex D D' R h E => ?_⟩
  unfold mAppendO at h
  split at h
  case h_2 => exact h.elim
  rename_i ts0 hi0
  obtain ⟨a', xs0, bs0, hv0, hx0, _, _⟩ := R.ownNd hi0
  refine ⟨_, hv0, .inl ⟨rfl, xs0, .inl (.inl hx0)⟩, ?_⟩
  refine s C H σ δ fp ex _ _ R h fun H1 v r δ1 fp1 new r1 h1 => ?_
  split at h1
  case h_2 => exact h1.elim
  rename_i ts1 hi1
  have R1 := r1.rel
  obtain ⟨a1, xs1, bs1, hv1, hx1, o1, hf1⟩ := R1.ownNd hi1
  rw [hv0] at hv1
  cases hv1
  refine ⟨a', xs1, v, rfl, rfl, hx1, by rw [o1.length]; exact h1.1, ?_⟩
  have ow : Own X.K H1 (Lf C fp1 (exu ex new)) v r new := r1.own.wide fun a l _ => l rfl
  have o2 := o1.snoc ow
  have nd1 := R1.nd i
  rw [hf1] at nd1
  have hn1 := List.nodup_cons.mp nd1
  have hm1 : ∀ a, a ∈ a' :: bs1 → a ∈ fp1 i := fun a m => by rw [hf1]; exact m
  have apart : ∀ a, a ∈ new → a ∉ a' :: bs1 := fun a m z => R1.dx i a (hm1 a z) (.inr m)
  obtain ⟨R2, sub⟩ := R1.topN hi1 hv0 hf1 hx1 o2 (fun a m => List.mem_append.mp m) (List.nodup_cons.mpr ⟨fun m => by
      rcases List.mem_append.mp m with z | z
      · exact hn1.1 z
      · exact apart a' z (.head _), List.nodup_append.mpr ⟨hn1.2, r1.nd, fun a m b m' z => apart b m' (by rw [← z]; exact .tail _ m)⟩⟩) fun a m => ⟨(R.newOk (r1.fresh a m)).2.2, (R.newOk (r1.fresh a m)).2.1⟩
  refine E.nx _ σ _ _ R2 ⟨fun b o eb q => ?_, fun z => (nomatch z), fun a z => ?_, fun b eb => ?_⟩ h1.2
  · have q' := q.resolve_left (by decide)
    rw [upd_ne]
    · exact r1.stp.keep b o eb (.inr q')
    · rintro rfl
      rcases r1.stp.grow b ⟨i, hm1 b (.head _)⟩ with z | z
      · exact q' z
      · rw [eb] at z; cases z
  · rcases sub a z with z | z
    · exact r1.stp.grow a z
    · exact .inr (r1.fresh a z)
  · refine r1.stp.al b ?_
    by_cases q : b = a'
    · subst q; rw [upd_same] at eb; cases eb
    · rwa [upd_ne q] at eb
end
end L2
namespace L2
open PySem PySem.Spec PyProof.Rows
variable {G : PySem.W.Frag}
section
variable {X : Cx} {io : List Nat} {e : Expr} {pos apos cpos px pt pl p2 : Pos} {i j : Nat} {x y : Str}
end
section
variable {X : Cx} {io : List Nat} {e : Expr} {i : Nat} {y : Str}
end
end L2
namespace L2
open PySem PySem.Spec PyProof.Rows
section
variable {X : Cx} {pins : List (Addr × Obj)} {σ : St} {H : Hp} {s : Shared} {M : Model} {A : Around} {E : Value → Shared → Prop} {Q : Unit → Shared → Prop} {C a L : Addr} {fl : Value}
end
end L2
namespace L2
open PySem PySem.Spec PyProof.Rows
section
variable {X : Cx} {io : List Nat} {p : Bool} {tg iter : Expr} {body : List Stmt} {mi : MIt} {g : MGt} {u : MSt} {x : MXt} {pos : Pos}
end
end L2
namespace L2
open PySem PySem.Spec PyProof.Rows
noncomputable abbrev FE := DEnv → Option (OT × DEnv)
noncomputable abbrev FA := DEnv → Option (List OT × DEnv)
noncomputable abbrev FT := DEnv → Option (Bool × DEnv)
noncomputable abbrev FI := DEnv → Option (List PyData × DEnv)
noncomputable abbrev FO := DEnv → Option (Option Int × DEnv)
noncomputable abbrev FG := PyData → DEnv → Option DEnv
noncomputable abbrev FGs := List PyData → DEnv → Option DEnv
noncomputable def o2 {α : Type} (f : DEnv → Option (α × DEnv)) : DEnv → (α → DEnv → Prop) → Prop := fun δ K => ∃ r δ', f δ = some (r, δ') ∧ K r δ'
noncomputable def oG (g : FG) : MGt := fun d δ k => ∃ δ', g d δ = some δ' ∧ k δ'
noncomputable def oGs (g : FGs) : MGst := fun d δ k => ∃ δ', g d δ = some δ' ∧ k δ'
section
variable {X : Cx} {io : List Nat} {p c : Bool} {e tg : Expr} {es : List Expr} {m m' : MEt} {mr mr' : MAt} {mt mt' : MTt} {mi mi' : MIt} {g g' : MGt} {gs gs' : MGst} {mo mo' : MOt} {st : Stmt} {sts : List Stmt} {u u' : MSt} {eo : Option Expr}
theorem ME.weak (h : ME X io p c e m) (w : ∀ δ K, m' δ K → m δ K) : ME X io p c e m' := let ⟨t, A, s⟩ := h; ⟨t, A, fun C H σ δ fp ex K Q R h k => s C H σ δ fp ex K Q R (w δ K h) k⟩
theorem MA.weak (h : MA X io p c es mr) (w : ∀ δ K, mr' δ K → mr δ K) : MA X io p c es mr' := let ⟨t, A, s⟩ := h; ⟨t, A, fun C H σ δ fp ex K Q R h k => s C H σ δ fp ex K Q R (w δ K h) k⟩
theorem MT.weak (h : MT X io p e mt) (w : ∀ δ K, mt' δ K → mt δ K) : MT X io p e mt' := let ⟨t, A, s⟩ := h; ⟨t, A, fun C H σ δ fp ex K Q R h k => s C H σ δ fp ex K Q R (w δ K h) k⟩
theorem MW.weak (h : MW X io p e mt) (w : ∀ δ K, mt' δ K → mt δ K) : MW X io p e mt' := let ⟨t, A, s⟩ := h; ⟨t, A, fun C H σ δ fp ex K Q R h k => s C H σ δ fp ex K Q R (w δ K h) k⟩
theorem MIfs.weak (h : MIfs X io p es mt) (w : ∀ δ K, mt' δ K → mt δ K) : MIfs X io p es mt' := let ⟨t, A, s⟩ := h; ⟨t, A, fun C H σ δ fp ex K Q R h k => s C H σ δ fp ex K Q R (w δ K h) k⟩
theorem MI.weak (h : MI X io p c tg e mi) (w : ∀ δ K, mi' δ K → mi δ K) : MI X io p c tg e mi' := let ⟨t, A, s⟩ := h; ⟨t, A, fun C H σ δ fp ex K Q R h k => s C H σ δ fp ex K Q R (w δ K h) k⟩
theorem MO.weak (h : MO X io p eo mo) (w : ∀ δ K, mo' δ K → mo δ K) : MO X io p eo mo' := let ⟨t, A, s⟩ := h; ⟨t, A, fun C H σ δ fp ex K Q R h k => s C H σ δ fp ex K Q R (w δ K h) k⟩
theorem MG.weak (h : MG X io c tg g) (w : ∀ d δ K, g' d δ K → g d δ K) : MG X io c tg g' := let ⟨t, A, s⟩ := h; ⟨t, A, fun C H σ δ fp ex v d k Q R q h kk => s C H σ δ fp ex v d k Q R q (w d δ k h) kk⟩
theorem MGs.weak (h : MGs X io c es gs) (w : ∀ d δ K, gs' d δ K → gs d δ K) : MGs X io c es gs' := let ⟨t, A, s⟩ := h; ⟨t, A, fun C H σ δ fp ex v d k Q R q h kk => s C H σ δ fp ex v d k Q R q (w d δ k h) kk⟩
theorem MS.weak (h : MS X io st u) (w : ∀ D δ, u' D δ → u D δ) : MS X io st u' := let ⟨t, A, s⟩ := h; ⟨t, A, fun C H σ δ fp ex D D' R h E => s C H σ δ fp ex D D' R (w D δ h) E⟩
theorem MSs.weak (h : MSs X io sts u) (w : ∀ D δ, u' D δ → u D δ) : MSs X io sts u' := let ⟨t, A, s⟩ := h; ⟨t, A, fun C H σ δ fp ex D D' R h E => s C H σ δ fp ex D D' R (w D δ h) E⟩
end
noncomputable def fVar (i : Nat) : FE := fun δ => match δ[i]? with | some (some (.fz d)) => some (.fz d, δ) | _ => none
noncomputable def fOwn (i : Nat) : FE := fun δ => match δ[i]? with | some (some t) => some (.fz t.data, δ) | _ => none
noncomputable def fC (d : PyData) : FE := fun δ => some (.fz d, δ)
noncomputable def fBinS (g : PyData → PyData → Option PyData) (a b : FE) : FE := fun δ => (a δ).bind fun p => (b p.2).bind fun q => (g p.1.data q.1.data).bind fun d => some (.fz d, q.2)
noncomputable def fBin (g : PyData → PyData → Option OT) (a b : FE) : FE := fun δ => (a δ).bind fun p => (b p.2).bind fun q => (g p.1.data q.1.data).bind fun d => some (d, q.2)
noncomputable def fUn (g : PyData → Option PyData) (a : FE) : FE := fun δ => (a δ).bind fun p => (g p.1.data).bind fun d => some (.fz d, p.2)
noncomputable def fAnd (a b : FE) : FE := fun δ => (a δ).bind fun p => match p.1.data with | .bool true => b p.2 | .bool false => some (.fz (.bool false), p.2) | _ => none
noncomputable def fOr (a b : FE) : FE := fun δ => (a δ).bind fun p => match p.1.data with | .bool true => some (.fz (.bool true), p.2) | .bool false => b p.2 | _ => none
noncomputable def fIf (t : FT) (a b : FE) : FE := fun δ => (t δ).bind fun p => if p.1 = true then a p.2 else b p.2
noncomputable def tV (e : FE) : FT := fun δ => (e δ).bind fun p => match p.1 with | .fz (.bool b) => some (b, p.2) | _ => none
noncomputable def tNo (t : FT) : FT := fun δ => (t δ).bind fun p => some (!p.1, p.2)
noncomputable def tAn (t u : FT) : FT := fun δ => (t δ).bind fun p => if p.1 = true then u p.2 else some (false, p.2)
noncomputable def tO (t u : FT) : FT := fun δ => (t δ).bind fun p => if p.1 = true then some (true, p.2) else u p.2
noncomputable def tD (e : FE) : FT := fun δ => (e δ).bind fun p => (truD p.1.data).bind fun b => some (b, p.2)
noncomputable def aNil : FA := fun δ => some ([], δ)
noncomputable def aCons (e : FE) (a : FA) : FA := fun δ => (e δ).bind fun p => (a p.2).bind fun q => some (p.1 :: q.1, q.2)
noncomputable def fTup (a : FA) : FE := fun δ => (a δ).bind fun p => if p.1.length ≤ sizeLine then some (.fz (.tuple (OT.datas p.1)), p.2) else none
noncomputable def fLst (a : FA) : FE := fun δ => (a δ).bind fun p => if p.1.length ≤ sizeLine then some (.nd p.1, p.2) else none
noncomputable def fFlat (e : FE) : FE := fun δ => (e δ).bind fun p => if flatD p.1.data = true then some (.fz p.1.data, p.2) else none
noncomputable def fFlatT (e : FE) : FE := fun δ => (e δ).bind fun p => if flatT p.1 = true then some (p.1, p.2) else none
inductive RF where
  | ok (r : OT)
  | exn (c : Str)
  | bad
noncomputable abbrev FD := List PyData → RF
noncomputable abbrev FIO := OT → List PyData → Option (OT × OT)
noncomputable def fCall (F : FD) (a : FA) : FE := fun δ => (a δ).bind fun p => match F (OT.datas p.1) with | .ok r => some (r, p.2) | _ => none
noncomputable def fCallI (i : Nat) (F : FIO) (a : FA) : FE := fun δ => match δ[i]? with
  | some (some _) => (a δ).bind fun p => match p.2[i]? with
    | some (some t) => (F t (OT.datas p.1)).bind fun q => some (q.1, p.2.set i (some q.2))
    | _ => none
  | _ => none
noncomputable def fBlS (g : List PyData → Option PyData) (a : FA) : FE := fun δ => (a δ).bind fun p => (g (OT.datas p.1)).bind fun d => some (.fz d, p.2)
noncomputable def fBl (g : List PyData → Option OT) (a : FA) : FE := fun δ => (a δ).bind fun p => (g (OT.datas p.1)).bind fun d => some (d, p.2)
noncomputable def fIsi (T : String) (e : FE) : FE := fun δ => (e δ).bind fun p => if isFnD p.1.data = true then none else some (.fz (.bool (isTy T p.1.data)), p.2)
noncomputable def oN : FO := fun δ => some (none, δ)
noncomputable def oI (e : FE) : FO := fun δ => (e δ).bind fun p => match p.1.data with | .int i => some (some i, p.2) | _ => none
noncomputable def fSl (e : FE) (lo hi : FO) : FE := fun δ => (e δ).bind fun p => (lo p.2).bind fun q => (hi q.2).bind fun r => match p.1.data with | .list ds => some (.nd ((cutD ds q.1 r.1).map OT.fz), r.2) | _ => none
noncomputable def fChain (f g : Int → Int → Bool) (a b c : FE) : FE := fun δ => (a δ).bind fun p => (b p.2).bind fun q => match p.1.data, q.1.data with
  | .int i, .int j => if f i j = true then (c q.2).bind fun r => match r.1.data with | .int k => some (.fz (.bool (g j k)), r.2) | _ => none else some (.fz (.bool false), q.2)
  | _, _ => none
noncomputable def iLst (e : FE) : FI := fun δ => (e δ).bind fun p => match p.1.data with | .list ds => some (ds, p.2) | _ => none
noncomputable def iTp (e : FE) : FI := fun δ => (e δ).bind fun p => match p.1.data with | .tuple ds => some (ds, p.2) | _ => none
noncomputable def rOk (j : Int) : Bool := decide (-(2 ^ 62) ≤ j) && decide (j < 2 ^ 62)
theorem rOk_iff {j : Int} (h : rOk j = true) : -(2 ^ 62) ≤ j ∧ j < 2 ^ 62 := by
  unfold rOk at h
  rw [Bool.and_eq_true] at h
  exact ⟨of_decide_eq_true h.1, of_decide_eq_true h.2⟩
theorem rOk_of {j : Int} (h0 : -1000000 ≤ j) (h1 : j ≤ 1000000) : rOk j = true := by
  unfold rOk
  rw [decide_eq_true (show -(2 ^ 62) ≤ j by omega), decide_eq_true (show j < 2 ^ 62 by omega)]; rfl
noncomputable def iRa (a : FA) : FI := fun δ => (a δ).bind fun p => match OT.datas p.1 with | [.int j] => if rOk j = true then some (rngD 0 j.toNat, p.2) else none | _ => none
noncomputable def iRb (a : FA) : FI := fun δ => (a δ).bind fun p => match OT.datas p.1 with | [.int i, .int j] => if (rOk i && rOk j) = true then some (rngD i (j - i).toNat, p.2) else none | _ => none
noncomputable def iZip2 (a : FA) : FI := fun δ => (a δ).bind fun p => match OT.datas p.1 with | [.list as, .list bs] => some (zipD as bs, p.2) | _ => none
noncomputable def gNm (i : Nat) : FG := fun d δ => some (δ.set i (some (.fz d)))
noncomputable def gNmS (i : Nat) : FG := fun d δ => if flatD d = true then some (δ.set i (some (.fz d))) else none
noncomputable def gNl : FGs := fun ds δ => match ds with | [] => some δ | _ => none
noncomputable def gCn (g : FG) (gs : FGs) : FGs := fun ds δ => match ds with | d :: r => (g d δ).bind (gs r) | [] => none
noncomputable def gTp (n : Nat) (gs : FGs) : FG := fun d δ => match d with | .tuple ds => if ds.length = n then gs ds δ else none | _ => none
noncomputable def gLs (n : Nat) (gs : FGs) : FG := fun d δ => match d with | .list ds => if ds.length = n then gs ds δ else none | _ => none
noncomputable def compLoop (g : FG) (t : FT) (e : FE) : List PyData → DEnv → Option (List OT × DEnv)
  | [], δ => some ([], δ)
  | d :: ds, δ => (g d δ).bind fun δ1 => (t δ1).bind fun p => if p.1 = true then (e p.2).bind fun q => (compLoop g t e ds q.2).bind fun z => some (q.1 :: z.1, z.2) else compLoop g t e ds p.2
noncomputable def fComp (n : Nat) (caps : List Nat) (it : FI) (g : FG) (t : FT) (e : FE) : FE := fun δ => (it δ).bind fun p => if p.1.length ≤ sizeLine then (compLoop g t e p.1 (blk n caps p.2)).bind fun z => some (.nd z.1, p.2) else none
noncomputable def tYes : FT := fun δ => some (true, δ)
inductive RS where
  | nx (δ : DEnv)
  | rt (r : OT) (δ : DEnv)
  | bk (δ : DEnv)
  | ct (δ : DEnv)
  | ex (c : Str) (δ : DEnv)
  | bad
noncomputable abbrev FS := DEnv → RS
noncomputable def RS.fits (D : EndsM) : RS → Prop
  | .nx δ => D.nx δ
  | .rt r δ => D.rt r δ
  | .bk δ => D.bk δ
  | .ct δ => D.ct δ
  | _ => False
noncomputable def oS (f : FS) : MSt := fun D δ => (f δ).fits D
noncomputable def xS (K : PySem.W.Frag) (f : FS) : MXt := fun δ k => ∃ c C δ', f δ = .ex c δ' ∧ ClsAt K c C ∧ k C δ'
noncomputable def fSeq (f g : FS) : FS := fun δ => match f δ with | .nx δ' => g δ' | r => r
noncomputable def fNx : FS := fun δ => .nx δ
noncomputable def fBrk : FS := fun δ => .bk δ
noncomputable def fCnt : FS := fun δ => .ct δ
noncomputable def wE (e : FE) (k : OT → DEnv → RS) : FS := fun δ => match e δ with | some (r, δ') => k r δ' | none => .bad
noncomputable def wX (F : FD) (a : FA) (k : OT → DEnv → RS) : FS := fun δ => match a δ with
  | some (rs, δ1) => match F (OT.datas rs) with
    | .ok r => k r δ1
    | .exn c => .ex c δ1
    | .bad => .bad
  | none => .bad
noncomputable def kDrop : OT → DEnv → RS := fun _ δ => .nx δ
noncomputable def kRet : OT → DEnv → RS := fun r δ => .rt r δ
noncomputable def kRetS : OT → DEnv → RS := fun r δ => if flatD r.data = true then .rt (.fz r.data) δ else .bad
noncomputable def kSet (i : Nat) : OT → DEnv → RS := fun r δ => .nx (δ.set i (some (.fz r.data)))
noncomputable def kSetS (i : Nat) : OT → DEnv → RS := fun r δ => if flatD r.data = true then .nx (δ.set i (some (.fz r.data))) else .bad
noncomputable def kSetO (i : Nat) : OT → DEnv → RS := fun r δ => .nx (δ.set i (some r))
noncomputable def kAsg (g : FG) : OT → DEnv → RS := fun r δ => match g r.data δ with | some δ' => .nx δ' | none => .bad
noncomputable def fRetN : FS := fun δ => .rt (.fz .none) δ
noncomputable def fRetO (i : Nat) : FS := fun δ => match δ[i]? with | some (some t) => .rt t (δ.set i none) | _ => .bad
noncomputable def fIfS (t : FT) (u w : FS) : FS := fun δ => match t δ with | some (b, δ') => if b = true then u δ' else w δ' | none => .bad
noncomputable def fRaise (c : Str) : FS := fun δ => .ex c δ
noncomputable def fAppend (i : Nat) (e : FE) : FS := fun δ => match δ[i]? with
  | some (some (.nd _)) => wE e (fun r δ1 => match δ1[i]? with
    | some (some (.nd ts)) => if ts.length < sizeLine then .nx (δ1.set i (some (.nd (ts ++ [.fz r.data])))) else .bad
    | _ => .bad) δ
  | _ => .bad
noncomputable def fAppendO (i : Nat) (e : FE) : FS := fun δ => match δ[i]? with
  | some (some (.nd _)) => wE e (fun r δ1 => match δ1[i]? with
    | some (some (.nd ts)) => if ts.length < sizeLine then .nx (δ1.set i (some (.nd (ts ++ [r])))) else .bad
    | _ => .bad) δ
  | _ => .bad
noncomputable def fPut (i : Nat) (e j : FE) : FS := wE e fun r δ1 => match δ1[i]? with
  | some (some (.nd ts)) => wE j (fun n _ => match n.data with
    | .int k => match ixN ts.length k with
      | some j => .nx (δ1.set i (some (.nd (ts.set j (.fz r.data)))))
      | none => .bad
    | _ => .bad) δ1
  | _ => .bad
noncomputable def fPut2 (i : Nat) (e j j2 : FE) : FS := wE e fun r δ1 => match δ1[i]? with
  | some (some (.nd ts)) => wE j (fun n _ => match n.data with
    | .int k => match ixN ts.length k with
      | some j => match ts[j]? with
        | some (.nd us) => wE j2 (fun n' _ => match n'.data with
          | .int k' => match ixN us.length k' with
            | some j' => .nx (δ1.set i (some (.nd (ts.set j (.nd (us.set j' (.fz r.data)))))))
            | none => .bad
          | _ => .bad) δ1
        | _ => .bad
      | none => .bad
    | _ => .bad) δ1
  | _ => .bad
noncomputable def fFreeze (i : Nat) (u : FS) : FS := fun δ => match δ[i]? with | some (some t) => u (δ.set i (some (.fz t.data))) | _ => .bad
noncomputable def forLoop (g : FG) (u : FS) : List PyData → DEnv → RS
  | [], δ => .nx δ
  | d :: ds, δ => match g d δ with
    | none => .bad
    | some δ1 => match u δ1 with
      | .nx δ2 => forLoop g u ds δ2
      | .ct δ2 => forLoop g u ds δ2
      | .bk δ2 => .nx δ2
      | r => r
noncomputable def fFor (it : FI) (g : FG) (u : FS) : FS := fun δ => match it δ with | some (ds, δ1) => forLoop g u ds δ1 | none => .bad
noncomputable def whileLoop (t : FT) (u : FS) : Nat → DEnv → RS
  | 0, _ => .bad
  | n + 1, δ => match t δ with
    | none => .bad
    | some (b, δ1) => if b = true then match u δ1 with
      | .nx δ2 => whileLoop t u n δ2
      | .ct δ2 => whileLoop t u n δ2
      | .bk δ2 => .nx δ2
      | .rt r δ2 => .rt r δ2
      | _ => .bad
      else .nx δ1
open Classical in
noncomputable def fWhile (t : FT) (u : FS) : FS := fun δ => if h : ∃ n, whileLoop t u n δ ≠ .bad then whileLoop t u (Classical.choose h) δ else .bad
noncomputable def startN (n : Nat) (ds : List PyData) : DEnv := ds.map (fun d => some (.fz d)) ++ List.replicate (n - ds.length) none
noncomputable def startIN (n : Nat) (t : OT) (ds : List PyData) : DEnv := some t :: (ds.map (fun d => some (.fz d)) ++ List.replicate (n - (ds.length + 1)) none)
noncomputable def RS.told : RS → RF
  | .nx _ => .ok (.fz .none)
  | .rt r _ => .ok r
  | .ex c _ => .exn c
  | _ => .bad
noncomputable def runD (np n : Nat) (S : FS) : FD := fun ds => if ds.length = np then (S (startN n ds)).told else .bad
end L2
namespace L2
open PySem PySem.Spec PyProof.Rows
noncomputable def sD (F : FD) : List PyData → (OT → Prop) → Prop := fun ds k => ∃ r, F ds = .ok r ∧ k r
theorem bs {α β : Type} {x : Option α} {f : α → Option β} {b : β} (h : x.bind f = some b) : ∃ a, x = some a ∧ f a = some b := Option.bind_eq_some_iff.mp h
section
variable {X : Cx} {io : List Nat} {p c : Bool} {e tg : Expr} {es : List Expr} {st : Stmt} {sts : List Stmt} {eo : Option Expr} {fa fb fc : FE} {ra : FA} {ta tb : FT} {i : Nat}
theorem fe_var (h : ME X io p c e (mVar i)) : ME X io p c e (o2 (fVar i)) := h.weak fun δ K q91 => by
  obtain ⟨r, δ', h, k⟩ := q91
  unfold fVar at h; unfold mVar
  split at h
  · rename_i d hd; (try rw [hd]); cases h; exact k
  · cases h
theorem fe_own (h : ME X io p c e (mOwn i)) : ME X io p c e (o2 (fOwn i)) := h.weak fun δ K q92 => by
  obtain ⟨r, δ', h, k⟩ := q92
  unfold fOwn at h; unfold mOwn
  split at h
  · rename_i d hd; (try rw [hd]); cases h; exact k
  · cases h
theorem fe_c {d : PyData} (h : ME X io p c e (mC d)) : ME X io p c e (o2 (fC d)) := h.weak fun δ K ⟨r, δ', h, k⟩ => by cases h; exact k
noncomputable def ByS (g : PyData → PyData → Option PyData) (rp : PyData → PyData → (PyData → Prop) → Prop) : Prop := ∀ d e r k, g d e = some r → k r → rp d e k
noncomputable def ByO (g : PyData → PyData → Option OT) (rp : PyData → PyData → (OT → Prop) → Prop) : Prop := ∀ d e r k, g d e = some r → k r → rp d e k
theorem w_binS {g rp} (G : ByS g rp) {δ : DEnv} {K : OT → DEnv → Prop} (h : o2 (fBinS g fa fb) δ K) : mBinS rp (o2 fa) (o2 fb) δ K := by
  obtain ⟨r, δ', h, k⟩ := h
  obtain ⟨⟨x, δ1⟩, h1, h⟩ := bs h
  obtain ⟨⟨y, δ2⟩, h2, h⟩ := bs h
  obtain ⟨d, h3, h⟩ := bs h
  cases h
  exact ⟨x, δ1, h1, y, δ2, h2, G _ _ _ _ h3 k⟩
theorem fe_binS {g rp} (G : ByS g rp) (h : ME X io p c e (mBinS rp (o2 fa) (o2 fb))) : ME X io p c e (o2 (fBinS g fa fb)) := h.weak fun δ K z => w_binS G z
theorem w_tv {f : FE} {δ : DEnv} {K : Bool → DEnv → Prop} (h : o2 (tV f) δ K) : o2 f δ (kB K) := by
  obtain ⟨b, δ', h, k⟩ := h
  obtain ⟨⟨x, δ1⟩, h1, h⟩ := bs h
  refine ⟨x, δ1, h1, ?_⟩
  unfold kB
  try dsimp only at h ⊢
  split at h
  · cases h; exact k
  · cases h
theorem ft_cmp {g rp} (G : ByS g rp) (h : MT X io p e (fun δ K => mBinS rp (o2 fa) (o2 fb) δ (kB K))) : MT X io p e (o2 (tV (fBinS g fa fb))) := h.weak fun δ K z => w_binS G (w_tv z)
theorem fe_bin {g rp} (G : ByO g rp) (h : ME X io p c e (mBin rp (o2 fa) (o2 fb))) : ME X io p c e (o2 (fBin g fa fb)) := h.weak fun δ K h => by
  obtain ⟨r, δ', h, k⟩ := h
  obtain ⟨⟨x, δ1⟩, h1, h⟩ := bs h
  obtain ⟨⟨y, δ2⟩, h2, h⟩ := bs h
  obtain ⟨d, h3, h⟩ := bs h
  cases h
  exact ⟨x, δ1, h1, y, δ2, h2, G _ _ _ _ h3 k⟩
noncomputable def negD : PyData → Option PyData | .int i => some (.int (-i)) | _ => none
noncomputable def notD : PyData → Option PyData | .bool b => some (.bool (!b)) | _ => none
theorem fe_notV (h : ME X io p c e (mNotV (o2 fa))) : ME X io p c e (o2 (fUn notD fa)) := h.weak fun δ K h => by
  obtain ⟨r, δ', h, k⟩ := h
  obtain ⟨⟨x, δ1⟩, h1, h⟩ := bs h
  obtain ⟨d, h3, h⟩ := bs h
  cases h
  refine ⟨x, δ1, h1, ?_⟩
  dsimp only at h3 ⊢
  cases q : x.data <;> rw [q] at h3 <;> cases h3
  exact k
theorem fe_andV (h : ME X io p c e (mAndV (o2 fa) (o2 fb))) : ME X io p c e (o2 (fAnd fa fb)) := h.weak fun δ K h => by
  obtain ⟨r, δ', h, k⟩ := h
  obtain ⟨⟨x, δ1⟩, h1, h⟩ := bs h
  refine ⟨x, δ1, h1, ?_⟩
  try dsimp only at h ⊢
  split at h
  · rename_i q; (try rw [q]); rw [asB_bl, if_pos rfl]; exact ⟨r, δ', h, k⟩
  · rename_i q; (try rw [q]); cases h; rw [asB_bl, if_neg Bool.false_ne_true]; exact k
  · cases h
theorem fe_orV (h : ME X io p c e (mOrV (o2 fa) (o2 fb))) : ME X io p c e (o2 (fOr fa fb)) := h.weak fun δ K h => by
  obtain ⟨r, δ', h, k⟩ := h
  obtain ⟨⟨x, δ1⟩, h1, h⟩ := bs h
  refine ⟨x, δ1, h1, ?_⟩
  try dsimp only at h ⊢
  split at h
  · rename_i q; (try rw [q]); cases h; rw [asB_bl, if_pos rfl]; exact k
  · rename_i q; (try rw [q]); rw [asB_bl, if_neg Bool.false_ne_true]; exact ⟨r, δ', h, k⟩
  · cases h
theorem fe_if (h : ME X io p c e (mIf (o2 ta) (o2 fa) (o2 fb))) : ME X io p c e (o2 (fIf ta fa fb)) := h.weak fun δ K h => by
  obtain ⟨r, δ', h, k⟩ := h
  obtain ⟨⟨x, δ1⟩, h1, h⟩ := bs h
  refine ⟨x, δ1, h1, ?_⟩
  try dsimp only at h ⊢
  split at h
  · rename_i q; rw [if_pos q]; exact ⟨r, δ', h, k⟩
  · rename_i q; rw [if_neg q]; exact ⟨r, δ', h, k⟩
theorem ft_not (h : MT X io p e (mNot (o2 ta))) : MT X io p e (o2 (tNo ta)) := h.weak fun δ K h => by
  obtain ⟨r, δ', h, k⟩ := h
  obtain ⟨⟨x, δ1⟩, h1, h⟩ := bs h
  cases h
  exact ⟨x, δ1, h1, k⟩
theorem ft_and (h : MW X io p e (mAnd (o2 ta) (o2 tb))) : MW X io p e (o2 (tAn ta tb)) := h.weak fun δ K h => by
  obtain ⟨r, δ', h, k⟩ := h
  obtain ⟨⟨x, δ1⟩, h1, h⟩ := bs h
  refine ⟨x, δ1, h1, ?_⟩
  try dsimp only at h ⊢
  split at h
  · rename_i q; rw [if_pos q]; exact ⟨r, δ', h, k⟩
  · rename_i q; rw [if_neg q]; cases h; exact k
theorem ft_or (h : MW X io p e (mOr (o2 ta) (o2 tb))) : MW X io p e (o2 (tO ta tb)) := h.weak fun δ K h => by
  obtain ⟨r, δ', h, k⟩ := h
  obtain ⟨⟨x, δ1⟩, h1, h⟩ := bs h
  refine ⟨x, δ1, h1, ?_⟩
  try dsimp only at h ⊢
  split at h
  · rename_i q; rw [if_pos q]; cases h; exact k
  · rename_i q; rw [if_neg q]; exact ⟨r, δ', h, k⟩
theorem ft_tru (h : MT X io p e (mTru (o2 fa))) : MT X io p e (o2 (tD fa)) := h.weak fun δ K h => by
  obtain ⟨r, δ', h, k⟩ := h
  obtain ⟨⟨x, δ1⟩, h1, h⟩ := bs h
  obtain ⟨d, h3, h⟩ := bs h
  cases h
  refine ⟨x, δ1, h1, ?_⟩
  dsimp only at h3 ⊢
  rw [h3]
  exact k
theorem fa_nil (h : MA X io p c es mNil) : MA X io p c es (o2 aNil) := h.weak fun δ K ⟨r, δ', h, k⟩ => by cases h; exact k
theorem fa_cons (h : MA X io p c es (mCons (o2 fa) (o2 ra))) : MA X io p c es (o2 (aCons fa ra)) := h.weak fun δ K h => by
  obtain ⟨r, δ', h, k⟩ := h
  obtain ⟨⟨x, δ1⟩, h1, h⟩ := bs h
  obtain ⟨⟨y, δ2⟩, h2, h⟩ := bs h
  cases h
  exact ⟨x, δ1, h1, y, δ2, h2, k⟩
theorem fe_tup (h : ME X io p c e (mTup (o2 ra))) : ME X io p c e (o2 (fTup ra)) := h.weak fun δ K h => by
  obtain ⟨r, δ', h, k⟩ := h
  obtain ⟨⟨x, δ1⟩, h1, h⟩ := bs h
  refine ⟨x, δ1, h1, ?_⟩
  dsimp only at h
  split at h
  · rename_i q; cases h; exact ⟨q, k⟩
  · cases h
theorem fe_lst (h : ME X io p c e (mLst (o2 ra))) : ME X io p c e (o2 (fLst ra)) := h.weak fun δ K h => by
  obtain ⟨r, δ', h, k⟩ := h
  obtain ⟨⟨x, δ1⟩, h1, h⟩ := bs h
  refine ⟨x, δ1, h1, ?_⟩
  dsimp only at h
  split at h
  · rename_i q; cases h; exact ⟨q, k⟩
  · cases h
theorem fe_flat (h : ME X io p c e (mFlat (o2 fa))) : ME X io p c e (o2 (fFlat fa)) := h.weak fun δ K h => by
  obtain ⟨r, δ', h, k⟩ := h
  obtain ⟨⟨x, δ1⟩, h1, h⟩ := bs h
  refine ⟨x, δ1, h1, ?_⟩
  dsimp only at h
  split at h
  · rename_i q; cases h; exact ⟨q, k⟩
  · cases h
theorem fe_call {F : FD} (h : ME X io p c e (mCall (sD F) (o2 ra))) : ME X io p c e (o2 (fCall F ra)) := h.weak fun δ K h => by
  obtain ⟨r, δ', h, k⟩ := h
  obtain ⟨⟨x, δ1⟩, h1, h⟩ := bs h
  refine ⟨x, δ1, h1, ?_⟩
  dsimp only at h
  split at h
  · rename_i q; cases h; exact ⟨_, q, k⟩
  · cases h
theorem fe_blS {g rp} (G : ∀ ds r k, g ds = some r → k r → rp ds k) (h : ME X io p c e (mBlS rp (o2 ra))) : ME X io p c e (o2 (fBlS g ra)) := h.weak fun δ K h => by
  obtain ⟨r, δ', h, k⟩ := h
  obtain ⟨⟨x, δ1⟩, h1, h⟩ := bs h
  obtain ⟨d, h3, h⟩ := bs h
  cases h
  exact ⟨x, δ1, h1, G _ _ _ h3 k⟩
theorem fe_bl {g rp} (G : ∀ ds r k, g ds = some r → k r → rp ds k) (h : ME X io p c e (mBl rp (o2 ra))) : ME X io p c e (o2 (fBl g ra)) := h.weak fun δ K h => by
  obtain ⟨r, δ', h, k⟩ := h
  obtain ⟨⟨x, δ1⟩, h1, h⟩ := bs h
  obtain ⟨d, h3, h⟩ := bs h
  cases h
  exact ⟨x, δ1, h1, G _ _ _ h3 k⟩
theorem fe_isi {T : String} (h : ME X io p c e (mIsi T (o2 fa))) : ME X io p c e (o2 (fIsi T fa)) := h.weak fun δ K h => by
  obtain ⟨r, δ', h, k⟩ := h
  obtain ⟨⟨x, δ1⟩, h1, h⟩ := bs h
  by_cases hf : isFnD x.data = true
  · have h' : (if isFnD x.data = true then none else some (OT.fz (.bool (isTy T x.data)), δ1)) = some (r, δ') := h
    rw [if_pos hf] at h'
    cases h'
  · have h' : (if isFnD x.data = true then none else some (OT.fz (.bool (isTy T x.data)), δ1)) = some (r, δ') := h
    rw [if_neg hf] at h'
    injection h' with h'
    injection h' with e1 e2
    subst e1 e2
    exact ⟨x, _, h1, Bool.eq_false_iff.mpr hf, k⟩
theorem fo_some (h : MO X io p eo (mPart (o2 fa))) : MO X io p eo (o2 (oI fa)) := h.weak fun δ K h => by
  obtain ⟨r, δ', h, k⟩ := h
  obtain ⟨⟨x, δ1⟩, h1, h⟩ := bs h
  refine ⟨x, δ1, h1, ?_⟩
  try dsimp only at h ⊢
  split at h
  · rename_i q; (try rw [q]); cases h; exact k
  · cases h
theorem fe_sl {lo hi : FO} (h : ME X io p c e (mSl (o2 fa) (o2 lo) (o2 hi))) : ME X io p c e (o2 (fSl fa lo hi)) := h.weak fun δ K h => by
  obtain ⟨r, δ', h, k⟩ := h
  obtain ⟨⟨x, δ1⟩, h1, h⟩ := bs h
  obtain ⟨⟨y, δ2⟩, h2, h⟩ := bs h
  obtain ⟨⟨z, δ3⟩, h3, h⟩ := bs h
  refine ⟨x, δ1, h1, y, δ2, h2, z, δ3, h3, ?_⟩
  try dsimp only at h ⊢
  split at h
  · rename_i q; (try rw [q]); cases h; exact k
  · cases h
theorem w_chain {f g : Int → Int → Bool} {δ : DEnv} {K : OT → DEnv → Prop} (h : o2 (fChain f g fa fb fc) δ K) : mChain f g (o2 fa) (o2 fb) (o2 fc) δ K := by
  obtain ⟨r, δ', h, k⟩ := h
  obtain ⟨⟨x, δ1⟩, h1, h⟩ := bs h
  obtain ⟨⟨y, δ2⟩, h2, h⟩ := bs h
  refine ⟨x, δ1, h1, y, δ2, h2, ?_⟩
  try dsimp only at h ⊢
  split at h
  case h_2 => cases h
  rename_i i j q1 q2
  (try rw [q1, q2])
  show (if f i j = true then _ else _)
  split at h
  · rename_i hf
    rw [if_pos hf]
    obtain ⟨⟨z, δ3⟩, h3, h⟩ := bs h
    refine ⟨z, δ3, h3, ?_⟩
    try dsimp only at h ⊢
    split at h
    · rename_i q; (try rw [q]); cases h; exact k
    · cases h
  · rename_i hf
    rw [if_neg hf]
    cases h
    exact k
theorem fe_chain {f g : Int → Int → Bool} (h : ME X io p c e (mChain f g (o2 fa) (o2 fb) (o2 fc))) : ME X io p c e (o2 (fChain f g fa fb fc)) := h.weak fun δ K z => w_chain z
theorem ft_chain {f g : Int → Int → Bool} (h : MT X io p e (fun δ K => mChain f g (o2 fa) (o2 fb) (o2 fc) δ (kB K))) : MT X io p e (o2 (tV (fChain f g fa fb fc))) := h.weak fun δ K z => w_chain (w_tv z)
theorem fi_list (h : MI X io p c tg e (iL (o2 fa))) : MI X io p c tg e (o2 (iLst fa)) := h.weak fun δ K h => by
  obtain ⟨r, δ', h, k⟩ := h
  obtain ⟨⟨x, δ1⟩, h1, h⟩ := bs h
  refine ⟨x, δ1, h1, ?_⟩
  try dsimp only at h ⊢
  split at h
  · rename_i q; (try rw [q]); cases h; exact k
  · cases h
theorem fi_r1 (h : MI X io p c tg e (iR1 (o2 ra))) : MI X io p c tg e (o2 (iRa ra)) := h.weak fun δ K h => by
  obtain ⟨r, δ', h, k⟩ := h
  obtain ⟨⟨x, δ1⟩, h1, h⟩ := bs h
  refine ⟨x, δ1, h1, ?_⟩
  try dsimp only at h ⊢
  split at h
  case h_2 => cases h
  rename_i q
  (try rw [q])
  try dsimp only
  split at h
  · rename_i b; cases h; exact ⟨rOk_iff b, k⟩
  · cases h
theorem fi_r2 (h : MI X io p c tg e (iR2 (o2 ra))) : MI X io p c tg e (o2 (iRb ra)) := h.weak fun δ K h => by
  obtain ⟨r, δ', h, k⟩ := h
  obtain ⟨⟨x, δ1⟩, h1, h⟩ := bs h
  refine ⟨x, δ1, h1, ?_⟩
  try dsimp only at h ⊢
  split at h
  case h_2 => cases h
  rename_i q
  (try rw [q])
  try dsimp only
  split at h
  · rename_i b
    cases h
    rw [Bool.and_eq_true] at b
    exact ⟨⟨(rOk_iff b.1).1, (rOk_iff b.1).2, (rOk_iff b.2).1, (rOk_iff b.2).2⟩, k⟩
  · cases h
theorem fg_name (h : MG X io c tg (dName i)) : MG X io c tg (oG (gNm i)) := h.weak fun d δ K ⟨δ', h, k⟩ => by cases h; exact k
theorem fgs_nil (h : MGs X io c es dNil) : MGs X io c es (oGs gNl) := h.weak fun d δ K q94 => by
  obtain ⟨δ', h, k⟩ := q94
  unfold gNl at h
  split at h
  · cases h; exact ⟨rfl, k⟩
  · cases h
theorem fgs_cons {g : FG} {gs : FGs} (h : MGs X io c es (dCons (oG g) (oGs gs))) : MGs X io c es (oGs (gCn g gs)) := h.weak fun d δ K q95 => by
  obtain ⟨δ', h, k⟩ := q95
  unfold gCn at h
  split at h
  · obtain ⟨δ1, h1, h⟩ := bs h
    exact ⟨δ1, h1, δ', h, k⟩
  · cases h
theorem fg_tup {n : Nat} {gs : FGs} (h : MG X io c tg (dTup n (oGs gs))) : MG X io c tg (oG (gTp n gs)) := h.weak fun d δ K q96 => by
  obtain ⟨δ', h, k⟩ := q96
  unfold gTp at h
  split at h
  case h_2 => cases h
  split at h
  · rename_i q; exact ⟨q, δ', h, k⟩
  · cases h
theorem fif_nil (h : MIfs X io p es mTrue) : MIfs X io p es (o2 tYes) := h.weak fun δ K ⟨r, δ', h, k⟩ => by cases h; exact k
theorem comp_of {g : FG} {t : FT} {me : FE} {ds : List PyData} {δ0 : DEnv} {zs : List OT} {δe : DEnv} (h : compLoop g t me ds δ0 = some (zs, δe)) :
    ∃ I : Nat → List OT → DEnv → Prop, I 0 [] δ0 ∧
  (∀ (i : Nat) (d : PyData) (rs : List OT) (δ' : DEnv), ds[i]? = some d → I i rs δ' → oG g d δ' fun δ2 => o2 t δ2 fun b δ3 => if b = true then o2 me δ3 fun r δ4 => I (i + 1) (rs ++ [r]) δ4 else I (i + 1) rs δ3) ∧
  ∀ rs δ', I ds.length rs δ' → rs = zs ∧ δ' = δe := by
  refine ⟨fun i rs δ' => ∃ ys, rs ++ ys = zs ∧ compLoop g t me (ds.drop i) δ' = some (ys, δe), ⟨zs, rfl, by rw [List.drop_zero]; exact h⟩, ?_, ?_⟩
  · rintro i d rs δ' hd ⟨ys, e, hl⟩
    obtain ⟨hi, hdi⟩ := List.getElem?_eq_some_iff.mp hd
    rw [List.drop_eq_getElem_cons hi, hdi] at hl
    unfold compLoop at hl
    obtain ⟨δ1, h1, hl⟩ := bs hl
    obtain ⟨⟨b, δ2⟩, h2, hl⟩ := bs hl
    refine ⟨δ1, h1, b, δ2, h2, ?_⟩
    dsimp only at hl
    split at hl
    · rename_i hb
      rw [if_pos hb]
      obtain ⟨⟨r, δ3⟩, h3, hl⟩ := bs hl
      obtain ⟨⟨ws, δ4⟩, h4, hl⟩ := bs hl
      cases hl
      exact ⟨r, δ3, h3, ws, by rw [List.append_assoc]; exact e, h4⟩
    · rename_i hb
      rw [if_neg hb]
      exact ⟨ys, e, hl⟩
  · rintro rs δ' ⟨ys, e, hl⟩
    rw [List.drop_length] at hl
    unfold compLoop at hl
    cases hl
    exact ⟨by rw [← e, List.append_nil], rfl⟩
theorem w_comp {n : Nat} {caps : List Nat} {it : FI} {g : FG} {t : FT} {me : FE} {δ : DEnv} {K : OT → DEnv → Prop} (h : o2 (fComp n caps it g t me) δ K) : mComp n caps (o2 it) (oG g) (o2 t) (o2 me) δ K := by
  obtain ⟨r, δ', h, k⟩ := h
  obtain ⟨⟨ds, δ1⟩, h1, h⟩ := bs h
  refine ⟨ds, δ1, h1, ?_⟩
  dsimp only at h
  split at h
  case isFalse => cases h
  rename_i hz
  obtain ⟨⟨zs, δe⟩, h2, h⟩ := bs h
  cases h
  obtain ⟨I, i0, st, en⟩ := comp_of h2
  refine ⟨hz, I, i0, st, fun rs δ'' q => ?_⟩
  obtain ⟨rfl, rfl⟩ := en rs δ'' q
  exact k
theorem fe_comp {n : Nat} {caps : List Nat} {it : FI} {g : FG} {t : FT} {me : FE} (h : ME X io p c e (mComp n caps (o2 it) (oG g) (o2 t) (o2 me))) : ME X io p c e (o2 (fComp n caps it g t me)) := h.weak fun δ K z => w_comp z
end
end L2
namespace L2
open PySem PySem.Spec PyProof.Rows
section
variable {X : Cx} {io : List Nat} {p c : Bool} {e tg iter : Expr} {es : List Expr} {st : Stmt} {sts : List Stmt} {fa fb fc : FE} {ra : FA} {ta tb : FT} {i : Nat} {f g u w : FS}
theorem fs_seq (h : MSs X io sts (mSeq (oS f) (oS g))) : MSs X io sts (oS (fSeq f g)) := h.weak fun D δ h => by
  unfold oS fSeq at h; unfold mSeq oS
  cases q : f δ <;> rw [q] at h <;> exact h
theorem fss_nil (h : MSs X io sts mNext) : MSs X io sts (oS fNx) := h.weak fun D δ h => h
theorem w_wE {k : OT → DEnv → RS} {D : EndsM} {δ : DEnv} (h : oS (wE fa k) D δ) : o2 fa δ fun r δ' => (k r δ').fits D := by
  unfold oS wE at h
  split at h
  · rename_i q; exact ⟨_, _, q, h⟩
  · exact h.elim
theorem o2.imp {α : Type} {f : DEnv → Option (α × DEnv)} {δ : DEnv} {K K' : α → DEnv → Prop} (h : o2 f δ K) (k : ∀ r δ', K r δ' → K' r δ') : o2 f δ K' := let ⟨r, δ', e, q⟩ := h; ⟨r, δ', e, k r δ' q⟩
theorem ite_fits {P : Prop} [Decidable P] {a : RS} {D : EndsM} (h : (if P then a else .bad : RS).fits D) : P ∧ a.fits D := by
  split at h
  · exact ⟨‹_›, h⟩
  · exact h.elim
theorem fs_drop (h : MS X io st (mDrop (o2 fa))) : MS X io st (oS (wE fa kDrop)) := h.weak fun D δ h => w_wE h
theorem fs_ret (h : MS X io st (mRet (o2 fa))) : MS X io st (oS (wE fa kRet)) := h.weak fun D δ h => w_wE h
theorem fs_retO (h : MS X io st (mRetO i)) : MS X io st (oS (fRetO i)) := h.weak fun D δ h => by
  unfold oS fRetO at h; unfold mRetO
  split at h
  · rename_i q; (try rw [q]); exact h
  · exact h.elim
theorem fs_if (h : MS X io st (mIfS (o2 ta) (oS u) (oS w))) : MS X io st (oS (fIfS ta u w)) := h.weak fun D δ h => by
  unfold oS fIfS at h
  split at h
  · rename_i b δ' q
    refine ⟨b, δ', q, ?_⟩
    split at h
    · rename_i hb; rw [if_pos hb]; exact h
    · rename_i hb; rw [if_neg hb]; exact h
  · exact h.elim
theorem fs_set (h : MS X io st (mSet i (o2 fa))) : MS X io st (oS (wE fa (kSet i))) := h.weak fun D δ h => w_wE h
theorem fs_setS (h : MS X io st (mSetS i (o2 fa))) : MS X io st (oS (wE fa (kSetS i))) := h.weak fun D δ h => (w_wE h).imp fun r δ' q => ite_fits q
theorem fs_setO (h : MS X io st (mSetO i (o2 fa))) : MS X io st (oS (wE fa (kSetO i))) := h.weak fun D δ h => w_wE h
section
variable {n : Nat} {caps : List Nat} {o q : Nat} {it : FI} {gg : FG} {t : FT} {me : FE}
theorem fs_setcO (h : MS X io st (if true = true then mSetO i (mComp n caps (o2 it) (oG gg) (o2 t) (o2 me)) else mSet i (mComp n caps (o2 it) (oG gg) (o2 t) (o2 me)))) : MS X io st (oS (wE (fComp n caps it gg t me) (kSetO i))) :=
  h.weak fun D δ h => by rw [if_pos rfl]; exact w_comp (w_wE h)
theorem fs_setc (h : MS X io st (if false = true then mSetO i (mComp n caps (o2 it) (oG gg) (o2 t) (o2 me)) else mSet i (mComp n caps (o2 it) (oG gg) (o2 t) (o2 me)))) : MS X io st (oS (wE (fComp n caps it gg t me) (kSet i))) :=
  h.weak fun D δ h => by rw [if_neg Bool.false_ne_true]; exact w_comp (w_wE h)
end
theorem fs_append (h : MS X io st (mAppend i (o2 fa))) : MS X io st (oS (fAppend i fa)) := h.weak fun D δ h => by
  unfold oS fAppend at h; unfold mAppend
  split at h
  case h_2 => exact h.elim
  rename_i q; (try rw [q])
  refine (w_wE h).imp fun r δ' z => ?_
  split at z
  · rename_i q2; (try rw [q2]); exact ite_fits z
  · exact z.elim
theorem fs_appendO (h : MS X io st (mAppendO i (o2 fa))) : MS X io st (oS (fAppendO i fa)) := h.weak fun D δ h => by
  unfold oS fAppendO at h; unfold mAppendO
  split at h
  case h_2 => exact h.elim
  rename_i q; (try rw [q])
  refine (w_wE h).imp fun r δ' z => ?_
  split at z
  · rename_i q2; (try rw [q2]); exact ite_fits z
  · exact z.elim
theorem fs_put (h : MS X io st (mPut i (o2 fa) (o2 fb))) : MS X io st (oS (fPut i fa fb)) := h.weak fun D δ h => by
  refine (w_wE h).imp fun r δ' z => ?_
  split at z
  case h_2 => exact z.elim
  rename_i q; (try rw [q])
  refine (w_wE z).imp fun n δ2 z => ?_
  split at z
  case h_2 => exact z.elim
  rename_i k q2; (try rw [q2])
  show match ixN _ k with | some j => _ | none => _
  split at z
  · rename_i q3; (try rw [q3]); exact z
  · exact z.elim
theorem fs_put2 (h : MS X io st (mPut2 i (o2 fa) (o2 fb) (o2 fc))) : MS X io st (oS (fPut2 i fa fb fc)) := h.weak fun D δ h => by
  refine (w_wE h).imp fun r δ' z => ?_
  split at z
  case h_2 => exact z.elim
  rename_i q; (try rw [q])
  refine (w_wE z).imp fun n δ2 z => ?_
  split at z
  case h_2 => exact z.elim
  rename_i k q2; (try rw [q2])
  show match ixN _ k with | some j => _ | none => _
  split at z
  case h_2 => exact z.elim
  rename_i q3; (try rw [q3])
  try dsimp only
  split at z
  case h_2 => exact z.elim
  rename_i q4; (try rw [q4])
  refine (w_wE z).imp fun n' δ3 z => ?_
  split at z
  case h_2 => exact z.elim
  rename_i k' q5; (try rw [q5])
  show match ixN _ k' with | some j => _ | none => _
  split at z
  · rename_i q6; (try rw [q6]); exact z
  · exact z.elim
theorem forLoop_cons {gg : FG} {d : PyData} {ds : List PyData} {δ : DEnv} : forLoop gg u (d :: ds) δ = match gg d δ with
    | none => .bad
    | some δ1 => match u δ1 with
      | .nx δ2 => forLoop gg u ds δ2
      | .ct δ2 => forLoop gg u ds δ2
      | .bk δ2 => .nx δ2
      | r => r := rfl
theorem fs_for {it : FI} {gg : FG} (h : MS X io st (mFor (o2 it) (oG gg) (oS u))) : MS X io st (oS (fFor it gg u)) := h.weak fun D δ h => by
  unfold oS fFor at h
  split at h
  case h_2 => exact h.elim
  rename_i ds δ1 q
  refine ⟨ds, δ1, q, fun i δ' => (forLoop gg u (ds.drop i) δ').fits D, by show RS.fits D (forLoop gg u (ds.drop 0) δ1); rw [List.drop_zero]; exact h, fun i d δ' hd z => ?_, fun δ' z => ?_⟩
  · obtain ⟨hi, hdi⟩ := List.getElem?_eq_some_iff.mp hd
    replace z : RS.fits D (forLoop gg u (ds.drop i) δ') := z
    rw [List.drop_eq_getElem_cons hi, hdi, forLoop_cons] at z
    split at z
    case h_1 => exact z.elim
    rename_i δ2 q2
    refine ⟨δ2, q2, ?_⟩
    unfold oS
    cases q3 : u δ2 <;> rw [q3] at z <;> (try rw [q3]) <;> exact z
  · replace z : RS.fits D (forLoop gg u (ds.drop ds.length) δ') := z
    rw [List.drop_length] at z; exact z
theorem fs_while (h : MS X io st (mWhile (o2 ta) (oS u))) : MS X io st (oS (fWhile ta u)) := h.weak fun D δ h => by
  unfold oS fWhile at h
  split at h
  case isFalse => exact h.elim
  rename_i hn
  refine ⟨fun n δ' => (whileLoop ta u n δ').fits D, ⟨_, h⟩, fun n δ' z => ?_⟩
  cases n with
  | zero => exact z.elim
  | succ n =>
    unfold whileLoop at z
    split at z
    case h_1 => exact z.elim
    rename_i b δ1 q
    refine ⟨b, δ1, q, ?_⟩
    split at z
    · rename_i hb
      rw [if_pos hb]
      refine ⟨fun δ'' => (whileLoop ta u n δ'').fits D, fun δ'' y => ⟨n, Nat.lt_succ_self n, y⟩, ?_⟩
      unfold oS
      cases q3 : u δ1 <;> rw [q3] at z <;> exact z
    · rename_i hb
      rw [if_neg hb]
      exact z
theorem whileLoop_more {n m : Nat} : ∀ {δ : DEnv}, whileLoop ta u n δ ≠ .bad → whileLoop ta u (n + m) δ = whileLoop ta u n δ := by
  induction n with
  | zero => intro δ h; exact absurd rfl h
  | succ n ih =>
    intro δ h
    rw [Nat.succ_add]
    unfold whileLoop at h ⊢
    cases q : ta δ with
    | none => rfl
    | some x =>
      obtain ⟨b, δ1⟩ := x
      rw [q] at h
      try dsimp only at h ⊢
      split
      · rename_i hb
        rw [if_pos hb] at h
        cases q3 : u δ1 <;> rw [q3] at h <;> first | exact ih h | rfl
      · rfl
theorem fWhile_eq {r : RS} {δ : DEnv} (n : Nat) (h : whileLoop ta u n δ = r) (hr : r ≠ .bad) : fWhile ta u δ = r := by
  have hn : ∃ n, whileLoop ta u n δ ≠ .bad := ⟨n, by rw [h]; exact hr⟩
  unfold fWhile
  rw [dif_pos hn]
  have h1 := Classical.choose_spec hn
  have e1 := whileLoop_more (m := n) h1
  have e2 := whileLoop_more (m := Classical.choose hn) (show whileLoop ta u n δ ≠ .bad by rw [h]; exact hr)
  rw [Nat.add_comm] at e2
  rw [← e1, e2, h]
theorem fs_raise {cn : Str} : MS X io st (oS (fRaise cn)) := ms_never.weak fun D δ h => h
class NoEx (f : FS) : Prop where
  no : ∀ δ cn δ', f δ ≠ .ex cn δ'
class NoExK (k : OT → DEnv → RS) : Prop where
  no : ∀ r δ cn δ', k r δ ≠ .ex cn δ'
end
section
variable {P : Program} {w : World} {K : PySem.W.Frag} {mg : Str → Option Value} {base : Heap} {x qual : Str} {st : Stmt} {f : Addr} {fd : FuncData} {N ps : List Str} {n np nn : Nat} {S : FS}
theorem RS.told_fits {r : RS} {o : OT} {k : OT → Prop} (h : r.told = .ok o) (hk : k o) : r.fits (endsD k) := by
  cases r <;> unfold RS.told at h <;> first | (cases h; exact hk) | cases h
theorem fn_okD (F : Fun K x qual st f fd) (Sc : FnScope N ps (defScope st)) (hN : N.length = nn) (hp : np = ps.length)
    (hb : ∀ (cdv : Value) (A : Around) (outer : List Env) (s : Shared) (H : Hp) (E : XK), Room n (A.deeper (envOfC qual (defScope st) s.heap.objs.size f cdv)) → MSs (cxOf CX0 P w K mg base N qual (defScope st) f cdv A outer s H E).nox [] (defBody st) (oS S)) :
    FnOk P w K mg base CX0 (n + 1) f fd ps (spD K (sD (runD np nn S))) := by
  subst hN hp
  refine F.okD Sc (fun ds k h => ?_) fun cdv A outer s H E hr => ⟨_, hb cdv A outer s H E hr, fun ds k h => ?_⟩
  · obtain ⟨r, h, _⟩ := h
    unfold runD at h
    split at h
    · assumption
    · cases h
  · obtain ⟨r, h, hk⟩ := h
    unfold runD at h
    split at h
    · exact RS.told_fits h hk
    · cases h
end
end L2
namespace L2
open PySem PySem.Spec PyProof.Rows
noncomputable def i2 (g : Int → Int → PyData) : PyData → PyData → Option PyData := fun d e => match d, e with | .int i, .int j => some (g i j) | _, _ => none
noncomputable def i2c (c : Int → Int → Bool) (g : Int → Int → PyData) : PyData → PyData → Option PyData := fun d e => match d, e with | .int i, .int j => if c i j = true then some (g i j) else none | _, _ => none
theorem by_i2 {g : Int → Int → PyData} : ByS (i2 g) (d2I0 g) := fun d e r k h hk => by
  unfold i2 at h
  split at h
  · cases h; exact hk
  · cases h
theorem by_i2c {c : Int → Int → Bool} {C : Int → Int → Prop} {g : Int → Int → PyData} (hc : ∀ i j, c i j = true → C i j) : ByS (i2c c g) (d2I C g) := fun d e r k h hk => by
  unfold i2c at h
  split at h
  · split at h
    · cases h; exact ⟨hc _ _ ‹_›, hk⟩
    · cases h
  · cases h
noncomputable def mulB (a b : Int) : Bool := !(decide (Builtin.Int.intBits a > shortFactorBits) && decide (Builtin.Int.intBits b > shortFactorBits) && Builtin.Int.intTooBig (Builtin.Int.intBits a + Builtin.Int.intBits b))
noncomputable def divB (_ j : Int) : Bool := decide (j ≠ 0) && decide (j.natAbs.log2 < 9000)
noncomputable def modB (_ j : Int) : Bool := decide (j ≠ 0)
noncomputable def powB (i j : Int) : Bool := decide (0 ≤ j ∧ j ≤ 1000000 ∧ i.natAbs < 2 ^ 64)
theorem mulB_iff {a b : Int} : mulB a b = true ↔ IntMulOk a b := by
  unfold mulB IntMulOk
  rw [Bool.not_eq_true', Bool.not_eq_true]
noncomputable def gAdd := i2 fun i j => .int (i + j)
noncomputable def gSb := i2 fun i j => .int (i - j)
noncomputable def gMul := i2c mulB fun i j => .int (i * j)
noncomputable def gFdiv := i2c divB fun i j => .int (i.fdiv j)
noncomputable def gMod := i2c modB fun i j => .int (i.fmod j)
noncomputable def gPow := i2c powB fun i j => .int (i ^ j.toNat)
noncomputable def gLt := i2 fun i j => .bool (decide (i < j))
noncomputable def gLe := i2 fun i j => .bool (decide (i ≤ j))
noncomputable def gGt := i2 fun i j => .bool (decide (j < i))
noncomputable def gGe := i2 fun i j => .bool (decide (j ≤ i))
theorem b_add : ByS gAdd (d2I0 fun i j => .int (i + j)) := by_i2
theorem b_sub : ByS gSb (d2I0 fun i j => .int (i - j)) := by_i2
theorem b_mul : ByS gMul (d2I MulOk fun i j => .int (i * j)) := by_i2c fun i j h => ⟨mulB_iff.mp h⟩
theorem b_fdiv : ByS gFdiv (d2I DvOk fun i j => .int (i.fdiv j)) := by_i2c fun i j h => ⟨by
  unfold divB at h
  rw [Bool.and_eq_true] at h
  exact ⟨of_decide_eq_true h.1, of_decide_eq_true h.2⟩⟩
theorem b_mod : ByS gMod (d2I (fun _ j => j ≠ 0) fun i j => .int (i.fmod j)) := by_i2c fun i j h => of_decide_eq_true h
theorem b_pow : ByS gPow (d2I PwOk fun i j => .int (i ^ j.toNat)) := by_i2c fun i j h => ⟨(of_decide_eq_true h : 0 ≤ j ∧ j ≤ 1000000 ∧ i.natAbs < 2 ^ 64)⟩
theorem b_lt : ByS gLt (d2I0 fun i j => .bool (decide (i < j))) := by_i2
theorem b_ge : ByS gGe (d2I0 fun i j => .bool (decide (j ≤ i))) := by_i2
noncomputable def gEq : PyData → PyData → Option PyData := fun d e => if (SeqAt.shaped d && SeqAt.shaped e) = true then some (.bool (PyData.eqv d e)) else none
noncomputable def gNe : PyData → PyData → Option PyData := fun d e => if (SeqAt.shaped d && SeqAt.shaped e) = true then some (.bool (!PyData.eqv d e)) else none
theorem b_eq : ByS gEq dEq := fun d e r k h hk => by
  unfold gEq at h
  split at h
  · rename_i q
    rw [Bool.and_eq_true] at q
    cases h
    exact ⟨⟨q.1⟩, ⟨q.2⟩, hk⟩
  · cases h
theorem b_ne : ByS gNe dNe := fun d e r k h hk => by
  unfold gNe at h
  split at h
  · rename_i q
    rw [Bool.and_eq_true] at q
    cases h
    exact ⟨⟨q.1⟩, ⟨q.2⟩, hk⟩
  · cases h
noncomputable def gIs : PyData → PyData → Option PyData := fun d e => match e with | .none => some (.bool (isNoneD d)) | _ => none
noncomputable def gIsNot : PyData → PyData → Option PyData := fun d e => match e with | .none => some (.bool (!isNoneD d)) | _ => none
theorem b_is : ByS gIs dIsN := fun d e r k h hk => by
  unfold gIs at h
  split at h
  · cases h; exact ⟨rfl, hk⟩
  · cases h
noncomputable def gIx : PyData → PyData → Option OT := fun d e => (ixD d e).bind fun x => some (.fz x)
theorem b_ix : ByO gIx dIx := fun d e r k h hk => by
  obtain ⟨x, h1, h2⟩ := bs h
  cases h2
  unfold dIx
  rw [h1]
  exact hk
noncomputable def gCat : PyData → PyData → Option OT := fun d e => match d, e with | .list ds, .list es => if ds.length + es.length ≤ sizeLine then some (.nd ((ds ++ es).map OT.fz)) else none | _, _ => none
theorem b_cat : ByO gCat dCat := fun d e r k h hk => by
  unfold gCat at h
  split at h
  · split at h
    · cases h; exact ⟨‹_›, hk⟩
    · cases h
  · cases h
noncomputable def gLen : List PyData → Option PyData := fun ds => match ds with | [d] => (lenD d).bind fun n => some (.int n) | _ => none
theorem b_len : ∀ ds r k, gLen ds = some r → k r → dLen ds k := fun ds r k h hk => by
  unfold gLen at h
  split at h
  · obtain ⟨n, h1, h2⟩ := bs h
    cases h2
    show match lenD _ with | some n => _ | none => _
    rw [h1]
    exact hk
  · cases h
noncomputable def gAbs : List PyData → Option PyData := fun ds => match ds with | [.int i] => some (.int (if i < 0 then -i else i)) | _ => none
theorem b_abs : ∀ ds r k, gAbs ds = some r → k r → dAbs ds k := fun ds r k h hk => by
  unfold gAbs at h
  split at h
  · cases h; exact hk
  · cases h
noncomputable def gMax : List PyData → Option PyData := fun ds => match ds with | [.int i, .int j] => some (.int (if j > i then j else i)) | _ => none
noncomputable def gMin : List PyData → Option PyData := fun ds => match ds with | [.int i, .int j] => some (.int (if j < i then j else i)) | _ => none
noncomputable def gInt : List PyData → Option PyData := fun ds => match ds with | [.int i] => some (.int i) | [.bool b] => some (.int (if b then 1 else 0)) | _ => none
noncomputable def gList : List PyData → Option OT := fun ds => match ds with | [d] => (itemsD d).bind fun es => some (.nd (es.map OT.fz)) | _ => none
theorem b_list : ∀ ds r k, gList ds = some r → k r → dList ds k := fun ds r k h hk => by
  unfold gList at h
  split at h
  · obtain ⟨n, h1, h2⟩ := bs h
    cases h2
    show match itemsD _ with | some n => _ | none => _
    rw [h1]
    exact hk
  · cases h
noncomputable def intsD : List PyData → Option (List Int)
  | [] => some []
  | .int i :: r => (intsD r).bind fun l => some (i :: l)
  | _ :: _ => none
@[simp] theorem intsD_map : ∀ ns : List Int, intsD (ns.map PyData.int) = some ns
  | [] => rfl
  | n :: ns => by rw [List.map_cons, intsD, intsD_map ns]; rfl
section
variable {X : Cx} {io : List Nat} {p c : Bool} {e tg : Expr} {es : List Expr} {st : Stmt} {fa fb fc : FE} {ra : FA} {i : Nat}
noncomputable def fLR1 (a : FA) : FE := fun δ => (a δ).bind fun p => match OT.datas p.1 with | [.int j] => if rOk j = true ∧ j.toNat ≤ sizeLine then some (.nd ((rngD 0 j.toNat).map OT.fz), p.2) else none | _ => none
noncomputable def fRep (a b : FE) : FE := fun δ => (a δ).bind fun p => (b p.2).bind fun q => match q.1.data with | .int k => if rOk k = true ∧ k.toNat ≤ sizeLine then some (.nd (List.replicate k.toNat (.fz p.1.data)), p.2) else none | _ => none
end
end L2
namespace L2
open PySem PySem.Spec PyProof.Rows
variable {G : PySem.W.Frag}
section
variable {X : Cx} {io : List Nat} {p c : Bool} {e a b : Expr} {es : List Expr} {m ma mb : MEt} {mr : MAt} {pos apos cpos px py pt sp kp : Pos} {i j : Nat} {x y : Str} {fa fb : FE} {ra : FA} {st : Stmt}
noncomputable def fTupO (a : FA) : FE := fun δ => (a δ).bind fun p => if p.1.length ≤ sizeLine then some (.tp p.1, p.2) else none
noncomputable def fAppAt (i c : Nat) (e : FE) : FS := fun δ => match δ[i]? with
  | some (some (.tp ts)) => match ts[c]? with
    | some (.nd us) => wE e (fun r _ => if us.length < sizeLine then .nx (δ.set i (some (.tp (ts.set c (.nd (us ++ [.fz r.data])))))) else .bad) δ
    | _ => .bad
  | _ => .bad
noncomputable def mPar (i j : Nat) (mr : MAt) : MSt := fun D δ => mr δ fun rs δ1 => ∃ d e, OT.datas rs = [d, e] ∧ D.nx ((δ1.set i (some (.fz d))).set j (some (.fz e)))
theorem ms_par {kt k2 : Nat} {pt2 : Pos} (hc : X.calm = true) (hN : X.N.Nodup) (hi : X.N[i]? = some x) (hj : X.N[j]? = some y) (hij : i ≠ j) (hx : X.env.scope.names.lookup x = some .local) (hy : X.env.scope.names.lookup y = some .local) (ha : MA X io p true [a, b] mr)
    (hi' : i ∉ io := by decide) (hj' : j ∉ io := by decide)
    (hw : swappedStores [.Tuple [.Name x px, .Name y py] kt pt] (.Tuple [a, b] k2 pt2) X.env = pure (some [x, y]) := by rfl)
    (hs : swapsWithSole [.Tuple [.Name x px, .Name y py] kt pt] (.Tuple [a, b] k2 pt2) pos.line X.env = pure false := by rfl) :
    MS X io (.Assign [.Tuple [.Name x px, .Name y py] kt pt] (.Tuple [a, b] k2 pt2) pos) (mPar i j mr) := by
  obtain ⟨_, A, s⟩ := ha
  refine ⟨_, ps_par hc hN hi hj hij hx hy A hw hs, fun C H σ δ fp ex D D' R h E => ?_⟩
  refine s C H σ δ fp ex _ _ R h fun H1 vs rs δ1 fp1 new r1 h1 => ?_
  obtain ⟨d, e, hd, h1⟩ := h1
  have q := (r1.das R).wide (L' := Lf C fp1 ex) fun a l _ => l rfl
  rw [hd] at q
  cases q with
  | cons q1 q =>
    cases q with
    | cons q2 q =>
      cases q
      obtain ⟨fp2, R2, k2⟩ := r1.base.putD hi' q1
      have z := r1.base.kp_das k2 (.cons q2 .nil)
      cases z with
      | cons q2' _ =>
        obtain ⟨fp3, R3, k3⟩ := R2.putD hj' q2'
        exact ⟨_, _, rfl, E.nx _ _ _ fp3 R3 (r1.stp.kp.trans (k2.trans k3)) h1⟩
noncomputable def fPar (i j : Nat) (a : FA) : FS := fun δ => match a δ with
  | some (rs, δ1) => match OT.datas rs with
    | [d, e] => .nx ((δ1.set i (some (.fz d))).set j (some (.fz e)))
    | _ => .bad
  | none => .bad
theorem fs_par (h : MS X io st (mPar i j (o2 ra))) : MS X io st (oS (fPar i j ra)) := h.weak fun D δ h => by
  unfold oS fPar at h
  split at h
  case h_2 => exact h.elim
  rename_i rs δ1 q
  refine ⟨rs, δ1, q, ?_⟩
  split at h
  · rename_i q2; exact ⟨_, _, q2, h⟩
  · exact h.elim
end
class NoStar (e : Expr) : Prop where
  h : ∀ es env, starEach (e :: es) env = (false, eval e env) :: starEach es env
instance nx_Name {x : Str} {p : Pos} : NoStar (.Name x p) := ⟨fun _ _ => rfl⟩
instance nx_Constant {x k} {p : Pos} : NoStar (.Constant x k p) := ⟨fun _ _ => rfl⟩
instance nx_BinOp {a o b} {p : Pos} : NoStar (.BinOp a o b p) := ⟨fun _ _ => rfl⟩
instance nx_Call {f a k} {p : Pos} : NoStar (.Call f a k p) := ⟨fun _ _ => rfl⟩
instance nx_Subscript {a b} {p : Pos} : NoStar (.Subscript a b p) := ⟨fun _ _ => rfl⟩
instance nx_ListComp {a b s} {p : Pos} : NoStar (.ListComp a b s p) := ⟨fun _ _ => rfl⟩
theorem fa_cons2 {X : Cx} {io : List Nat} {p p' c c' p2 c2 : Bool} {e : Expr} {es : List Expr} {fa : FE} {ra : FA} [NoStar e] (ha : ME X io p c e (o2 fa)) (hr : MA X io p' c' es (o2 ra)) (hc : p' = true ∨ c = true := by first | exact Or.inl rfl | exact Or.inr rfl) (h2 : (p && p') = p2 := by rfl) (h3 : (c && c') = c2 := by rfl) : MA X io p2 c2 (e :: es) (o2 (aCons fa ra)) :=
  h2 ▸ h3 ▸ fa_cons (ma_cons ha hr hc (NoStar.h es X.env))
theorem fe_as {X : Cx} {io : List Nat} {p p' c c' : Bool} {e : Expr} {m : MEt} (h : ME X io p c e m) (h2 : p = p' := by rfl) (h3 : c = c' := by rfl) : ME X io p' c' e m := h2 ▸ h3 ▸ h
theorem fn_none {P : Program} {w : World} {K : PySem.W.Frag} {mg : Str → Option Value} {base : Heap} {CX : CXT} {k : Nat} {f : Addr} {fd : FuncData} {ps : List Str} {S : List PyData → (OT → Prop) → Prop} (h : ∀ ds k, ¬ S ds k) : FnOk P w K mg base CX k f fd ps (spD K S) := by
  have h' : ∀ {vs H Q E}, spD K S vs H Q E → False := fun q => by
    obtain ⟨_, ds, k, _, z, _⟩ := q
    exact h ds k z
  exact ⟨fun vs H Q E q => (h' q).elim, fun A outer s H args us vs Q E _ _ _ _ q => (h' q).elim⟩
end L2
namespace L2
open PySem PySem.Spec PyProof.Rows
variable {G : PySem.W.Frag}
section
variable {X : Cx} {io : List Nat} {p c : Bool} {e a b : Expr} {es : List Expr} {m ma mb : MEt} {mr : MAt} {pos apos cpos px py pt sp kp : Pos} {i j : Nat} {x y : Str} {fa fb : FE} {ra : FA} {st : Stmt} {u : FS}
end
end L2
namespace L2
open PySem PySem.Spec PyProof.Rows
structure Gives (P : Program) (w : World) (it : Addr) (f : List Addr) (St : Heap → Prop) (x : Value) (St' : Heap → Prop) : Prop where
  mem : it ∈ f
  run : ∀ {A : Around} {E : Value → Shared → Prop} {s : Shared} {Q : Value → Shared → Prop}, St s.heap → (∀ h', St' h' → Heap.SameBut it s.heap h' → Q x { s with heap := h' }) → wpAny (model P w) A (Builtin.SmallTypes.nextOf (.ref it)) Q E s
  keep : ∀ h h', (∀ c ∈ f, ∀ o, h.get? c = some o → h'.get? c = some o) → St h → St h'
  keep' : ∀ h h', (∀ c ∈ f, ∀ o, h.get? c = some o → h'.get? c = some o) → St' h → St' h'
structure NoMore (P : Program) (w : World) (it : Addr) (f : List Addr) (St : Heap → Prop) : Prop where
  mem : it ∈ f
  run : ∀ {A : Around} {E : Value → Shared → Prop} {s : Shared} {Q : Value → Shared → Prop}, A.handled = none → St s.heap → (∀ h' e, Heap.ExtBut it s.heap h' → (∃ o, h'.get? e = some o ∧ o.cls = .type "StopIteration") → E (.ref e) { s with heap := h' }) → wpAny (model P w) A (Builtin.SmallTypes.nextOf (.ref it)) Q E s
  keep : ∀ h h', (∀ c ∈ f, ∀ o, h.get? c = some o → h'.get? c = some o) → St h → St h'
structure ZA (z TI TO i1 i2 : Addr) (f1 f2 : List Addr) : Prop where
  TIz : TI ≠ z
  TOz : TO ≠ z
  a1 : ∀ c ∈ f1, c ≠ z ∧ c ≠ TO ∧ c ≠ i2
  a2 : ∀ c ∈ f2, c ≠ z ∧ c ≠ TO ∧ c ≠ i1
section
variable {P : Program} {w : World} {A : Around} {E : Value → Shared → Prop} {s : Shared}
theorem put_pair {T : Addr} {a b x : Value} {k : Nat} {Q : Unit → Shared → Prop} (hT : IsPair s.heap T a b) (h : ∀ h', h'.get? T = some { cls := .type "tuple", data := .seq ((#[a, b] : Array Value).setIfInBounds k x) } → Heap.SameBut T s.heap h' → Q () { s with heap := h' }) :
    wpAny (model P w) A (updateSeq T (·.setIfInBounds k x)) Q E s := wpAny_updateSeq_pair hT h
theorem zipG_item {z TI TO i1 i2 : Addr} {f1 f2 : List Addr} {S1 T1 S2 T2 : Heap → Prop} {x y a b : Value} {Q : Value → Shared → Prop} (D : ZA z TI TO i1 i2 f1 f2) (G1 : Gives P w i1 f1 S1 x T1) (G2 : Gives P w i2 f2 S2 y T2)
    (hz : IsZip s.heap z TI TO .none) (hTI : IsPair s.heap TI (.ref i1) (.ref i2)) (hTO : IsPair s.heap TO a b) (h1 : S1 s.heap) (h2 : S2 s.heap)
    (hQ : ∀ h', IsZip h' z TI TO (rawInt s.heap.objs.size) → IsPair h' TO x y → T1 h' → T2 h' → IsPair h' s.heap.objs.size x y →
      (∀ c o, c ∉ [z, TO, i1, i2] → s.heap.get? c = some o → h'.get? c = some o) → Q (.ref s.heap.objs.size) { s with heap := h' }) :
    wpAny (model P w) A (Builtin.«zip.__next__» ⟨[.ref z], []⟩) (fun fin s' => ∃ v, fin = .done (.ret v) ∧ Q v s') E s := by
  obtain ⟨i1z, i1O, i12⟩ := D.a1 i1 G1.mem
  obtain ⟨i2z, i2O, i21⟩ := D.a2 i2 G2.mem
  have r1 : z ∉ f1 ∧ TO ∉ f1 ∧ i2 ∉ f1 := ⟨fun m => (D.a1 z m).1 rfl, fun m => (D.a1 TO m).2.1 rfl, fun m => (D.a1 i2 m).2.2 rfl⟩
  have r2 : z ∉ f2 ∧ TO ∉ f2 ∧ i1 ∉ f2 := ⟨fun m => (D.a2 z m).1 rfl, fun m => (D.a2 TO m).2.1 rfl, fun m => (D.a2 i1 m).2.2 rfl⟩
  have st : ∀ {b : Addr} {h h' : Heap} {f : List Addr}, Heap.SameBut b h h' → b ∉ f → ∀ c ∈ f, ∀ o, h.get? c = some o → h'.get? c = some o := fun sb hb c hc o e => sb.extBut _ _ (fun q => hb (q ▸ hc)) e
  show wpAny _ _ (field (.ref z) 2 >>= _) _ _ _
  refine wpAny_bind (wpAny_field hz rfl (x := .bool false) rfl ?_)
  show wpAny _ _ (field (.ref z) 3 >>= _) _ _ _
  refine wpAny_bind (wpAny_field hz rfl (x := .ref TI) rfl (wpAny_bind (wpAny_seqItems hTI rfl ?_)))
  show wpAny _ _ (Builtin.SmallTypes.ownedTupleIsFree (.ref z) >>= _) _ _ _
  refine wpAny_bind ?_
  unfold Builtin.SmallTypes.ownedTupleIsFree
  refine wpAny_bind (wpAny_field hz rfl (x := .none) rfl (wpAny_pure ?_))
  simp only [if_true]
  refine wpAny_bind (wpAny_rule (wpAny_bind (wpAny_field hz rfl (x := .ref TO) rfl (wpAny_bind (wpAny_setField_rec hz (by simp) fun h3 z3 b3 => ?_)))))
  replace z3 : IsZip h3 z TI TO .ellipsis := z3
  refine wpAny_bind ?_
  simp only [List.zipIdx_cons, List.zipIdx_nil, List.forIn_cons, List.forIn_nil]
  refine wpAny_bind (wpAny_bind (wpAny_onRaise ?_))
  show wpAny _ _ (Builtin.SmallTypes.nextOf (.ref i1) >>= _) _ _ _
  refine wpAny_bind (G1.run (s := { s with heap := h3 }) (G1.keep _ _ (st b3 r1.1) h1) fun h4 k4 b4 => wpAny_pure ?_)
  have o4 : IsPair h4 TO a b := b4.extBut _ _ i1O.symm (b3.extBut _ _ D.TOz hTO)
  refine wpAny_bind (wpAny_seqItems o4 rfl (wpAny_bind (put_pair (s := { s with heap := h4 }) o4 fun h5 o5 b5 => wpAny_bind (wpAny_letGo (wpAny_pure ?_)))))
  replace o5 : IsPair h5 TO x b := o5
  refine wpAny_bind (wpAny_bind (wpAny_onRaise ?_))
  show wpAny _ _ (Builtin.SmallTypes.nextOf (.ref i2) >>= _) _ _ _
  refine wpAny_bind (G2.run (s := { s with heap := h5 }) (G2.keep _ _ (st b5 r2.2.1) (G2.keep _ _ (st b4 r2.2.2) (G2.keep _ _ (st b3 r2.1) h2))) fun h6 k6 b6 => wpAny_pure ?_)
  have o6 : IsPair h6 TO x b := b6.extBut _ _ i2O.symm o5
  refine wpAny_bind (wpAny_seqItems o6 rfl (wpAny_bind (put_pair (s := { s with heap := h6 }) o6 fun h7 o7 b7 => wpAny_bind (wpAny_letGo (wpAny_pure (wpAny_pure ?_))))))
  replace o7 : IsPair h7 TO x y := o7
  refine wpAny_bind (wpAny_seqItems o7 rfl (wpAny_bind (wpAny_newTuple ?_)))
  have sz : h7.objs.size = s.heap.objs.size := by rw [b7.1, b6.1, b5.1, b4.1, b3.1]
  have z7 : IsZip h7 z TI TO .ellipsis := b7.extBut _ _ D.TOz.symm (b6.extBut _ _ i2z.symm (b5.extBut _ _ D.TOz.symm (b4.extBut _ _ i1z.symm z3)))
  have t1 : T1 h7 := G1.keep' _ _ (st b7 r1.2.1) (G1.keep' _ _ (st b6 r1.2.2) (G1.keep' _ _ (st b5 r1.2.1) k4))
  have t2 : T2 h7 := G2.keep' _ _ (st b7 r2.2.1) k6
  have old : ∀ c o, c ∉ [z, TO, i1, i2] → s.heap.get? c = some o → h7.get? c = some o := fun c o n e => by
    simp only [List.mem_cons, List.not_mem_nil, or_false, not_or] at n
    exact b7.extBut _ _ n.2.1 (b6.extBut _ _ n.2.2.2 (b5.extBut _ _ n.2.1 (b4.extBut _ _ n.2.2.1 (b3.extBut _ _ n.1 e))))
  show wpAny _ _ (Builtin.SmallTypes.ownedTupleHandOut (.ref z) (.ref h7.objs.size) >>= _) _ _ _
  refine wpAny_bind ?_
  unfold Builtin.SmallTypes.ownedTupleHandOut
  have zp : IsZip (h7.push { cls := .type "tuple", data := .seq #[x, y] }) z TI TO .ellipsis := Heap.get?_push_of_some _ z7
  refine wpAny_bind (wpAny_setField_rec zp (by simp) fun h8 z8 b8 => ?_)
  replace z8 : IsZip h8 z TI TO (rawInt h7.objs.size) := z8
  refine wpAny_setField_rec z8 (by simp) fun h9 z9 b9 => ?_
  replace z9 : IsZip h9 z TI TO (rawInt h7.objs.size) := z9
  have up : ∀ c o, c ≠ z → h7.get? c = some o → h9.get? c = some o := fun c o n e => b9.extBut _ _ n (b8.extBut _ _ n (Heap.get?_push_of_some _ e))
  have nz : h7.objs.size ≠ z := Nat.ne_of_gt (Heap.lt_size z7)
  have p9 : IsPair h9 h7.objs.size x y := b9.extBut _ _ nz (b8.extBut _ _ nz (Heap.get?_push_size _ rfl))
  refine wpAny_pure ⟨_, rfl, ?_⟩
  show Q (.ref h7.objs.size) _
  rw [sz] at z9 p9 ⊢
  exact hQ h9 z9 (up _ _ D.TOz o7) (G1.keep' _ _ (fun c hc o e => up c o (fun q => r1.1 (q ▸ hc)) e) t1) (G2.keep' _ _ (fun c hc o e => up c o (fun q => r2.1 (q ▸ hc)) e) t2) p9 fun c o n e => up c o (fun q => n (by simp [q])) (old c o n e)
theorem zipG_end {z TI TO i1 i2 : Addr} {f1 f2 : List Addr} {S1 T1 S2 : Heap → Prop} {a b : Value} {Q : Fin → Shared → Prop} (hh : A.handled = none) (D : ZA z TI TO i1 i2 f1 f2) (g1 : NoMore P w i1 f1 S1 ∨ (∃ x, Gives P w i1 f1 S1 x T1) ∧ NoMore P w i2 f2 S2)
    (hz : IsZip s.heap z TI TO .none) (hTI : IsPair s.heap TI (.ref i1) (.ref i2)) (hTO : IsPair s.heap TO a b) (h1 : S1 s.heap) (h2 : S2 s.heap)
    (hE : ∀ h' e, (∀ c o, c ∉ [z, TO, i1, i2] → s.heap.get? c = some o → h'.get? c = some o) → (∃ o, h'.get? e = some o ∧ o.cls = .type "StopIteration") → E (.ref e) { s with heap := h' }) :
    wpAny (model P w) A (Builtin.«zip.__next__» ⟨[.ref z], []⟩) Q E s := by
  have r1 : z ∉ f1 ∧ TO ∉ f1 ∧ i2 ∉ f1 := ⟨fun m => (D.a1 z m).1 rfl, fun m => (D.a1 TO m).2.1 rfl, fun m => (D.a1 i2 m).2.2 rfl⟩
  have r2 : z ∉ f2 ∧ TO ∉ f2 ∧ i1 ∉ f2 := ⟨fun m => (D.a2 z m).1 rfl, fun m => (D.a2 TO m).2.1 rfl, fun m => (D.a2 i1 m).2.2 rfl⟩
  have st : ∀ {b : Addr} {h h' : Heap} {f : List Addr}, Heap.SameBut b h h' → b ∉ f → ∀ c ∈ f, ∀ o, h.get? c = some o → h'.get? c = some o := fun sb hb c hc o e => sb.extBut _ _ (fun q => hb (q ▸ hc)) e
  show wpAny _ _ (field (.ref z) 2 >>= _) _ _ _
  refine wpAny_bind (wpAny_field hz rfl (x := .bool false) rfl ?_)
  show wpAny _ _ (field (.ref z) 3 >>= _) _ _ _
  refine wpAny_bind (wpAny_field hz rfl (x := .ref TI) rfl (wpAny_bind (wpAny_seqItems hTI rfl ?_)))
  show wpAny _ _ (Builtin.SmallTypes.ownedTupleIsFree (.ref z) >>= _) _ _ _
  refine wpAny_bind ?_
  unfold Builtin.SmallTypes.ownedTupleIsFree
  refine wpAny_bind (wpAny_field hz rfl (x := .none) rfl (wpAny_pure ?_))
  simp only [if_true]
  refine wpAny_bind (wpAny_rule (wpAny_bind (wpAny_field hz rfl (x := .ref TO) rfl (wpAny_bind (wpAny_setField_rec hz (by simp) fun h3 z3 b3 => ?_)))))
  replace z3 : IsZip h3 z TI TO .ellipsis := z3
  refine wpAny_bind ?_
  simp only [List.zipIdx_cons, List.zipIdx_nil, List.forIn_cons, List.forIn_nil]
  refine wpAny_bind (wpAny_bind (wpAny_onRaise ?_))
  show wpAny _ _ (Builtin.SmallTypes.nextOf (.ref i1) >>= _) _ _ _
  rcases g1 with G1 | ⟨⟨x, G1⟩, G2⟩
  · obtain ⟨i1z, i1O, i12⟩ := D.a1 i1 G1.mem
    refine wpAny_bind (G1.run (s := { s with heap := h3 }) hh (G1.keep _ _ (st b3 r1.1) h1) fun h4 e b4 he => ?_)
    obtain ⟨oe, hoe, hce⟩ := he
    have z4 : IsZip h4 z TI TO .ellipsis := b4 _ _ i1z.symm z3
    have ez : e ≠ z := fun q => by subst q; rw [z4] at hoe; cases hoe; simp at hce
    refine wpAny_setField_rec z4 (by simp) fun h5 _ b5 => hE h5 e (fun c o n q => ?_) ⟨oe, b5.extBut _ _ ez hoe, hce⟩
    simp only [List.mem_cons, List.not_mem_nil, or_false, not_or] at n
    exact b5.extBut _ _ n.1 (b4 _ _ n.2.2.1 (b3.extBut _ _ n.1 q))
  · obtain ⟨i1z, i1O, i12⟩ := D.a1 i1 G1.mem
    obtain ⟨i2z, i2O, i21⟩ := D.a2 i2 G2.mem
    refine wpAny_bind (G1.run (s := { s with heap := h3 }) (G1.keep _ _ (st b3 r1.1) h1) fun h4 k4 b4 => wpAny_pure ?_)
    have o4 : IsPair h4 TO a b := b4.extBut _ _ i1O.symm (b3.extBut _ _ D.TOz hTO)
    refine wpAny_bind (wpAny_seqItems o4 rfl (wpAny_bind (put_pair (s := { s with heap := h4 }) o4 fun h5 o5 b5 => wpAny_bind (wpAny_letGo (wpAny_pure ?_)))))
    refine wpAny_bind (wpAny_bind (wpAny_onRaise ?_))
    show wpAny _ _ (Builtin.SmallTypes.nextOf (.ref i2) >>= _) _ _ _
    refine wpAny_bind (G2.run (s := { s with heap := h5 }) hh (G2.keep _ _ (st b5 r2.2.1) (G2.keep _ _ (st b4 r2.2.2) (G2.keep _ _ (st b3 r2.1) h2))) fun h6 e b6 he => ?_)
    obtain ⟨oe, hoe, hce⟩ := he
    have z6 : IsZip h6 z TI TO .ellipsis := b6 _ _ i2z.symm (b5.extBut _ _ D.TOz.symm (b4.extBut _ _ i1z.symm z3))
    have ez : e ≠ z := fun q => by subst q; rw [z6] at hoe; cases hoe; simp at hce
    refine wpAny_setField_rec z6 (by simp) fun h7 _ b7 => hE h7 e (fun c o n q => ?_) ⟨oe, b7.extBut _ _ ez hoe, hce⟩
    simp only [List.mem_cons, List.not_mem_nil, or_false, not_or] at n
    exact b7.extBut _ _ n.1 (b6 _ _ n.2.2.2 (b5.extBut _ _ n.2.1 (b4.extBut _ _ n.2.2.1 (b3.extBut _ _ n.1 q))))
theorem nextG_item {z TI TO i1 i2 : Addr} {f1 f2 : List Addr} {S1 T1 S2 T2 : Heap → Prop} {x y a b : Value} {Q : Option Value → Shared → Prop} (D : ZA z TI TO i1 i2 f1 f2) (G1 : Gives P w i1 f1 S1 x T1) (G2 : Gives P w i2 f2 S2 y T2)
    (hz : IsZip s.heap z TI TO .none) (hTI : IsPair s.heap TI (.ref i1) (.ref i2)) (hTO : IsPair s.heap TO a b) (h1 : S1 s.heap) (h2 : S2 s.heap)
    (hQ : ∀ h', IsZip h' z TI TO (rawInt s.heap.objs.size) → IsPair h' TO x y → T1 h' → T2 h' → IsPair h' s.heap.objs.size x y →
      (∀ c o, c ∉ [z, TO, i1, i2] → s.heap.get? c = some o → h'.get? c = some o) → Q (some (.ref s.heap.objs.size)) { s with heap := h' }) : wpAny (model P w) A (pyNext (.ref z)) Q E s := by
  have hT : s.TypeIs (.ref z) "zip" := ⟨_, hz, rfl⟩
  unfold pyNext
  exact wpAny_bind (wpAny_attempt (wpAny_callSpecial?_slot (name := Str.ofString "__next__") hT F.slot_zip_next (wpAny_call_entry F.slot_zip_next hT F.entry_zip_next (zipG_item D G1 G2 hz hTI hTO h1 h2 fun h' a1 a2 a3 a4 a5 a6 => wpAny_pure (hQ h' a1 a2 a3 a4 a5 a6)) (F.args_zip_next_1 _))))
theorem nextG_end {z TI TO i1 i2 : Addr} {f1 f2 : List Addr} {S1 T1 S2 : Heap → Prop} {a b : Value} {Q : Option Value → Shared → Prop} (hh : A.handled = none) (D : ZA z TI TO i1 i2 f1 f2) (g1 : NoMore P w i1 f1 S1 ∨ (∃ x, Gives P w i1 f1 S1 x T1) ∧ NoMore P w i2 f2 S2)
    (hz : IsZip s.heap z TI TO .none) (hTI : IsPair s.heap TI (.ref i1) (.ref i2)) (hTO : IsPair s.heap TO a b) (h1 : S1 s.heap) (h2 : S2 s.heap)
    (hQ : ∀ h', (∀ c o, c ∉ [z, TO, i1, i2] → s.heap.get? c = some o → h'.get? c = some o) → Q none { s with heap := h' }) : wpAny (model P w) A (pyNext (.ref z)) Q E s := by
  have hT : s.TypeIs (.ref z) "zip" := ⟨_, hz, rfl⟩
  unfold pyNext
  refine wpAny_bind (wpAny_attempt (wpAny_callSpecial?_slot (name := Str.ofString "__next__") hT F.slot_zip_next (wpAny_call_entry F.slot_zip_next hT F.entry_zip_next (zipG_end hh D g1 hz hTI hTO h1 h2 fun h' e hk he => ?_) (F.args_zip_next_1 _))))
  obtain ⟨o, ho, hc⟩ := he
  exact wpAny_bind (wpAny_isInstance (T := "StopIteration") (b := true) ⟨o, ho, hc⟩ isSubtype_stop (wpAny_pure (hQ _ hk)))
theorem gives_tup {it t : Addr} {i : Nat} {items : Array Value} {x : Value} (hx : items[i]? = some x) : Gives P w it [it, t] (fun h => IsTupIter h it t i ∧ IsTup h t items) x (fun h => IsTupIter h it t (i + 1)) where
  mem := by simp
  run := fun {A E s Q} ⟨hit, ht⟩ hQ => by
    obtain ⟨o, ho, hc, hd⟩ := id hit
    obtain ⟨ol, hol, _, nl, hdl⟩ := ht
    unfold Builtin.SmallTypes.nextOf
    refine wpAny_bind (wpAny_callSpecial?_slot (name := Str.ofString "__next__") hit.typeIs slot_tupleiter_next (wpAny_call_entry slot_tupleiter_next hit.typeIs entry_tupleiter_next ?_ (args_tupleiter_next _)))
    show wpAny _ _ (field (.ref it) 0 >>= _) _ _ s
    refine wpAny_bind (wpAny_field ho hd (x := .ref t) rfl ?_)
    show wpAny _ _ (if (Value.ref t == Value.none) = true then _ else _) _ _ s
    rw [if_neg (show ¬ ((Value.ref t == Value.none) = true) from Bool.false_ne_true)]
    show wpAny _ _ (field (.ref it) 1 >>= _) _ _ s
    refine wpAny_bind (wpAny_field ho hd (x := .int i 0) rfl ?_)
    show wpAny _ _ (seqItems? (.ref t) >>= _) _ _ s
    refine wpAny_bind (wpAny_seqItems hol hdl ?_)
    simp only [Int.toNat_natCast, hx]
    refine wpAny_bind (wpAny_setField ho hd (by simp) (wpAny_pure ⟨x, rfl, wpAny_pure (hQ _ ?_ (Heap.SameBut.update ..))⟩))
    exact ⟨_, Heap.get?_update_self _ ho (Obj.isFreed_of_fields (Obj.data_mapFields hd _)), (Obj.cls_mapFields ..).trans hc, by rw [Obj.data_mapFields hd]; simp [rawInt]⟩
  keep := fun h h' k ⟨⟨o, a1, a2⟩, ⟨o', b1, b2⟩⟩ => ⟨⟨o, k it (by simp) o a1, a2⟩, ⟨o', k t (by simp) o' b1, b2⟩⟩
  keep' := fun h h' k ⟨o, a1, a2⟩ => ⟨o, k it (by simp) o a1, a2⟩
theorem ends_tup {it t : Addr} {i : Nat} {items : Array Value} (hx : items[i]? = none) : NoMore P w it [it, t] (fun h => IsTupIter h it t i ∧ IsTup h t items) where
  mem := by simp
  run := fun {A E s Q} hh ⟨hit, ht⟩ hE => by
    obtain ⟨o, ho, hc, hd⟩ := id hit
    obtain ⟨ol, hol, _, nl, hdl⟩ := ht
    unfold Builtin.SmallTypes.nextOf
    refine wpAny_bind (wpAny_callSpecial?_slot (name := Str.ofString "__next__") hit.typeIs slot_tupleiter_next (wpAny_call_entry slot_tupleiter_next hit.typeIs entry_tupleiter_next ?_ (args_tupleiter_next _)))
    show wpAny _ _ (field (.ref it) 0 >>= _) _ _ s
    refine wpAny_bind (wpAny_field ho hd (x := .ref t) rfl ?_)
    show wpAny _ _ (if (Value.ref t == Value.none) = true then _ else _) _ _ s
    rw [if_neg (show ¬ ((Value.ref t == Value.none) = true) from Bool.false_ne_true)]
    show wpAny _ _ (field (.ref it) 1 >>= _) _ _ s
    refine wpAny_bind (wpAny_field ho hd (x := .int i 0) rfl ?_)
    show wpAny _ _ (seqItems? (.ref t) >>= _) _ _ s
    refine wpAny_bind (wpAny_seqItems hol hdl ?_)
    simp only [Int.toNat_natCast, hx]
    refine wpAny_bind (wpAny_rule (wpAny_bind (wpAny_setField ho hd (by simp) ?_)))
    show wpAny _ _ (newExc (.type "StopIteration") [] >>= _) _ _ _
    refine wpAny_bind ?_
    simp only [newExc, newTuple]
    refine wpAny_bind (wpAny_newObj_type ?_ (by size_fits))
    refine wpAny_bind (m := firstArgMember _ _) (wpAny_of_eq (a := Value.none) (by first | rfl | (simp only [firstArgMember]; rfl)) ?_)
    refine wpAny_newObj_type ?_ (by size_fits)
    simp only [raiseNew]
    refine wpAny_bind (wpAny_handled ?_)
    first | rw [show A.in1.handled = none from hh] | rw [hh]
    exact wpAny_bind (wpAny_pure (wpAny_throw (hE _ _ (((Heap.SameBut.update ..).extBut.push _).push _) ⟨_, Heap.get?_push_size _ rfl, rfl⟩)))
  keep := fun h h' k ⟨⟨o, a1, a2⟩, ⟨o', b1, b2⟩⟩ => ⟨⟨o, k it (by simp) o a1, a2⟩, ⟨o', k t (by simp) o' b1, b2⟩⟩
end
noncomputable abbrev zT1 (h : Heap) (a : Addr) : Heap := h.push { cls := .type "tuple_iterator", data := .fields #[.ref a, .int 0 0] }
noncomputable abbrev zT2 (h : Heap) (a b : Addr) : Heap := (zT1 h a).push { cls := .type "tuple_iterator", data := .fields #[.ref b, .int 0 0] }
noncomputable abbrev zT3 (h : Heap) (a b : Addr) : Heap := (zT2 h a b).push { cls := .type "tuple", data := .seq #[.ref h.objs.size, .ref (zT1 h a).objs.size] }
noncomputable abbrev zT4 (h : Heap) (a b : Addr) : Heap := (zT3 h a b).push { cls := .type "tuple", data := .seq #[.none, .none] }
noncomputable abbrev zT5 (h : Heap) (a b : Addr) : Heap := (zT4 h a b).push { cls := .type "zip", data := .fields #[.none, .bool false, .bool false, .ref (zT2 h a b).objs.size, .ref (zT3 h a b).objs.size] }
theorem new_zipT (a b : Addr) (xs ys : Array Value) :
    Meets (Builtin.«zip.__new__» ⟨[.type "zip", .ref a, .ref b], []⟩) (fun _ R s => IsTup s.heap a xs ∧ IsTup s.heap b ys ∧ R (.ok (.ret (.ref (zT4 s.heap a b).objs.size))) { s with heap := zT5 s.heap a b }) :=
  .of_wp fun prog w A R s h => by
    obtain ⟨hp, g, d, tk, os⟩ := s
    obtain ⟨h1, h2, h⟩ := h
    have hsub := sub_zip
    have hL1 : IsTup (Shared.heap ⟨hp, g, d, tk, os⟩) a xs := h1
    have hL2 : IsTup (Shared.heap ⟨hp.push { cls := .type "tuple_iterator", data := .fields #[.ref a, .int 0 0] }, g, d, tk, os⟩) b ys := h2.push _
    wp_walk using iter_tuple hL1, iter_tuple hL2
    exact ⟨_, rfl, h⟩
section
variable {P : Program} {w : World} {A : Around} {E : Value → Shared → Prop} {s : Shared}
theorem call_zipT {a b : Addr} {xs ys : Array Value} {Q : Value → Shared → Prop} (h1 : IsTup s.heap a xs) (h2 : IsTup s.heap b ys)
    (h : ∀ h' n, n = s.heap.objs.size → IsZip h' (n + 4) (n + 2) (n + 3) .none → IsPair h' (n + 2) (.ref n) (.ref (n + 1)) → IsPair h' (n + 3) .none .none → IsTupIter h' n a 0 → IsTupIter h' (n + 1) b 0 →
      (∀ c o, s.heap.get? c = some o → h'.get? c = some o) → Q (.ref (n + 4)) { s with heap := h' }) : wpAny (model P w) A (call (.type "zip") [.ref a, .ref b]) Q E s := by
  refine callType_new F.called_zip (by decide) (F.typeCall_zip_2 _ _) (F.newCall_zip_2 _ _) (fun obj => F.args_object_init_3 obj _ _) F.entry_zip_new (new_zipT a b xs ys) ⟨h1, h2, ?_⟩
  have e1 : (zT1 s.heap a).objs.size = s.heap.objs.size + 1 := Heap.size_push ..
  have e2 : (zT2 s.heap a b).objs.size = s.heap.objs.size + 2 := by rw [Heap.size_push, e1]
  have e3 : (zT3 s.heap a b).objs.size = s.heap.objs.size + 3 := by rw [Heap.size_push, e2]
  have e4 : (zT4 s.heap a b).objs.size = s.heap.objs.size + 4 := by rw [Heap.size_push, e3]
  have up : ∀ {c o}, (zT1 s.heap a).get? c = some o → (zT5 s.heap a b).get? c = some o := fun x => Heap.get?_push_of_some _ (Heap.get?_push_of_some _ (Heap.get?_push_of_some _ (Heap.get?_push_of_some _ x)))
  have p5 : (zT5 s.heap a b).get? (zT4 s.heap a b).objs.size = some _ := Heap.get?_push_size _ rfl
  have p4 : (zT5 s.heap a b).get? (zT3 s.heap a b).objs.size = some _ := Heap.get?_push_of_some _ (Heap.get?_push_size _ rfl)
  have p3 : (zT5 s.heap a b).get? (zT2 s.heap a b).objs.size = some _ := Heap.get?_push_of_some _ (Heap.get?_push_of_some _ (Heap.get?_push_size _ rfl))
  have p2 : (zT5 s.heap a b).get? (zT1 s.heap a).objs.size = some _ := Heap.get?_push_of_some _ (Heap.get?_push_of_some _ (Heap.get?_push_of_some _ (Heap.get?_push_size _ rfl)))
  have p1 : (zT5 s.heap a b).get? s.heap.objs.size = some _ := up (Heap.get?_push_size _ rfl)
  show _ ∧ _
  rw [e2, e3, e4] at p5
  rw [e1, e2] at p3
  rw [e3] at p4
  rw [e1] at p2
  rw [e4]
  exact ⟨⟨_, p5, rfl⟩, h _ _ rfl p5 p3 p4 ⟨_, p1, rfl, rfl⟩ ⟨_, p2, rfl, rfl⟩ fun c o x => up (Heap.get?_push_of_some _ x)⟩
end
theorem nn {n a b : Nat} (h : a ≠ b) : n + a ≠ n + b := fun e => h (Nat.add_left_cancel e)
theorem n0 {n b : Nat} (h : 0 ≠ b) : n ≠ n + b := fun e => h (Nat.add_left_cancel (n := n) e)
theorem nlt {n a c : Nat} (h : a < n) : a ≠ n + c := Nat.ne_of_lt (Nat.lt_of_lt_of_le h (Nat.le_add_right ..))
theorem ZA.new {n a b : Nat} (h1 : a < n) (h2 : b < n) : ZA (n + 4) (n + 2) (n + 3) n (n + 1) [n, a] [n + 1, b] where
  TIz := (by first | exact nn (by decide) | exact n0 (by decide) | exact (n0 (by decide)).symm | exact nlt h1 | exact nlt h2 | exact (nlt h1).symm | exact (nlt h2).symm | exact Nat.ne_of_lt h1 | exact Nat.ne_of_lt h2 | exact Nat.ne_of_gt h1 | exact Nat.ne_of_gt h2 | omega)
  TOz := (by first | exact nn (by decide) | exact n0 (by decide) | exact (n0 (by decide)).symm | exact nlt h1 | exact nlt h2 | exact (nlt h1).symm | exact (nlt h2).symm | exact Nat.ne_of_lt h1 | exact Nat.ne_of_lt h2 | exact Nat.ne_of_gt h1 | exact Nat.ne_of_gt h2 | omega)
  a1 := fun c hc => by
    simp only [List.mem_cons, List.not_mem_nil, or_false] at hc
    rcases hc with rfl | rfl
    · exact ⟨(by first | exact nn (by decide) | exact n0 (by decide) | exact (n0 (by decide)).symm | exact nlt h1 | exact nlt h2 | exact (nlt h1).symm | exact (nlt h2).symm | exact Nat.ne_of_lt h1 | exact Nat.ne_of_lt h2 | exact Nat.ne_of_gt h1 | exact Nat.ne_of_gt h2 | omega), (by first | exact nn (by decide) | exact n0 (by decide) | exact (n0 (by decide)).symm | exact nlt h1 | exact nlt h2 | exact (nlt h1).symm | exact (nlt h2).symm | exact Nat.ne_of_lt h1 | exact Nat.ne_of_lt h2 | exact Nat.ne_of_gt h1 | exact Nat.ne_of_gt h2 | omega), (by first | exact nn (by decide) | exact n0 (by decide) | exact (n0 (by decide)).symm | exact nlt h1 | exact nlt h2 | exact (nlt h1).symm | exact (nlt h2).symm | exact Nat.ne_of_lt h1 | exact Nat.ne_of_lt h2 | exact Nat.ne_of_gt h1 | exact Nat.ne_of_gt h2 | omega)⟩
    · exact ⟨(by first | exact nn (by decide) | exact n0 (by decide) | exact (n0 (by decide)).symm | exact nlt h1 | exact nlt h2 | exact (nlt h1).symm | exact (nlt h2).symm | exact Nat.ne_of_lt h1 | exact Nat.ne_of_lt h2 | exact Nat.ne_of_gt h1 | exact Nat.ne_of_gt h2 | omega), (by first | exact nn (by decide) | exact n0 (by decide) | exact (n0 (by decide)).symm | exact nlt h1 | exact nlt h2 | exact (nlt h1).symm | exact (nlt h2).symm | exact Nat.ne_of_lt h1 | exact Nat.ne_of_lt h2 | exact Nat.ne_of_gt h1 | exact Nat.ne_of_gt h2 | omega), (by first | exact nn (by decide) | exact n0 (by decide) | exact (n0 (by decide)).symm | exact nlt h1 | exact nlt h2 | exact (nlt h1).symm | exact (nlt h2).symm | exact Nat.ne_of_lt h1 | exact Nat.ne_of_lt h2 | exact Nat.ne_of_gt h1 | exact Nat.ne_of_gt h2 | omega)⟩
  a2 := fun c hc => by
    simp only [List.mem_cons, List.not_mem_nil, or_false] at hc
    rcases hc with rfl | rfl
    · exact ⟨(by first | exact nn (by decide) | exact n0 (by decide) | exact (n0 (by decide)).symm | exact nlt h1 | exact nlt h2 | exact (nlt h1).symm | exact (nlt h2).symm | exact Nat.ne_of_lt h1 | exact Nat.ne_of_lt h2 | exact Nat.ne_of_gt h1 | exact Nat.ne_of_gt h2 | omega), (by first | exact nn (by decide) | exact n0 (by decide) | exact (n0 (by decide)).symm | exact nlt h1 | exact nlt h2 | exact (nlt h1).symm | exact (nlt h2).symm | exact Nat.ne_of_lt h1 | exact Nat.ne_of_lt h2 | exact Nat.ne_of_gt h1 | exact Nat.ne_of_gt h2 | omega), (by first | exact nn (by decide) | exact n0 (by decide) | exact (n0 (by decide)).symm | exact nlt h1 | exact nlt h2 | exact (nlt h1).symm | exact (nlt h2).symm | exact Nat.ne_of_lt h1 | exact Nat.ne_of_lt h2 | exact Nat.ne_of_gt h1 | exact Nat.ne_of_gt h2 | omega)⟩
    · exact ⟨(by first | exact nn (by decide) | exact n0 (by decide) | exact (n0 (by decide)).symm | exact nlt h1 | exact nlt h2 | exact (nlt h1).symm | exact (nlt h2).symm | exact Nat.ne_of_lt h1 | exact Nat.ne_of_lt h2 | exact Nat.ne_of_gt h1 | exact Nat.ne_of_gt h2 | omega), (by first | exact nn (by decide) | exact n0 (by decide) | exact (n0 (by decide)).symm | exact nlt h1 | exact nlt h2 | exact (nlt h1).symm | exact (nlt h2).symm | exact Nat.ne_of_lt h1 | exact Nat.ne_of_lt h2 | exact Nat.ne_of_gt h1 | exact Nat.ne_of_gt h2 | omega), (by first | exact nn (by decide) | exact n0 (by decide) | exact (n0 (by decide)).symm | exact nlt h1 | exact nlt h2 | exact (nlt h1).symm | exact (nlt h2).symm | exact Nat.ne_of_lt h1 | exact Nat.ne_of_lt h2 | exact Nat.ne_of_gt h1 | exact Nat.ne_of_gt h2 | omega)⟩
theorem ZA.new2 (n : Nat) : (n + 2 : Nat) ≠ n + 3 ∧ (n + 2 : Nat) ≠ n ∧ (n + 2 : Nat) ≠ n + 1 := ⟨nn (by decide), (n0 (by decide)).symm, nn (by decide)⟩
section
variable {X : Cx} {io : List Nat} {p c : Bool} {a b : Expr} {mr : MAt}
noncomputable def zipA (ds : List PyData) : Option (List PyData) := match ds with | [.list as, .list bs] => some (zipD as bs) | [.tuple as, .tuple bs] => some (zipD as bs) | _ => none
noncomputable def iZipA (a : FA) : FI := fun δ => (a δ).bind fun p => (zipA (OT.datas p.1)).bind fun ds => some (ds, p.2)
end
end L2
namespace L2
open PySem PySem.Spec PyProof.Rows
section
variable {X : Cx} {e : Expr} {te : TE} {lo hi : Option Expr} {se : Expr} {tl th ts : TO} {pos p2 : Pos}
end
section
variable {X : Cx} {io : List Nat} {p c : Bool} {a e : Expr} {ma : MEt} {lo hi : Option Expr} {se : Expr} {ml mh ms : MOt} {pos p2 : Pos} {fa : FE}
end
end L2
namespace L2
open PySem PySem.Spec PyProof.Rows
section
variable {X : Cx} {io : List Nat} {c1 c2 c3 c4 p : Bool} {a b e d : Expr} {ma mb mc md : MEt} {pos : Pos} {f g h : Int → Int → Bool} {ta tb tc td : TE} {fa fb fc fd : FE} {G : PySem.W.Frag}
end
end L2
namespace L2
open PySem PySem.Spec PyProof.Rows
variable {G : PySem.W.Frag}
section
variable {X : Cx} {io : List Nat} {p c : Bool} {a b e : Expr} {mr : MAt} {ra : FA} {i : Nat}
noncomputable def isFn (y : Str) (d : PyData) : Bool := match d with | .dict [(.str x, .bool true)] => decide (x = y) | _ => false
end
section
variable {X : Cx} {io : List Nat} {p c : Bool} {a : Expr} {mr : MAt} {ra : FA}
end
end L2
namespace L2
open PySem PySem.Spec PyProof.Rows
variable {G : PySem.W.Frag}
theorem all4 {α : Type} {p : α → Prop} {a b c d : α} (h1 : p a) (h2 : p b) (h3 : p c) (h4 : p d) : ∀ x ∈ [a, b, c, d], p x := by
  intro x hx
  rcases List.mem_cons.mp hx with rfl | hx
  · exact h1
  rcases List.mem_cons.mp hx with rfl | hx
  · exact h2
  rcases List.mem_cons.mp hx with rfl | hx
  · exact h3
  rcases List.mem_singleton.mp hx with rfl
  exact h4
theorem all5 {α : Type} {p : α → Prop} {a b c d e : α} (h1 : p a) (h2 : p b) (h3 : p c) (h4 : p d) (h5 : p e) : ∀ x ∈ [a, b, c, d, e], p x := fun x hx => (List.mem_cons.mp hx).elim (fun q => q ▸ h1) (all4 h2 h3 h4 h5 x)
theorem no4 {α : Type} {a b c d x : α} (h1 : x ≠ a) (h2 : x ≠ b) (h3 : x ≠ c) (h4 : x ≠ d) : x ∉ [a, b, c, d] := fun hx => all4 (p := fun y => x ≠ y) h1 h2 h3 h4 x hx rfl
noncomputable def SqB (K : PySem.W.Frag) (t : Bool) (H : Hp) (a : Addr) (xs : List V) : Prop := match t with | true => H a = some (.tup xs) | false => SqL K H a xs
noncomputable def IsB (t : Bool) (h : Heap) (a : Addr) (its : Array Value) : Prop := match t with | true => IsTup h a its | false => h.IsList a its
noncomputable def ItB (t : Bool) (h : Heap) (it a : Addr) (i : Nat) : Prop := match t with | true => IsTupIter h it a i | false => h.IsListIter it a i
theorem ItB.at {t : Bool} {h h' : Heap} {it a : Addr} {i : Nat} (x : ItB t h it a i) (k : ∀ o, h.get? it = some o → h'.get? it = some o) : ItB t h' it a i := by
  cases t with
  | false => exact Heap.IsListIter.at x k
  | true =>
    obtain ⟨o, ho, r⟩ := x
    exact ⟨o, k o ho, r⟩
theorem ItB.obj {t : Bool} {h : Heap} {it a : Addr} {i : Nat} (x : ItB t h it a i) : ∃ o, h.get? it = some o ∧ ∀ v, o.data ≠ .cell v := by
  cases t with
  | false =>
    obtain ⟨o, ho, _, d⟩ := x
    exact ⟨o, ho, fun v q => by rw [d] at q; cases q⟩
  | true =>
    obtain ⟨o, ho, _, d⟩ := x
    exact ⟨o, ho, fun v q => by rw [d] at q; cases q⟩
theorem IsB.lt {t : Bool} {h : Heap} {a : Addr} {its : Array Value} (x : IsB t h a its) : a < h.objs.size := by
  cases t with
  | false =>
    obtain ⟨o, ho, _⟩ := x
    exact Heap.lt_size ho
  | true =>
    obtain ⟨o, ho, _⟩ := x
    exact Heap.lt_size ho
theorem SqB.its {X : Cx} {pins : List (Addr × Obj)} {σ : St} {H : Hp} {s : Shared} {t : Bool} {a : Addr} {xs : List V} (I : Inv X pins σ H s) (h : SqB X.K t H a xs) : ∃ its : List Value, Vals xs its ∧ IsB t s.heap a its.toArray := by
  cases t with
  | false =>
    obtain ⟨its, r, p, _⟩ := I.list h
    exact ⟨its, r, p.isList⟩
  | true =>
    obtain ⟨_, its, r, p⟩ := (show ObjOk X.prog X.w H s.heap a (.tup xs) from I.hok a _ h)
    exact ⟨its, r, p⟩
theorem SqB.inj {X : Cx} {pins : List (Addr × Obj)} {σ : St} {H : Hp} {s : Shared} {t : Bool} {a : Addr} {xs ys : List V} (I : Inv X pins σ H s) (h : SqB X.K t H a xs) (k : SqB X.K t H a ys) : xs = ys := by
  cases t with
  | false => exact I.list_inj h k
  | true =>
    have := (show H a = some (.tup xs) from h).symm.trans k
    cases this
    rfl
section
variable {P : Program} {w : World}
theorem givesB {t : Bool} {it a : Addr} {i : Nat} {items : Array Value} {x : Value} (hx : items[i]? = some x) : Gives P w it [it, a] (fun h => ItB t h it a i ∧ IsB t h a items) x (fun h => ItB t h it a (i + 1)) := by
  cases t with
  | true => exact gives_tup hx
  | false =>
    exact ⟨.head _, fun st hQ => wpAny_nextOf_list_item st.1 st.2 hx hQ, fun h h' k st => ⟨Heap.IsListIter.at st.1 fun o e => k it (.head _) o e, by
      obtain ⟨o, ho, r⟩ := st.2
      exact ⟨o, k a (.tail _ (.head _)) o ho, r⟩⟩, fun h h' k st => Heap.IsListIter.at st fun o e => k it (.head _) o e⟩
theorem endsB {t : Bool} {it a : Addr} {i : Nat} {items : Array Value} (hx : items[i]? = none) : NoMore P w it [it, a] (fun h => ItB t h it a i ∧ IsB t h a items) := by
  cases t with
  | true => exact ends_tup hx
  | false =>
    exact ⟨.head _, fun hh st hE => wpAny_nextOf_list_end hh st.1 st.2 hx hE, fun h h' k st => ⟨Heap.IsListIter.at st.1 fun o e => k it (.head _) o e, by
      obtain ⟨o, ho, r⟩ := st.2
      exact ⟨o, k a (.tail _ (.head _)) o ho, r⟩⟩⟩
end
noncomputable def ItzB (K : PySem.W.Frag) (t : Bool) (a b : Addr) : It :=
  ⟨fun i H => ∃ xs ys x y, SqB K t H a xs ∧ SqB K t H b ys ∧ xs[i]? = some x ∧ ys[i]? = some y,
   fun i H v H' => ∃ p x y, H p = none ∧ v = .ref p ∧ H' = upd H p (.tup [x, y]) ∧ (∀ xs, SqB K t H a xs → xs[i]? = some x) ∧ ∀ ys, SqB K t H b ys → ys[i]? = some y,
   fun i H => ∃ xs ys, SqB K t H a xs ∧ SqB K t H b ys ∧ (xs.length ≤ i ∨ ys.length ≤ i)⟩
noncomputable def StZB (t : Bool) (z TI TO i1 i2 a b : Addr) (i : Nat) (h : Heap) : Prop := IsZip h z TI TO .none ∧ IsPair h TI (.ref i1) (.ref i2) ∧ (∃ x y, IsPair h TO x y) ∧ ItB t h i1 a i ∧ ItB t h i2 b i
theorem turn_zipB {P : Program} {w : World} {K : PySem.W.Frag} {es : List Expr} {kk : Nat} {pos : Pos} {t : Bool} {z TI TO i1 i2 a b : Addr} (D : ZA z TI TO i1 i2 [i1, a] [i2, b]) (D2 : TI ≠ TO ∧ TI ≠ i1 ∧ TI ≠ i2) : Turn P w K (.Tuple es kk pos) (ItzB K t a b) [z, TI, TO, i1, i2] z (StZB t z TI TO i1 i2 a b) where
  mem := .head _
  obj := fun i h st => by
    obtain ⟨s1, s2, ⟨x, y, s3⟩, s4, s5⟩ := st
    exact all5 ⟨_, s1, fun v q => by cases q⟩ ⟨_, s2, fun v q => by cases q⟩ ⟨_, s3, fun v q => by cases q⟩ s4.obj s5.obj
  keep := fun i h h' st k => by
    obtain ⟨s1, s2, ⟨x, y, s3⟩, s4, s5⟩ := st
    have m2 : TI ∈ [z, TI, TO, i1, i2] := .tail _ (.head _)
    have m3 : TO ∈ [z, TI, TO, i1, i2] := .tail _ (.tail _ (.head _))
    have m4 : i1 ∈ [z, TI, TO, i1, i2] := .tail _ (.tail _ (.tail _ (.head _)))
    have m5 : i2 ∈ [z, TI, TO, i1, i2] := .tail _ (.tail _ (.tail _ (.tail _ (.head _))))
    exact ⟨k z (.head _) _ s1, k TI m2 _ s2, ⟨x, y, k TO m3 _ s3⟩, s4.at (k i1 m4), s5.at (k i2 m5)⟩
  item := by
    intro X hP hw hK hc i pins s σ H E I hf st hg
    subst hP hw hK
    obtain ⟨s1, s2, ⟨x0, y0, s3⟩, s4, s5⟩ := st
    obtain ⟨xs, ys, x, y, hx, hy, ex, ey⟩ := hg
    obtain ⟨its, rx, px⟩ := hx.its I
    obtain ⟨its', ry, py⟩ := hy.its I
    obtain ⟨u, hu, ru⟩ := rx.get ex
    obtain ⟨u', hu', ru'⟩ := ry.get ey
    rw [← List.getElem?_toArray] at hu hu'
    refine nextG_item D (givesB hu) (givesB hu') s1 s2 s3 ⟨s4, px⟩ ⟨s5, py⟩ fun h' g1 g2 g3 g4 g5 g6 => ?_
    refine ⟨_, rfl, wpAny_letOwnedTupleGo_zip (s := { s with heap := h' }) g1 fun h2 z2 sb => ?_⟩
    have up : ∀ c o, c ≠ z → h'.get? c = some o → h2.get? c = some o := fun c o n e => (sb.2 c n).trans e
    have kp : ∀ c o, c ∉ [z, TO, i1, i2] → s.heap.get? c = some o → h2.get? c = some o := fun c o n e => up c o (fun q => n (q ▸ .head _)) (g6 c o n e)
    have t5 : IsPair h2 s.heap.objs.size u u' := up _ _ (Nat.ne_of_gt (Heap.lt_size s1)) g5
    have i1z := (D.a1 i1 (.head _)).1
    have i2z := (D.a2 i2 (.head _)).1
    have n3 := g3.at (up i1 · i1z)
    have n4 := g4.at (up i2 · i2z)
    obtain ⟨f1, f2, f3, f4, f5⟩ : (FpOk X pins H z ∧ FpOk X pins H TI ∧ FpOk X pins H TO ∧ FpOk X pins H i1 ∧ FpOk X pins H i2) := ⟨hf _ (.head _), hf _ (.tail _ (.head _)), hf _ (.tail _ (.tail _ (.head _))), hf _ (.tail _ (.tail _ (.tail _ (.head _)))), hf _ (.tail _ (.tail _ (.tail _ (.tail _ (.head _)))))⟩
    have I2 : Inv X pins σ (upd H s.heap.objs.size (.tup [x, y])) { s with heap := h2 } :=
      I.turnTup (ch := [z, TO, i1, i2]) (its := [u, u']) (all4 f1 f3 f4 f5) kp (all4 ⟨_, z2⟩ ⟨_, up _ _ D.TOz g2⟩ (n3.obj.imp fun _ q => q.1) (n4.obj.imp fun _ q => q.1)) (Nat.le_refl _) two_le (.cons ru (.cons ru' .nil)) ⟨_, t5, rfl, 0, rfl⟩
    have lt : ∀ {c : Addr} {o : Obj}, s.heap.get? c = some o → FpOk X pins H c → upd H s.heap.objs.size (.tup [x, y]) c = none := fun e f => by rw [upd_ne (Nat.ne_of_lt (Heap.lt_size e))]; exact f.1
    refine ⟨.ref s.heap.objs.size, _, I2, rfl, ⟨_, x, y, I.fresh, rfl, rfl, fun zs hz => by rw [hz.inj I hx]; exact ex, fun zs hz => by rw [hz.inj I hy]; exact ey⟩, ⟨z2, kp TI _ (no4 D.TIz D2.1 D2.2.1 D2.2.2) s2, ⟨_, _, up _ _ D.TOz g2⟩, n3, n4⟩, ?_⟩
    obtain ⟨o4, e4, _⟩ := s4.obj
    obtain ⟨o5, e5, _⟩ := s5.obj
    exact all5 (lt s1 f1) (lt s2 f2) (lt s3 f3) (lt e4 f4) (lt e5 f5)
  done := by
    intro X hP hw hK hc i pins s σ H E I hf st hg
    subst hP hw hK
    obtain ⟨s1, s2, ⟨x0, y0, s3⟩, s4, s5⟩ := st
    obtain ⟨xs, ys, hx, hy, he⟩ := hg
    obtain ⟨its, rx, px⟩ := hx.its I
    obtain ⟨its', ry, py⟩ := hy.its I
    have l1 := rx.length
    have l2 := ry.length
    refine nextG_end (I.ok.hd hc) D (S1 := fun h => ItB t h i1 a i ∧ IsB t h a its.toArray) (T1 := fun h => ItB t h i1 a (i + 1)) (S2 := fun h => ItB t h i2 b i ∧ IsB t h b its'.toArray) ?_ s1 s2 s3 ⟨s4, px⟩ ⟨s5, py⟩ fun h' k => ⟨rfl, I.turnAll (ch := [z, TO, i1, i2]) (all4 (hf _ (.head _)) (hf _ (.tail _ (.tail _ (.head _)))) (hf _ (.tail _ (.tail _ (.tail _ (.head _))))) (hf _ (.tail _ (.tail _ (.tail _ (.tail _ (.head _))))))) k⟩
    cases q : its.toArray[i]? with
    | none => exact .inl (endsB q)
    | some v =>
      refine .inr ⟨⟨v, givesB q⟩, endsB ?_⟩
      have := (Array.getElem?_eq_some_iff.mp q).1
      rw [List.size_toArray] at this
      rw [Array.getElem?_eq_none_iff, List.size_toArray]
      omega
  self := fun _ _ _ _ _ st h => wpAny_pyIter_zip st.1 h
theorem call_zipB {P : Program} {w : World} {A : Around} {E : Value → Shared → Prop} {s : Shared} {t : Bool} {a b : Addr} {xs ys : Array Value} {Q : Value → Shared → Prop} (h1 : IsB t s.heap a xs) (h2 : IsB t s.heap b ys)
    (h : ∀ h' n, n = s.heap.objs.size → IsZip h' (n + 4) (n + 2) (n + 3) .none → IsPair h' (n + 2) (.ref n) (.ref (n + 1)) → IsPair h' (n + 3) .none .none → ItB t h' n a 0 → ItB t h' (n + 1) b 0 →
      (∀ c o, s.heap.get? c = some o → h'.get? c = some o) → Q (.ref (n + 4)) { s with heap := h' }) : wpAny (model P w) A (call (.type "zip") [.ref a, .ref b]) Q E s := by
  cases t with
  | true => exact call_zipT h1 h2 h
  | false => exact call_zip_2 h1 h2 fun h' g1 g2 g3 g4 g5 _ g7 => h h' _ rfl g1 g2 g3 g4 g5 g7
noncomputable def iZipB (K : PySem.W.Frag) (ta : TA) : TI := fun σ H R => ta σ H fun vs H1 => ∃ t a b, vs = [.ref a, .ref b] ∧ (∃ xs, SqB K t H1 a xs) ∧ (∃ ys, SqB K t H1 b ys) ∧ R (ItzB K t a b) H1
theorem pi_zipB {X : Cx} {K : PySem.W.Frag} {a b : Expr} {ta : TA} {p pos pt : Pos} {es : List Expr} {kk : Nat} (hK : X.K = K) (hg : Gl X "zip") (hm : X.mg "zip" = none) (hv : bootBuiltins "zip" = some (.type "zip")) (ha : PA X [a, b] ta)
    (he : starEach [a, b] X.env = (false, eval a X.env) :: starEach [b] X.env := by rfl) (hpl : (backTo pos (starEach [b] X.env)).any (·.1) = false := by rfl) :
    PI X (.Tuple es kk pt) (.Call (.Name "zip" p) [a, b] [] pos) (iZipB K ta) := by
  subst hK
  intro pins s σ H R I h
  refine wpAny_Call_Name_kw (ld_blt I hg hm hv ?_ (by decide) (by decide))
  refine PyProof.Rows.callWith_type1 (thn (ha pos pins s σ H _ I h) fun us s1 q => ?_) he hpl
  obtain ⟨vs, H1, I1, r1, t, l1, l2, e1, ⟨xs, hx⟩, ⟨ys, hy⟩, q⟩ := q
  subst e1
  obtain ⟨u, u', rfl, ru, ru'⟩ := vals2 r1
  cases (show u = Value.ref l1 from ru)
  cases (show u' = Value.ref l2 from ru')
  obtain ⟨its, rx, px⟩ := hx.its I1
  obtain ⟨its', ry, py⟩ := hy.its I1
  refine call_zipB px py fun h' n en g1 g2 g3 g4 g5 g7 => ?_
  have I2 : Inv X pins σ H1 { s1 with heap := h' } := I1.kept (t' := s1.toks) g7
  refine wpAny_pyIter_zip (s := { s1 with heap := h' }) g1 ?_
  refine ⟨_, [_, _, _, _, _], StZB _ _ _ _ _ _ _ _, _, H1, rfl, I2, turn_zipB (ZA.new (en ▸ px.lt) (en ▸ py.lt)) (ZA.new2 n), ⟨g1, g2, ⟨_, _, g3⟩, g4, g5⟩, ?_, q⟩
  subst en
  have ok : ∀ k : Nat, FpOk X pins H1 (s1.heap.objs.size + k) := fun k => I1.fpOk (Nat.le_add_right _ _) (I1.hok.fresh (Nat.le_add_right _ _))
  exact all5 (ok 4) (ok 2) (ok 3) (ok 0) (ok 1)
section
variable {X : Cx} {io : List Nat} {p c : Bool} {a b : Expr} {mr : MAt} {ra : FA}
noncomputable def seqD (t : Bool) (as : List PyData) : PyData := match t with | true => .tuple as | false => .list as
theorem Rel.keptSq {C : MC G} {H : Hp} {σ : St} {δ : DEnv} {fp : Fp} {ex : Addr → Prop} {v : V} {t : Bool} {ds : List PyData} (R : Rel C io H σ δ fp ex) (q : Da G H (fun a => c = true → Lf C fp ex a) v (seqD t ds)) :
    ∃ a xs, v = .ref a ∧ ∀ H' : Hp, (∀ b o, H b = some o → (c = false ∨ ¬ Foot fp b) → H' b = some o) → SqB G t H' a xs ∧ Das G H' (fun a => c = true → (Lf C fp ex a ∧ H a ≠ none)) xs ds := by
  cases t with
  | false => exact R.keptList q
  | true =>
    generalize hd : seqD true ds = d at q
    cases q with
    | tup e r =>
      cases hd
      rename_i a0 xs0
      refine ⟨a0, xs0, rfl, fun H' kp => ?_⟩
      obtain ⟨f1, f2⟩ := R.kept kp
      exact ⟨f2 _ (.tup _) e, r.frame f1 f2⟩
    | _ => cases hd
theorem zipA_seq {ds es : List PyData} (h : zipA ds = some es) : ∃ t as bs, ds = [seqD t as, seqD t bs] ∧ es = zipD as bs := by
  unfold zipA at h
  split at h
  · cases h; exact ⟨false, _, _, rfl, rfl⟩
  · cases h; exact ⟨true, _, _, rfl, rfl⟩
  · cases h
noncomputable def iZB (mr : MAt) : MIt := fun δ K => mr δ fun rs δ' => ∃ es, zipA (OT.datas rs) = some es ∧ K es δ'
theorem mi_zipB {p' pos pt : Pos} {es : List Expr} {kk : Nat} (hg : Gl X "zip") (hm : X.mg "zip" = none) (hv : bootBuiltins "zip" = some (.type "zip")) (ha : MA X io p c [a, b] mr)
    (he : starEach [a, b] X.env = (false, eval a X.env) :: starEach [b] X.env := by rfl) (hpl : (backTo pos (starEach [b] X.env)).any (·.1) = false := by rfl) : MI X io p c (.Tuple es kk pt) (.Call (.Name "zip" p') [a, b] [] pos) (iZB mr) := by
  obtain ⟨_, A, s⟩ := ha
  refine ⟨_, pi_zipB rfl hg hm hv A he hpl, fun C H σ δ fp ex K' Q R h kk => s C H σ δ fp ex _ _ R h fun H1 vs rs δ1 fp1 new r1 h1 => ?_⟩
  have q := r1.das R
  obtain ⟨es, hz, h1⟩ := h1
  obtain ⟨t, as, bs, e, rfl⟩ := zipA_seq hz
  rw [e] at q
  cases q with
  | cons q1 q2 =>
    cases q2 with
    | cons q2 q3 =>
      cases q3
      have R1 := r1.base
      obtain ⟨l1, xs, rfl, k1⟩ := R1.keptSq q1
      obtain ⟨l2, ys, rfl, k2⟩ := R1.keptSq q2
      refine ⟨t, l1, l2, rfl, ⟨_, (k1 H1 fun _ _ e _ => e).1⟩, ⟨_, (k2 H1 fun _ _ e _ => e).1⟩, kk _ H1 _ δ1 fp1 R1 r1.stp (fun H' kp i => ?_) h1⟩
      obtain ⟨s1, d1⟩ := k1 H' kp
      obtain ⟨s2, d2⟩ := k2 H' kp
      refine ⟨fun d hd => ?_, fun hd => ⟨_, _, s1, s2, by rw [d1.length, d2.length]; exact zipD_none hd⟩⟩
      obtain ⟨x, y, hx, hy, rfl⟩ := zipD_get hd
      obtain ⟨u, hu, qu⟩ := d1.get hx
      obtain ⟨w, hw, qw⟩ := d2.get hy
      refine ⟨⟨_, _, u, w, s1, s2, hu, hw⟩, fun v H'' hyl => ?_⟩
      obtain ⟨t', u', w', ht, rfl, rfl, hu', hw'⟩ := hyl
      cases hu.symm.trans (hu' _ s1)
      cases hw.symm.trans (hw' _ s2)
      exact ⟨same_new ht _, .tup upd_same (.cons (qu.same (same_new ht _)) (.cons (qw.same (same_new ht _)) .nil))⟩
theorem fi_zipB {tg e : Expr} (g : MI X io p c tg e (iZB (o2 ra))) : MI X io p c tg e (o2 (iZipA ra)) := g.weak fun δ K h => by
  obtain ⟨r, δ', h, k⟩ := h
  obtain ⟨⟨x, δ1⟩, h1, h⟩ := bs h
  obtain ⟨ds, h2, h⟩ := bs h
  cases h
  exact ⟨x, _, h1, _, h2, k⟩
end
end L2
namespace L2
open PySem PySem.Spec PyProof.Rows PySem.W
noncomputable def kEv {α : Type} (lt : Nat → Nat → Bool) : KasT α → α
  | .ret a => a
  | .ask i j k => kEv lt (k (lt i j))
noncomputable def kGood {α : Type} (n : Nat) (P : α → Prop) : KasT α → Prop
  | .ret a => P a
  | .ask i j k => i < n ∧ j < n ∧ ∀ b, kGood n P (k b)
theorem kGood.bind {α β : Type} {n : Nat} {P : α → Prop} {R : β → Prop} {f : α → KasT β} (hf : ∀ a, P a → kGood n R (f a)) {t : KasT α} (h : kGood n P t) : kGood n R (t.bind f) := by
  induction t with
  | ret a => exact hf a h
  | ask i j k ih => exact ⟨h.1, h.2.1, fun b => ih b (h.2.2 b)⟩
noncomputable def kP (n : Nat) (p : Array Nat) : Prop := p.toList.Perm (List.range n)
theorem kP.at {n : Nat} {p : Array Nat} (h : kP n p) (h0 : 0 < n) (i : Nat) : p.getD i 0 < n := by
  by_cases c : i < p.size
  · have e : p.getD i 0 = p[i] := by simp [Array.getD, c]
    rw [e]
    exact List.mem_range.mp (h.mem_iff.mp (Array.getElem_mem_toList c))
  · have e : p.getD i 0 = 0 := by simp [Array.getD, c]
    rw [e]; exact h0
noncomputable def sOrd (lt : Nat → Nat → Bool) (n : Nat) : List Nat := (kEv lt (kas_sort n)).toList
end L2
namespace L2
open PySem PySem.Spec PyProof.Rows PySem.W PySem.SeqAt
open AutoSeq1 (wpAny_loadPart')
open MeetsSeq MeetsSeq2 MeetsSeq3 SeqRoads2
section
variable {prog : Program} {w : World} {A : Around} {E : Value → Shared → Prop} {s : Shared}
end
section
variable {prog : Program} {w : World} {A : Around} {E : Value → Shared → Prop} {s : Shared}
end
end L2
namespace L2
open PySem PySem.Spec PyProof.Rows PySem.W
noncomputable def sLay {α : Type} (d : α) (lt : Nat → Nat → Bool) (vs : List α) : List α := if vs.length < 2 then vs else (sOrd lt vs.length).map fun i => vs.getD i d
section
variable {prog : Program} {w : World} {A : Around} {E : Value → Shared → Prop} {s : Shared}
end
end L2
namespace L2
open PySem PySem.Spec PyProof.Rows PySem.W
variable {G : PySem.W.Frag}
structure SKey {α : Type} (kd : PyData → Option α) (lt : α → α → Bool) : Prop where
  lay : ∀ d k, kd d = some k → d.canLay0 = true
  run : ∃ κ : SortKind, (∀ (prog : Program) (w : World) (A : Around) (E : Value → Shared → Prop) (s : Shared) (vs : List Value) (ds : List PyData) (as : List Addr) (Q : SortKind → Shared → Prop), 2 ≤ vs.length → ReadsAll s.heap vs ds as → (∀ d ∈ ds, ∃ k, kd d = some k) → Q κ s → wpAny (model prog w) A (keyKind' vs.toArray) Q E s) ∧
    ∀ (prog : Program) (w : World) (A : Around) (E : Value → Shared → Prop) (s : Shared) (u v : Value) (d e : PyData) (as bs : List Addr) (k m : α) (C : Bool → Shared → Prop), A.units + 32 < cLine → Reads s.heap u d as → Reads s.heap v e bs → kd d = some k → kd e = some m → C (lt k m) s → wpAny (model prog w) A (keyLt' κ u v) C E s
theorem layT_ints (ns : List Int) : Sh 1 (.tuple (ns.map PyData.int)) := sh_tup fun d m => by
  obtain ⟨x, _, rfl⟩ := List.mem_map.mp m
  exact sh_int x
end L2
namespace L2
open PySem PySem.Spec PyProof.Rows PySem.W
variable {G : PySem.W.Frag}
noncomputable def lk {α : Type} (kd : PyData → Option α) (lt : α → α → Bool) (es : List PyData) : Nat → Nat → Bool := fun i j => ((kd (es.getD i .none)).bind fun a => (kd (es.getD j .none)).map fun b => lt a b).getD false
section
variable {X : Cx} {α : Type} {kd : PyData → Option α} {lt : α → α → Bool}
noncomputable def gSortK (kd : PyData → Option α) (lt : α → α → Bool) : List PyData → Option OT := fun ds => match ds with | [.list es] => if (decide (es.length < 64) && es.all fun d => (kd d).isSome) = true then some (.nd ((sLay .none (lk kd lt es) es).map OT.fz)) else none | _ => none
end
end L2
namespace L2
open PySem PySem.Spec PyProof.Rows
variable {G : PySem.W.Frag}
end L2
namespace L2
open PySem PySem.Spec PyProof.Rows
section
variable {X : Cx} {io : List Nat} {p p' c c' q r : Bool} {a b e : Expr} {fa fb : FE} {es : List Expr} {ra : FA} {st : Stmt} {sts ss ss' : List Stmt} {f g : FS} {ta : FT}
theorem xv (i : Nat) {x : Str} {pos : Pos} (hN : X.N[i]? = some x := by rfl) (hv : Vis X.env.scope x := by first | exact Or.inl rfl | exact Or.inr (Or.inl rfl) | exact Or.inr (Or.inr rfl)) (hd : (x == ("__debug__" : Str)) = false := by decide) (he : (x == ("__classdict__" : Str)) = false := by decide) : ME X io true true (.Name x pos) (o2 (fVar i)) := fe_var (mv i hN hv hd he)
theorem xo (i : Nat) {x : Str} {pos : Pos} (hN : X.N[i]? = some x := by rfl) (hv : Vis X.env.scope x := by first | exact Or.inl rfl | exact Or.inr (Or.inl rfl) | exact Or.inr (Or.inr rfl)) (hd : (x == ("__debug__" : Str)) = false := by decide) (he : (x == ("__classdict__" : Str)) = false := by decide) : ME X io true false (.Name x pos) (o2 (fOwn i)) := fe_own (mo i hN hv hd he)
theorem xci {i : Int} {j : Nat} {pos : Pos} : ME X io true true (.Constant (.int i) j pos) (o2 (fC (.int i))) := fe_c mc_int
theorem xix {pos : Pos} (ha : ME X io p c a (o2 fa)) (hb : ME X io p' c' b (o2 fb)) (hc : p' = true ∨ c = true := by first | exact Or.inl rfl | exact Or.inr rfl) (hs : PlainIx b := by exact fun _ _ => rfl) (h2 : (p && p') = q := by rfl) (h3 : (c && c') = r := by rfl) : ME X io q r (.Subscript a b pos) (o2 (fBin gIx fa fb)) := h2 ▸ h3 ▸ fe_bin b_ix (m_ix (ix_seqK rfl) p2_ix ha hb hc (hs := hs))
theorem xa0 : MA X io true true [] (o2 aNil) := fa_nil ma_nil
theorem xa1 [NoStar e] (ha : ME X io p c e (o2 fa)) (h2 : (p && true) = q := by rfl) (h3 : (c && true) = r := by rfl) : MA X io q r [e] (o2 (aCons fa aNil)) := fa_cons2 ha xa0 (.inl rfl) h2 h3
theorem xsq (h : MS X io st (oS f)) (k : MSs X io sts (oS g)) : MSs X io (st :: sts) (oS (fSeq f g)) := fs_seq (mss_cons h k)
theorem xst {pos px : Pos} (i : Nat) {x : Str} (hN : X.N.Nodup) (he : ME X io p true e (o2 fa)) (hi : X.N[i]? = some x := by rfl) (hx : Loc X.env.scope x := by first | exact Or.inl rfl | exact Or.inr rfl) (hio : i ∉ io := by decide) (hs : swapsWith e (some (.Name x px)) pos.line X.env = pure false := by rfl) (hf : X.fn x = true ∨ X.env.scope.names.lookup x = some .local := by first | exact .inl rfl | exact .inr rfl | assumption) : MS X io (.Assign [.Name x px] e pos) (oS (wE fa (kSet i))) := fs_set (ms_set hN hi hx he hio hs hf)
theorem xrt {pos : Pos} (h : ME X io p true e (o2 fa)) : MS X io (.Return (some e) pos) (oS (wE fa kRet)) := fs_ret (ms_ret h)
theorem xg {pos : Pos} (i : Nat) {x : Str} (hN : X.N.Nodup) (hi : X.N[i]? = some x := by rfl) (hx : Loc X.env.scope x := by first | exact Or.inl rfl | exact Or.inr rfl) (hio : i ∉ io := by decide) (hf : X.fn x = true ∨ X.env.scope.names.lookup x = some .local := by first | exact .inl rfl | exact .inr rfl | assumption) : MG X io true (.Name x pos) (oG (gNm i)) := fg_name (mg_name hN hi hx hio hf)
theorem xif {pos : Pos} (h : MT X io p e (o2 ta)) (k : MSs X io ss (oS f)) (l : MSs X io ss' (oS g)) : MS X io (.If e ss ss' pos) (oS (fIfS ta f g)) := fs_if (ms_if h k l)
theorem xnl : MSs X io [] (oS fNx) := fss_nil mss_nil
theorem xtp {pos : Pos} {n : Nat} (h : MA X io p c es (o2 ra)) : ME X io p c (.Tuple es n pos) (o2 (fTup ra)) := fe_tup (m_tup h)
theorem xls {pos : Pos} (h : MA X io p c es (o2 ra)) : ME X io p c (.List es pos) (o2 (fLst ra)) := fe_lst (m_lst h)
theorem xil {tg : Expr} (h : ME X io p c e (o2 fa)) : MI X io p c tg e (o2 (iLst fa)) := fi_list (mi_list h)
theorem xno {pos : Pos} (h : MT X io p e (o2 ta)) : MT X io p (.UnaryOp .Not e pos) (o2 (tNo ta)) := ft_not (mt_not h)
theorem xadd {pos : Pos} (ha : ME X io p c a (o2 fa)) (hb : ME X io p' c' b (o2 fb)) (hc : p' = true ∨ c = true := by first | exact Or.inl rfl | exact Or.inr rfl) (h2 : (p && p') = q := by rfl) : ME X io q true (.BinOp a .Add b pos) (o2 (fBinS gAdd fa fb)) := h2 ▸ fe_binS b_add (m_opS op_add p2_int0 ha hb hc)
theorem xsub {pos : Pos} (ha : ME X io p c a (o2 fa)) (hb : ME X io p' c' b (o2 fb)) (hc : p' = true ∨ c = true := by first | exact Or.inl rfl | exact Or.inr rfl) (h2 : (p && p') = q := by rfl) : ME X io q true (.BinOp a .Sub b pos) (o2 (fBinS gSb fa fb)) := h2 ▸ fe_binS b_sub (m_opS op_sub p2_int0 ha hb hc)
theorem xmul {pos : Pos} (ha : ME X io p c a (o2 fa)) (hb : ME X io p' c' b (o2 fb)) (hc : p' = true ∨ c = true := by first | exact Or.inl rfl | exact Or.inr rfl) (h2 : (p && p') = q := by rfl) : ME X io q true (.BinOp a .Mult b pos) (o2 (fBinS gMul fa fb)) := h2 ▸ fe_binS b_mul (m_opS op_mulG p2_mul ha hb hc)
theorem xmod {pos : Pos} (ha : ME X io p c a (o2 fa)) (hb : ME X io p' c' b (o2 fb)) (hc : p' = true ∨ c = true := by first | exact Or.inl rfl | exact Or.inr rfl) (h2 : (p && p') = q := by rfl) : ME X io q true (.BinOp a .Mod b pos) (o2 (fBinS gMod fa fb)) := h2 ▸ fe_binS b_mod (m_opS op_modN p2_int ha hb hc)
theorem xfdv {pos : Pos} (ha : ME X io p c a (o2 fa)) (hb : ME X io p' c' b (o2 fb)) (hc : p' = true ∨ c = true := by first | exact Or.inl rfl | exact Or.inr rfl) (h2 : (p && p') = q := by rfl) : ME X io q true (.BinOp a .FloorDiv b pos) (o2 (fBinS gFdiv fa fb)) := h2 ▸ fe_binS b_fdiv (m_opS op_fdivG p2_div ha hb hc)
theorem xpow {pos : Pos} (ha : ME X io p c a (o2 fa)) (hb : ME X io p' c' b (o2 fb)) (hc : p' = true ∨ c = true := by first | exact Or.inl rfl | exact Or.inr rfl) (h2 : (p && p') = q := by rfl) : ME X io q true (.BinOp a .Pow b pos) (o2 (fBinS gPow fa fb)) := h2 ▸ fe_binS b_pow (m_opS op_powG p2_pow ha hb hc)
theorem xeq {pos : Pos} (hu : X.A.units + 64 < cLine) (ha : ME X io p c a (o2 fa)) (hb : ME X io p' c' b (o2 fb)) (hc : p' = true ∨ c = true := by first | exact Or.inl rfl | exact Or.inr rfl) (h2 : (p && p') = q := by rfl) : MT X io q (.Compare a [.Eq] [b] pos) (o2 (tV (fBinS gEq fa fb))) := h2 ▸ ft_cmp b_eq (mt_cmp (op_eqA hu) p2_eq ha hb hc (hm := nomark _))
theorem xne {pos : Pos} (hu : X.A.units + 64 < cLine) (ha : ME X io p c a (o2 fa)) (hb : ME X io p' c' b (o2 fb)) (hc : p' = true ∨ c = true := by first | exact Or.inl rfl | exact Or.inr rfl) (h2 : (p && p') = q := by rfl) : MT X io q (.Compare a [.NotEq] [b] pos) (o2 (tV (fBinS gNe fa fb))) := h2 ▸ ft_cmp b_ne (mt_cmp (op_neA hu) p2_ne ha hb hc (hm := nomark _))
theorem xlt {pos : Pos} (ha : ME X io p c a (o2 fa)) (hb : ME X io p' c' b (o2 fb)) (hc : p' = true ∨ c = true := by first | exact Or.inl rfl | exact Or.inr rfl) (h2 : (p && p') = q := by rfl) : MT X io q (.Compare a [.Lt] [b] pos) (o2 (tV (fBinS gLt fa fb))) := h2 ▸ ft_cmp b_lt (mt_cmp op_lt p2_cmp ha hb hc (hm := nomark _))
theorem xge {pos : Pos} (ha : ME X io p c a (o2 fa)) (hb : ME X io p' c' b (o2 fb)) (hc : p' = true ∨ c = true := by first | exact Or.inl rfl | exact Or.inr rfl) (h2 : (p && p') = q := by rfl) : MT X io q (.Compare a [.GtE] [b] pos) (o2 (tV (fBinS gGe fa fb))) := h2 ▸ ft_cmp b_ge (mt_cmp op_ge p2_cmp ha hb hc (hm := nomark _))
theorem xfr {pos : Pos} {tg : Expr} {it : FI} {gg : FG} (hp : PassesOwn (model X.prog X.w) X.A X.env X.xe) (hc : X.calm = true) (hi : MI X io p true tg e (o2 it)) (hg : MG X io true tg (oG gg)) (hb : MSs X io ss (oS f)) (hs : ∀ x, foldedSetIterable e X.env x = pure x := by intro _; rfl) : MS X io (.For tg e ss [] pos) (oS (fFor it gg f)) := fs_for (ms_for hp hc hi hg hb hs)
theorem xg2 {pos : Pos} {n : Nat} {g1 g2 : FG} (hc : X.calm = true) (ha : MG X io true a (oG g1)) (hb : MG X io true b (oG g2)) (h1 : List.map (fun x => x.snd) (assignEach [a, b] X.env) = assign a X.env :: List.map (fun x => x.snd) (assignEach [b] X.env) := by rfl) (h2 : List.map (fun x => x.snd) (assignEach [b] X.env) = assign b X.env :: List.map (fun x => x.snd) (assignEach [] X.env) := by rfl) (h3 : (assignEach [a, b] X.env).length = 2 := by rfl) (h4 : List.findIdx? (fun x => x.fst) (assignEach [a, b] X.env) = none := by rfl) : MG X io true (.Tuple [a, b] n pos) (oG (gTp 2 (gCn g1 (gCn g2 gNl)))) := fg_tup (mg_tup (n := 2) hc (fgs_cons (mgs_cons ha (fgs_cons (mgs_cons hb (fgs_nil mgs_nil) h2)) h1)) h3 h4)
theorem xso {pos px : Pos} (i : Nat) {x : Str} (hN : X.N.Nodup) (he : ME X io p true e (o2 fa)) (hi : X.N[i]? = some x := by rfl) (hx : Loc X.env.scope x := by first | exact Or.inl rfl | exact Or.inr rfl) (hio : i ∉ io := by decide) (hs : swapsWith e (some (.Name x px)) pos.line X.env = pure false := by rfl) (hf : X.fn x = true ∨ X.env.scope.names.lookup x = some .local := by first | exact .inl rfl | exact .inr rfl | assumption) : MS X io (.Assign [.Name x px] e pos) (oS (wE fa (kSetO i))) := fs_setO (ms_setO hN hi hx he hio hs hf)
theorem xcl {pos pp : Pos} {k : Nat} {f : Addr} {fd : FuncData} {ps : List Str} {x : Str} {F : FD} (G : FnOk X.prog X.w X.K X.mg X.base CX0 k f fd ps (spD X.K (sD F))) (hr : Room k X.A) (hm : X.mg x = some (.ref f)) (hk : PySem.W.keepIn X.K (.ref f) = true) (hb : Binds X.K fd ps []) (ha : MA X io p c (e :: es) (o2 ra)) (hg : Gl X x := by rfl) (h1 : (x == ("__debug__" : Str)) = false := by decide) (h2 : starEach (e :: es) X.env = (false, eval e X.env) :: starEach es X.env := by rfl) (h3 : ((backTo pos (starEach es X.env)).any fun x => x.fst) = false := by rfl) : ME X io p c (.Call (.Name x pp) (e :: es) [] pos) (o2 (fCall F ra)) := fe_call (m_call G hr hg hm hk hb pass0 ha h1 h2 h3)
theorem xln {pos pp : Pos} (hm : X.mg "len" = none) (ha : MA X io p c [e] (o2 ra)) (hg : Gl X "len" := by rfl) (h2 : starEach [e] X.env = (false, eval e X.env) :: starEach [] X.env := by rfl) : ME X io p true (.Call (.Name "len" pp) [e] [] pos) (o2 (fBlS gLen ra)) := fe_blS b_len (m_blS pn_len (call_lenK rfl) hg hm L2.B.boot_len ha (by decide) (by decide) h2 (by rfl))
end
end L2
namespace L2
open PySem PySem.Spec PyProof.Rows
section
variable {X : Cx} {tg : Expr} {io : List Nat} {p c : Bool} {a b d e : Expr} {mr : MAt} {ra : FA}
end
end L2
namespace L2
open PySem PySem.Spec PyProof.Rows
section
variable {prog : Program} {w : World} {A : Around} {R : Result → Shared → Prop} {I : Addr} {fp wr : List Addr} {n : Nat} {P : Nat → Value → Prop} {St : Nat → Heap → Prop}
end
section
variable {prog : Program} {w : World} {A : Around} {E : Value → Shared → Prop} {s : Shared}
end
section
variable {X : Cx} {p c : Bool} {io : List Nat} {e kw : Expr} {pp pos kp : Pos} {t : TA} {mr : MAt}
end
end L2
namespace L2
open PySem PySem.Spec PyProof.Rows
noncomputable def tbl (P : List Nat) (led : Bool) : SetTable := { mask := 7, place := P.toArray, dummies := #[], finger := 0, led, moves := 0, plain := true }
noncomputable def hT (k : List Int) : Int := reduceHash (Builtin.Tuple.tupleHashOf (k.map hashInt))
noncomputable def hAt (ks : List (List Int)) (i : Nat) : Int := (ks[i]?.map hT).getD 0
noncomputable def putT (P : List Nat) (j : Nat) : List Nat := ((tbl P false).put j).1.place.toList
noncomputable def putI (P : List Nat) (j : Nat) : Nat := ((tbl P false).put j).2
noncomputable def insL (ks : List (List Int)) (p : Nat) (k : List Int) : List (List Int) := ks.take p ++ k :: ks.drop p
noncomputable def addT (P : List Nat) (ks : List (List Int)) (k : List Int) : Option (List Nat × List (List Int)) :=
  match (tbl P false).probe (hAt ks) (hT k) ((tbl P false).probeStart (hT k)) with
  | some (.empty j none) => if (tbl (putT P j) false).tooFull = false ∧ (putT P j).length = ks.length + 1 ∧ ks.length ≤ 6 ∧ putI P j ≤ ks.length then some (putT P j, insL ks (putI P j) k) else none
  | some (.candidate _ i _) => if ks[i]? = some k then some (P, ks) else none
  | _ => none
noncomputable def grow (K : List (List Int)) : Nat → List (List Nat × List (List Int)) → List (List Nat × List (List Int))
  | 0, S => S
  | n + 1, S => grow K n (S ++ (S.flatMap fun s => K.filterMap fun k => addT s.1 s.2 k).filter fun s => !S.contains s)
noncomputable def K2 : List (List Int) := [[0, 0], [0, 1], [1, 0], [1, 1]]
noncomputable def S2 : List (List Nat × List (List Int)) := (grow K2 4 [([], [])]).eraseDups
section
variable {prog : Program} {w : World} {A : Around} {E : Value → Shared → Prop} {s : Shared}
inductive KeysIn (U : Addr → List Int → Prop) : List (List Int) → List (Int × Value) → Prop
  | nil : KeysIn U [] []
  | cons {k : List Int} {a : Addr} {ks : List (List Int)} {l : List (Int × Value)} (h : U a k) (t : KeysIn U ks l) : KeysIn U (k :: ks) ((hT k, .ref a) :: l)
theorem KeysIn.hash {U : Addr → List Int → Prop} {ks : List (List Int)} {l : List (Int × Value)} (h : KeysIn U ks l) : l.map (·.1) = ks.map hT := by
  induction h with
  | nil => rfl
  | cons _ _ ih => rw [List.map_cons, List.map_cons, ih]
noncomputable abbrev IK (prog : Program) (w : World) (h : Heap) (k : List Int) (a : Addr) : Prop := IsTupleKey (intKind prog w) h k a
theorem items_int {ks : List Int} {vs : List Value} (h : ItemsAre (intKind prog w) ks vs) : ∀ v ∈ vs, ∃ i t, v = .int i t := by
  induction h with
  | nil => exact fun _ m => nomatch m
  | cons h _ ih =>
    intro v hv
    rcases List.mem_cons.mp hv with rfl | hv
    · obtain ⟨t, e⟩ := Value.isInt_shape h
      exact ⟨_, t, e⟩
    · exact ih v hv
theorem KeysIn.at {U : Addr → List Int → Prop} {ks : List (List Int)} {es : Array (Int × Value)} (h : KeysIn U ks es.toList) (i : Nat) : (es[i]?.map (·.1)).getD 0 = hAt ks i := by
  unfold hAt
  rw [← List.getElem?_map, ← h.hash, List.getElem?_map, Array.getElem?_toList]
end
section
variable {prog : Program} {w : World} {A : Around} {R : Result → Shared → Prop} {I : Addr} {fp wr : List Addr} {n : Nat} {Pv : Nat → Value → Prop} {St : Nat → Heap → Prop}
end
end L2
namespace L2
open PySem PySem.Spec PyProof.Rows
section
variable {prog : Program} {w : World} {A : Around} {E : Value → Shared → Prop} {s : Shared}
end
end L2
namespace L2
open PySem PySem.Spec PyProof.Rows
inductive Tups (H : Hp) : List V → List (List Int) → Prop
  | nil : Tups H [] []
  | cons {a : Addr} {k : List Int} {xs : List V} {ks : List (List Int)} (h : H a = some (.tup (k.map V.int))) (t : Tups H xs ks) : Tups H (.ref a :: xs) (k :: ks)
section
variable {X : Cx} {p c : Bool} {io : List Nat} {a e : Expr} {pos pos' pl pr : Pos} {t : TA} {mr : MAt} {ra : FA}
end
end L2
namespace L2
open PySem PySem.Spec PyProof.Rows
section
variable {G : PySem.W.Frag} {io : List Nat} {p pt pe : Bool} {own : List Str} {caps : List Nat} {g : MGt} {mt : MTt} {me : MEt} {i : Nat}
end
section
variable {X : Cx} {io : List Nat} {p pt pe : Bool} {own : List Str} {caps : List Nat} {N' : List Str} {sc : Scope} {i : Nat} {x : Str} {px : Pos} {tg elt : Expr} {ifs : List Expr} {g : MGt} {mt : MTt} {me : MEt} {pos : Pos}
end
end L2
namespace L2
open PySem PySem.Spec PyProof.Rows
section
variable {X : Cx} {G : PySem.W.Frag}
end
end L2
namespace L2
open PySem PySem.Spec PyProof.Rows
noncomputable abbrev IsTri (h : Heap) (T : Addr) (a b c : Value) : Prop := h.get? T = some { cls := .type "tuple", data := .seq #[a, b, c] }
structure Z3A (z TI TO i1 i2 i3 : Addr) (f1 f2 f3 : List Addr) : Prop where
  TIz : TI ≠ z
  TOz : TO ≠ z
  a1 : ∀ c ∈ f1, c ≠ z ∧ c ≠ TO ∧ c ≠ i2 ∧ c ≠ i3
  a2 : ∀ c ∈ f2, c ≠ z ∧ c ≠ TO ∧ c ≠ i1 ∧ c ≠ i3
  a3 : ∀ c ∈ f3, c ≠ z ∧ c ≠ TO ∧ c ≠ i1 ∧ c ≠ i2
section
variable {P : Program} {w : World} {A : Around} {E : Value → Shared → Prop} {s : Shared}
end
noncomputable abbrev z3A (h : Heap) (a : Addr) : Heap := h.push { cls := .type "list_iterator", data := .fields #[.ref a, .int 0 0] }
noncomputable abbrev z3B (h : Heap) (a b : Addr) : Heap := z3A (z3A h a) b
noncomputable abbrev z3C (h : Heap) (a b c : Addr) : Heap := z3A (z3B h a b) c
noncomputable abbrev z3D (h : Heap) (a b c : Addr) : Heap := (z3C h a b c).push { cls := .type "tuple", data := .seq #[.ref h.objs.size, .ref (z3A h a).objs.size, .ref (z3B h a b).objs.size] }
noncomputable abbrev z3E (h : Heap) (a b c : Addr) : Heap := (z3D h a b c).push { cls := .type "tuple", data := .seq #[.none, .none, .none] }
noncomputable abbrev z3F (h : Heap) (a b c : Addr) : Heap := (z3E h a b c).push { cls := .type "zip", data := .fields #[.none, .bool false, .bool false, .ref (z3C h a b c).objs.size, .ref (z3D h a b c).objs.size] }
section
variable {P : Program} {w : World} {A : Around} {E : Value → Shared → Prop} {s : Shared}
end
section
variable {X : Cx} {io : List Nat} {p c : Bool} {a b e : Expr} {mr : MAt} {ra : FA}
end
end L2
namespace L2
open PySem PySem.Spec PyProof.Rows
variable {G : PySem.W.Frag}
end L2
namespace L2
open PySem PySem.Spec PyProof.Rows
variable {G : PySem.W.Frag}
section
variable {X : Cx} {io : List Nat} {p c : Bool} {e : Expr} {m : MEt} {pos apos cpos px : Pos} {i : Nat} {x : Str} {st : Stmt} {fa : FE}
end
end L2
namespace L2
open PySem PySem.Spec PyProof.Rows
noncomputable def Up (xs : List Nat) : Prop := xs.Pairwise (· < ·)
structure Tb (b : Bool) (t : SetTable) : Prop where
  led : t.led = b
  up : t.plain = true → Up t.place.toList
end L2
namespace L2
open PySem PySem.Spec PyProof.Rows
section
variable {prog : Program} {w : World} {A : Around} {E : Value → Shared → Prop} {s : Shared} {b : Bool}
end
end L2
namespace L2
open PySem PySem.Spec PyProof.Rows
noncomputable def OfL {α : Type} (ks ns : List α) : Prop := ks.Nodup ∧ ∀ x, x ∈ ks ↔ x ∈ ns
noncomputable abbrev Of (ks ns : List Int) : Prop := OfL ks ns
structure Adds {τ : Type} (prog : Program) (w : World) (A : Around) (S : Addr) (T : Heap → List τ → Prop) (h0 : Heap) (n : Nat) (Ok : Value → τ → Prop) : Prop where
  stay : ∀ h h' ks, T h ks → (∀ o, h.get? S = some o → h'.get? S = some o) → T h' ks
  add : ∀ (s : Shared) (E : Value → Shared → Prop) (v : Value) (k : τ) (ks : List τ) (Q : Bool → Shared → Prop), Ok v k → (∀ b o, b < S → h0.get? b = some o → s.heap.get? b = some o) → T s.heap ks → ks.length < n → (∀ c h' tk ks', Heap.SameBut S s.heap h' → T h' ks' → (k ∈ ks → ks' = ks) → (k ∉ ks → ks'.Perm (ks ++ [k])) → Q c { s with heap := h', toks := tk }) → wpAny (model prog w) A (setAdd S v) Q E s
section
variable {prog : Program} {w : World} {A : Around} {R : Result → Shared → Prop} {I S : Addr} {fp wr : List Addr} {n : Nat} {Pv : Nat → Value → Prop} {St : Nat → Heap → Prop} {τ : Type} {T : Heap → List τ → Prop} {h0 : Heap} {Ok : Value → τ → Prop}
end
section
variable {prog : Program} {w : World} {A : Around} {E : Value → Shared → Prop} {s : Shared}
end
end L2
namespace L2
open PySem PySem.Spec PyProof.Rows
section
variable {prog : Program} {w : World} {A : Around} {E : Value → Shared → Prop} {s : Shared}
end
end L2
namespace L2
open PySem PySem.Spec PyProof.Rows
section
variable {prog : Program} {w : World} {A : Around} {E : Value → Shared → Prop} {s : Shared}
end
end L2
namespace L2
open PySem PySem.Spec PyProof.Rows
section
variable {prog : Program} {w : World} {A : Around} {E : Value → Shared → Prop} {s : Shared}
end
end L2
namespace L2
open PySem PySem.Spec PyProof.Rows
section
variable {prog : Program} {w : World} {A : Around} {E : Value → Shared → Prop} {s : Shared}
end
end L2
namespace L2
open PySem PySem.Spec PyProof.Rows
section
variable {prog : Program} {w : World} {A : Around} {E : Value → Shared → Prop} {s : Shared}
end
end L2
namespace L2
open PySem PySem.Spec PyProof.Rows
section
variable {prog : Program} {w : World} {A : Around} {E : Value → Shared → Prop} {s : Shared}
end
end L2
namespace L2
open PySem PySem.Spec PyProof.Rows
section
variable {prog : Program} {w : World} {A : Around} {E : Value → Shared → Prop} {s : Shared}
end
end L2
namespace L2
open PySem PySem.Spec PyProof.Rows
section
variable {X : Cx} {p c : Bool} {io : List Nat} {a e : Expr} {pos pos' pl pr : Pos} {t : TA} {mr : MAt} {ra : FA}
end
end L2
namespace L2
open PySem PySem.Spec PyProof.Rows
section
variable {X : Cx} {io : List Nat} {st : Stmt} {ra : FA}
end
end L2
namespace L2
open PySem PySem.Spec PyProof.Rows
section
variable {κ : Type} [DecidableEq κ]
noncomputable def valV (kvs : List (κ × V)) (k : κ) : Option V := (kvs.find? fun kv => decide (kv.1 = k)).map (·.2)
noncomputable def putK (kvs : List (κ × V)) (k : κ) (v : V) : List (κ × V) :=
  if (kvs.any fun kv => decide (kv.1 = k)) = true then kvs.map (fun kv => if kv.1 = k then (kv.1, v) else kv) else kvs ++ [(k, v)]
theorem valV_pos {p : κ × V} {r : List (κ × V)} {k : κ} (e : p.1 = k) : valV (p :: r) k = some p.2 := by simp [valV, List.find?_cons, e]
theorem valV_neg {p : κ × V} {r : List (κ × V)} {k : κ} (e : ¬ p.1 = k) : valV (p :: r) k = valV r k := by simp [valV, List.find?_cons, e]
theorem RelO.getD {o : Option V} {u : Option Value} {d : V} {d' : Value} (r : RelO o u) (rd : RelV d d') : RelV (o.getD d) (u.getD d') := by
  cases o with
  | none => cases u with
    | none => exact rd
    | some _ => exact (show False from r).elim
  | some _ => cases u with
    | none => exact (show False from r).elim
    | some _ => exact r
theorem KV.length {kvs : List (κ × V)} {vs : List (κ × Value)} (r : KV kvs vs) : kvs.length = vs.length := Paired.length r
end
noncomputable abbrev KT (H : Hp) : List (List Key × V) → List (List Key × Addr × Value) → Prop := Paired fun p q => p.1 = q.1 ∧ H q.2.1 = some (.tup (p.1.map kV)) ∧ RelV p.2 q.2.2
section
variable {P : Program} {w : World} {H : Hp} {h : Heap} {a : Addr}
end
noncomputable def DGet (H : Hp) (a : Addr) (y : V) (r : Option V) : Prop :=
  (∃ kvs k, Rd H a (.dK kvs) ∧ y = kV k ∧ r = valV kvs k) ∨ ∃ kvs k b, Rd H a (.dT kvs) ∧ y = .ref b ∧ H b = some (.tup (k.map kV)) ∧ r = valV kvs k
noncomputable def DPut (H : Hp) (a : Addr) (y v : V) (H' : Hp) : Prop :=
  (∃ kvs k, H a = some (.dK kvs) ∧ y = kV k ∧ kvs.length < sizeLine ∧ H' = upd H a (.dK (putK kvs k v))) ∨
  ∃ kvs k b, H a = some (.dT kvs) ∧ y = .ref b ∧ H b = some (.tup (k.map kV)) ∧ kvs.length < sizeLine ∧ H' = upd H a (.dT (putK kvs k v))
theorem DGet.k {H : Hp} {a : Addr} {kvs : List (Key × V)} {k : Key} (e : H a = some (.dK kvs)) : DGet H a (kV k) (valV kvs k) := .inl ⟨kvs, k, .inl e, rfl, rfl⟩
theorem DGet.t {H : Hp} {a b : Addr} {kvs : List (List Key × V)} {k : List Key} (e : H a = some (.dT kvs)) (eb : H b = some (.tup (k.map kV))) : DGet H a (.ref b) (valV kvs k) := .inr ⟨kvs, k, b, .inl e, rfl, eb, rfl⟩
theorem DPut.k {H : Hp} {a : Addr} {kvs : List (Key × V)} {k : Key} {v : V} (e : H a = some (.dK kvs)) (hl : kvs.length < sizeLine) : DPut H a (kV k) v (upd H a (.dK (putK kvs k v))) := .inl ⟨kvs, k, e, rfl, hl, rfl⟩
theorem DPut.t {H : Hp} {a b : Addr} {kvs : List (List Key × V)} {k : List Key} {v : V} (e : H a = some (.dT kvs)) (eb : H b = some (.tup (k.map kV))) (hl : kvs.length < sizeLine) :
    DPut H a (.ref b) v (upd H a (.dT (putK kvs k v))) := .inr ⟨kvs, k, b, e, rfl, eb, hl, rfl⟩
section
variable {X : Cx} {pins : List (Addr × Obj)} {σ : St} {H : Hp} {s : Shared} {a : Addr} {y v : V} {u r : Value} {o : Option V} {A : Around} {E : Value → Shared → Prop}
end
section
variable {X : Cx} {pins : List (Addr × Obj)} {σ : St} {H : Hp} {s : Shared} {a : Addr} {kvs : List (Key × V)} {k : Key} {u : Value} {A : Around} {E : Value → Shared → Prop}
end
section
variable {X : Cx} {o i e value : Expr} {pos pos' tpos : Pos} {td ty tv : TE}
end
section
variable {X : Cx} {pos : Pos}
end
noncomputable abbrev VV : List (V × V) → List (Value × Value) → Prop := Paired fun p q => RelV p.1 q.1 ∧ RelV p.2 q.2
structure M1 (X : Cx) (o : Expr) (m : Str) (apos : Pos) (e : Expr) (cpos : Pos) : Prop where
  base : attributeBase o m X.env (eval o X.env) = eval o X.env
  few : ((backTo cpos (starEach [e] X.env)).all (fun x => !x.1) && (backToKw cpos (keywordEach [] X.env)).all (fun x => x.1.isSome)
    && decide (([e] : List Expr).length + ([] : List Keyword).length + (if ([] : List Keyword).isEmpty then 0 else 1) < 30)) = true
  line : (apos.endLine == cpos.line) = true
  trees : backTo cpos (starEach [e] X.env) = [(false, eval e X.env)]
structure M2 (X : Cx) (o : Expr) (m : Str) (apos : Pos) (e f : Expr) (cpos : Pos) : Prop where
  base : attributeBase o m X.env (eval o X.env) = eval o X.env
  few : ((backTo cpos (starEach [e, f] X.env)).all (fun x => !x.1) && (backToKw cpos (keywordEach [] X.env)).all (fun x => x.1.isSome)
    && decide (([e, f] : List Expr).length + ([] : List Keyword).length + (if ([] : List Keyword).isEmpty then 0 else 1) < 30)) = true
  line : (apos.endLine == cpos.line) = true
  trees : backTo cpos (starEach [e, f] X.env) = [(false, eval e X.env), (false, eval f X.env)]
section
variable {X : Cx} {pins : List (Addr × Obj)} {σ : St} {H : Hp} {s : Shared} {a : Addr} {y d : V} {u r : Value} {o : Option V} {A : Around} {E : Value → Shared → Prop}
end
section
variable {X : Cx} {o e f : Expr} {apos cpos : Pos} {td ty tx : TE}
end
end L2
namespace L2
open PySem PySem.Spec PyProof.Rows
variable {G : PySem.W.Frag}
noncomputable def dVal (k : KY) : List KY → List PyData → Option PyData
  | [], _ => none
  | _ :: _, [] => none
  | j :: ks, d :: ds => if j = k then some d else dVal k ks ds
section
variable {H : Hp} {L : Addr → Prop} {κ : Type} [DecidableEq κ] {f : κ → KY}
noncomputable def RelD (G : PySem.W.Frag) (H : Hp) (L : Addr → Prop) (a : Option V) (b : Option PyData) : Prop := (∃ v d, a = some v ∧ b = some d ∧ Da G H L v d) ∨ (a = none ∧ b = none)
theorem look (hf : ∀ a b, f a = f b → a = b) (k : κ) (kvs : List (κ × V)) : ∀ ds, Das G H L (kvs.map (·.2)) ds → RelD G H L (valV kvs k) (dVal (f k) (kvs.map fun p => f p.1) ds) := by
  induction kvs with
  | nil => exact fun ds _ => .inr ⟨rfl, rfl⟩
  | cons p kvs ih =>
    intro ds h
    cases h with
    | cons h r =>
      rename_i d ds
      show RelD G H L _ (if f p.1 = f k then some d else dVal (f k) (kvs.map fun p => f p.1) ds)
      by_cases e : p.1 = k
      · rw [valV_pos e, if_pos (congrArg f e)]
        exact .inl ⟨_, _, rfl, rfl, h⟩
      · rw [valV_neg e, if_neg fun z => e (hf _ _ z)]
        exact ih _ r
end
section
variable {H : Hp} {L : Addr → Prop} {y : V} {e : PyData}
end
end L2
namespace L2
open PySem PySem.Spec PyProof.Rows
variable {G : PySem.W.Frag}
section
variable {X : Cx} {io : List Nat} {p c p' c' : Bool} {a b e f o : Expr} {ma mb m mi mo me mf : MEt} {pos pp apos cpos px : Pos} {i : Nat} {x : Str}
end
end L2
namespace L2
open PySem PySem.Spec PyProof.Rows
variable {G : PySem.W.Frag}
noncomputable def gStr : List PyData → Option PyData := fun ds => match ds with | [.int i] => if i.natAbs.log2 < 1920 then some (.str (toString i)) else none | _ => none
noncomputable def dStr : List PyData → (PyData → Prop) → Prop := fun ds k => ∃ r, gStr ds = some r ∧ k r
theorem b_str : ∀ ds r k, gStr ds = some r → k r → dStr ds k := fun _ r _ h hk => ⟨r, h, hk⟩
theorem pn_str : PNs G (fun xs H Q => ∃ i, xs = [.int i] ∧ i.natAbs.log2 < 1920 ∧ Q (.str (toString i)) H) dStr := fun H L xs ds k Q hx h kk => by
  obtain ⟨r, h, hk⟩ := h
  unfold gStr at h
  split at h
  case h_2 => cases h
  rename_i i
  cases hx with
  | cons q r0 =>
    cases r0
    cases q
    by_cases c : i.natAbs.log2 < 1920
    · rw [if_pos c] at h
      cases h
      exact ⟨i, rfl, c, kk _ _ (.str _) hk⟩
    · rw [if_neg c] at h; cases h
noncomputable def gCatS : PyData → PyData → Option PyData := fun d e => match d, e with | .str x, .str y => if x.length + y.length ≤ sizeLine then some (.str (x ++ y)) else none | _, _ => none
noncomputable def dCatS : PyData → PyData → (PyData → Prop) → Prop := fun d e k => ∃ r, gCatS d e = some r ∧ k r
theorem b_catS : ByS gCatS dCatS := fun _ _ r _ h hk => ⟨r, h, hk⟩
theorem p2_catS : P2s G (fun x y H Q => ∃ i j, x = .str i ∧ y = .str j ∧ i.length + j.length ≤ sizeLine ∧ Q (.str (i ++ j)) H) dCatS := fun H L x y d e k Q hx hy h kk => by
  obtain ⟨r, h, hk⟩ := h
  unfold gCatS at h
  split at h
  case h_2 => cases h
  rename_i i j
  cases hx
  cases hy
  by_cases c : i.length + j.length ≤ sizeLine
  · rw [if_pos c] at h
    cases h
    exact ⟨i, j, rfl, rfl, c, kk _ _ (.str _) hk⟩
  · rw [if_neg c] at h; cases h
noncomputable def gIxS : PyData → PyData → Option OT := fun d e => match d, e with | .str x, .int i => if x.length ≤ sizeLine then (atI x.cps.toList i).map fun c => .fz (.str ⟨#[c]⟩) else none | _, _ => none
noncomputable def dIxS : PyData → PyData → (OT → Prop) → Prop := fun d e k => ∃ r, gIxS d e = some r ∧ k r
theorem b_ixS : ByO gIxS dIxS := fun _ _ r _ h hk => ⟨r, h, hk⟩
theorem p2_ixS : P2 G (rIx G) dIxS := fun H L x y d e k Q hx hy h kk => by
  obtain ⟨r, h, hk⟩ := h
  unfold gIxS at h
  split at h
  case h_2 => cases h
  rename_i z i
  cases hx
  cases hy
  by_cases c : z.length ≤ sizeLine
  · rw [if_pos c] at h
    obtain ⟨ch, h1, rfl⟩ := Option.map_eq_some_iff.mp h
    exact .inr (.inr ⟨z, i, ch, rfl, rfl, c, h1, kk H _ (.fz (.str ⟨#[ch]⟩)) [] (Same.refl _) (.fz (.str _)) .nil (fun a m => nomatch m) hk⟩)
  · rw [if_neg c] at h; cases h
end L2
namespace L2
open PySem PySem.Spec PyProof.Rows PySem.W PySem.SeqAt
variable {G : PySem.W.Frag}
section
variable {prog : Program} {w : World} {A : Around} {E : Value → Shared → Prop} {s : Shared}
end
theorem Paired.at {α β : Type} {R : α → β → Prop} {as : List α} {bs : List β} (h : PySem.Paired R as bs) : ∀ {i : Nat} {y : β}, bs[i]? = some y → ∃ x, as[i]? = some x ∧ R x y := by
  induction h with
  | nil => intro i y z; cases z
  | cons h t ih =>
    intro i y z
    cases i with
    | zero => cases z; exact ⟨_, rfl, h⟩
    | succ i => exact ih z
end L2
namespace L2
open PySem PySem.Spec PyProof.Rows
variable {G : PySem.W.Frag}
section
variable {X : Cx} {io : List Nat} {p c : Bool} {e f : Expr} {mr : MAt} {pos apos cpos px : Pos} {x : Str} {st : Stmt} {ra : FA}
end
end L2
namespace L2
open PySem PySem.Spec PyProof.Rows PySem.W PySem.SeqAt
end L2
namespace L2
open PySem PySem.Spec PyProof.Rows
variable {G : PySem.W.Frag}
end L2
namespace L2
open PySem PySem.Spec PyProof.Rows
noncomputable def asFz (o : Option (Option OT)) (δ : DEnv) : Option (OT × DEnv) := match o with | some (some (.fz d)) => some (.fz d, δ) | _ => none
theorem asFz_fz (d : PyData) (δ : DEnv) : asFz (some (some (.fz d))) δ = some (.fz d, δ) := rfl
noncomputable def asAny (o : Option (Option OT)) (δ : DEnv) : Option (OT × DEnv) := match o with | some (some t) => some (.fz t.data, δ) | _ => none
theorem asAny_t (t : OT) (δ : DEnv) : asAny (some (some t)) δ = some (.fz t.data, δ) := rfl
theorem fVar_ap (i : Nat) (δ : DEnv) : fVar i δ = asFz δ[i]? δ := rfl
theorem fOwn_ap (i : Nat) (δ : DEnv) : fOwn i δ = asAny δ[i]? δ := rfl
theorem fC_ap (d : PyData) (δ : DEnv) : fC d δ = some (.fz d, δ) := rfl
theorem fBinS_ap (g : PyData → PyData → Option PyData) (a b : FE) (δ : DEnv) : fBinS g a b δ = (a δ).bind fun p => (b p.2).bind fun q => (g p.1.data q.1.data).bind fun d => some (.fz d, q.2) := rfl
theorem fBin_ap (g : PyData → PyData → Option OT) (a b : FE) (δ : DEnv) : fBin g a b δ = (a δ).bind fun p => (b p.2).bind fun q => (g p.1.data q.1.data).bind fun d => some (d, q.2) := rfl
theorem fUn_ap (g : PyData → Option PyData) (a : FE) (δ : DEnv) : fUn g a δ = (a δ).bind fun p => (g p.1.data).bind fun d => some (.fz d, p.2) := rfl
noncomputable def onB {α : Type} (d : PyData) (x y : Option α) : Option α := match d with | .bool true => x | .bool false => y | _ => none
theorem onB_t {α : Type} (x y : Option α) : onB (.bool true) x y = x := rfl
theorem onB_f {α : Type} (x y : Option α) : onB (.bool false) x y = y := rfl
theorem fAnd_ap (a b : FE) (δ : DEnv) : fAnd a b δ = (a δ).bind fun p => onB p.1.data (b p.2) (some (.fz (.bool false), p.2)) := by
  unfold fAnd onB
  cases a δ with
  | none => rfl
  | some p => first | rfl | (simp only [Option.bind_some]; done) | (simp only [Option.bind_some]; generalize p.1.data = d; cases d <;> first | rfl | (rename_i b; cases b <;> rfl))
theorem fOr_ap (a b : FE) (δ : DEnv) : fOr a b δ = (a δ).bind fun p => onB p.1.data (some (.fz (.bool true), p.2)) (b p.2) := by
  unfold fOr onB
  cases a δ with
  | none => rfl
  | some p => first | rfl | (simp only [Option.bind_some]; done) | (simp only [Option.bind_some]; generalize p.1.data = d; cases d <;> first | rfl | (rename_i b; cases b <;> rfl))
theorem fIf_ap (t : FT) (a b : FE) (δ : DEnv) : fIf t a b δ = (t δ).bind fun p => if p.1 = true then a p.2 else b p.2 := rfl
noncomputable def asB' (t : OT) (δ : DEnv) : Option (Bool × DEnv) := match t with | .fz (.bool b) => some (b, δ) | _ => none
theorem asB'_b (b : Bool) (δ : DEnv) : asB' (.fz (.bool b)) δ = some (b, δ) := rfl
theorem tV_ap (e : FE) (δ : DEnv) : tV e δ = (e δ).bind fun p => asB' p.1 p.2 := by
  unfold tV asB'
  cases e δ with
  | none => rfl
  | some p => rfl
theorem tNo_ap (t : FT) (δ : DEnv) : tNo t δ = (t δ).bind fun p => some (!p.1, p.2) := rfl
theorem tAn_ap (t u : FT) (δ : DEnv) : tAn t u δ = (t δ).bind fun p => if p.1 = true then u p.2 else some (false, p.2) := rfl
theorem tO_ap (t u : FT) (δ : DEnv) : tO t u δ = (t δ).bind fun p => if p.1 = true then some (true, p.2) else u p.2 := rfl
theorem tD_ap (e : FE) (δ : DEnv) : tD e δ = (e δ).bind fun p => (truD p.1.data).bind fun b => some (b, p.2) := rfl
theorem tYes_ap (δ : DEnv) : tYes δ = some (true, δ) := rfl
theorem aNil_ap (δ : DEnv) : aNil δ = some ([], δ) := rfl
theorem aCons_ap (e : FE) (a : FA) (δ : DEnv) : aCons e a δ = (e δ).bind fun p => (a p.2).bind fun q => some (p.1 :: q.1, q.2) := rfl
theorem fTup_ap (a : FA) (δ : DEnv) : fTup a δ = (a δ).bind fun p => if p.1.length ≤ sizeLine then some (.fz (.tuple (OT.datas p.1)), p.2) else none := rfl
theorem fLst_ap (a : FA) (δ : DEnv) : fLst a δ = (a δ).bind fun p => if p.1.length ≤ sizeLine then some (.nd p.1, p.2) else none := rfl
theorem fTupO_ap (a : FA) (δ : DEnv) : fTupO a δ = (a δ).bind fun p => if p.1.length ≤ sizeLine then some (.tp p.1, p.2) else none := rfl
theorem fFlat_ap (e : FE) (δ : DEnv) : fFlat e δ = (e δ).bind fun p => if flatD p.1.data = true then some (.fz p.1.data, p.2) else none := rfl
theorem fFlatT_ap (e : FE) (δ : DEnv) : fFlatT e δ = (e δ).bind fun p => if flatT p.1 = true then some (p.1, p.2) else none := rfl
noncomputable def okO (x : RF) (δ : DEnv) : Option (OT × DEnv) := match x with | .ok r => some (r, δ) | _ => none
theorem okO_ok (r : OT) (δ : DEnv) : okO (.ok r) δ = some (r, δ) := rfl
theorem fCall_ap (F : FD) (a : FA) (δ : DEnv) : fCall F a δ = (a δ).bind fun p => okO (F (OT.datas p.1)) p.2 := by
  unfold fCall okO
  cases a δ with
  | none => rfl
  | some p => rfl
noncomputable def atO {α : Type} (o : Option (Option OT)) (k : OT → Option α) : Option α := match o with | some (some t) => k t | _ => none
theorem atO_t {α : Type} (t : OT) (k : OT → Option α) : atO (some (some t)) k = k t := rfl
theorem fCallI_ap (i : Nat) (F : FIO) (a : FA) (δ : DEnv) : fCallI i F a δ = atO δ[i]? fun _ => (a δ).bind fun p => atO p.2[i]? fun t => (F t (OT.datas p.1)).bind fun q => some (q.1, p.2.set i (some q.2)) := by
  unfold fCallI
  generalize δ[i]? = o
  rcases o with _ | _ | t
  · rfl
  · rfl
  · show (a δ).bind _ = (a δ).bind _
    cases a δ with
    | none => rfl
    | some p =>
      show (fun o : Option (Option OT) => (match o with | some (some t) => (F t (OT.datas p.1)).bind fun q => some (q.1, p.2.set i (some q.2)) | _ => none)) p.2[i]? = atO p.2[i]? _
      generalize p.2[i]? = o
      rcases o with _ | _ | t <;> rfl
theorem fBlS_ap (g : List PyData → Option PyData) (a : FA) (δ : DEnv) : fBlS g a δ = (a δ).bind fun p => (g (OT.datas p.1)).bind fun d => some (.fz d, p.2) := rfl
theorem fBl_ap (g : List PyData → Option OT) (a : FA) (δ : DEnv) : fBl g a δ = (a δ).bind fun p => (g (OT.datas p.1)).bind fun d => some (d, p.2) := rfl
theorem fIsi_ap (T : String) (e : FE) (δ : DEnv) : fIsi T e δ = (e δ).bind fun p => if isFnD p.1.data = true then none else some (.fz (.bool (isTy T p.1.data)), p.2) := rfl
theorem oN_ap (δ : DEnv) : oN δ = some (none, δ) := rfl
noncomputable def asInt {α : Type} (d : PyData) (k : Int → Option α) : Option α := match d with | .int i => k i | _ => none
theorem asInt_i {α : Type} (i : Int) (k : Int → Option α) : asInt (.int i) k = k i := rfl
noncomputable def asLst {α : Type} (d : PyData) (k : List PyData → Option α) : Option α := match d with | .list i => k i | _ => none
theorem asLst_l {α : Type} (i : List PyData) (k : List PyData → Option α) : asLst (.list i) k = k i := rfl
noncomputable def asTup {α : Type} (d : PyData) (k : List PyData → Option α) : Option α := match d with | .tuple i => k i | _ => none
theorem asTup_t {α : Type} (i : List PyData) (k : List PyData → Option α) : asTup (.tuple i) k = k i := rfl
theorem oI_ap (e : FE) (δ : DEnv) : oI e δ = (e δ).bind fun p => asInt p.1.data fun i => some (some i, p.2) := by
  unfold oI asInt
  cases e δ with
  | none => rfl
  | some p => rfl
theorem fSl_ap (e : FE) (lo hi : FO) (δ : DEnv) : fSl e lo hi δ = (e δ).bind fun p => (lo p.2).bind fun q => (hi q.2).bind fun r => asLst p.1.data fun ds => some (.nd ((cutD ds q.1 r.1).map OT.fz), r.2) := by
  unfold fSl asLst; rfl
theorem iLst_ap (e : FE) (δ : DEnv) : iLst e δ = (e δ).bind fun p => asLst p.1.data fun ds => some (ds, p.2) := by
  unfold iLst asLst; rfl
theorem iTp_ap (e : FE) (δ : DEnv) : iTp e δ = (e δ).bind fun p => asTup p.1.data fun ds => some (ds, p.2) := by
  unfold iTp asTup; rfl
noncomputable def as1 {α : Type} (ds : List PyData) (k : Int → Option α) : Option α := match ds with | [.int i] => k i | _ => none
theorem as1_i {α : Type} (i : Int) (k : Int → Option α) : as1 [.int i] k = k i := rfl
noncomputable def as2 {α : Type} (ds : List PyData) (k : Int → Int → Option α) : Option α := match ds with | [.int i, .int j] => k i j | _ => none
theorem as2_i {α : Type} (i j : Int) (k : Int → Int → Option α) : as2 [.int i, .int j] k = k i j := rfl
theorem iRa_ap (a : FA) (δ : DEnv) : iRa a δ = (a δ).bind fun p => as1 (OT.datas p.1) fun j => if rOk j = true then some (rngD 0 j.toNat, p.2) else none := by
  unfold iRa as1; rfl
theorem iRb_ap (a : FA) (δ : DEnv) : iRb a δ = (a δ).bind fun p => as2 (OT.datas p.1) fun i j => if (rOk i && rOk j) = true then some (rngD i (j - i).toNat, p.2) else none := by
  unfold iRb as2; rfl
theorem fLR1_ap (a : FA) (δ : DEnv) : fLR1 a δ = (a δ).bind fun p => as1 (OT.datas p.1) fun j => if rOk j = true ∧ j.toNat ≤ sizeLine then some (.nd ((rngD 0 j.toNat).map OT.fz), p.2) else none := by
  unfold fLR1 as1; rfl
theorem fRep_ap (a b : FE) (δ : DEnv) : fRep a b δ = (a δ).bind fun p => (b p.2).bind fun q => asInt q.1.data fun k => if rOk k = true ∧ k.toNat ≤ sizeLine then some (.nd (List.replicate k.toNat (.fz p.1.data)), p.2) else none := by
  unfold fRep asInt; rfl
noncomputable def asLL {α : Type} (ds : List PyData) (k : List PyData → List PyData → Option α) : Option α := match ds with | [.list i, .list j] => k i j | _ => none
theorem asLL_i {α : Type} (i j : List PyData) (k : List PyData → List PyData → Option α) : asLL [.list i, .list j] k = k i j := rfl
theorem iZip2_ap (a : FA) (δ : DEnv) : iZip2 a δ = (a δ).bind fun p => asLL (OT.datas p.1) fun as bs => some (zipD as bs, p.2) := by
  unfold iZip2 asLL; rfl
theorem gNm_ap (i : Nat) (d : PyData) (δ : DEnv) : gNm i d δ = some (δ.set i (some (.fz d))) := rfl
theorem gNmS_ap (i : Nat) (d : PyData) (δ : DEnv) : gNmS i d δ = if flatD d = true then some (δ.set i (some (.fz d))) else none := rfl
theorem gNl_ap (δ : DEnv) : gNl [] δ = some δ := rfl
theorem gCn_ap (g : FG) (gs : FGs) (d : PyData) (r : List PyData) (δ : DEnv) : gCn g gs (d :: r) δ = (g d δ).bind (gs r) := rfl
theorem gTp_ap (n : Nat) (gs : FGs) (ds : List PyData) (δ : DEnv) : gTp n gs (.tuple ds) δ = if ds.length = n then gs ds δ else none := rfl
theorem gLs_ap (n : Nat) (gs : FGs) (ds : List PyData) (δ : DEnv) : gLs n gs (.list ds) δ = if ds.length = n then gs ds δ else none := rfl
noncomputable def RS.thn (r : RS) (g : FS) : RS := match r with | .nx δ => g δ | r => r
theorem thn_nx (δ : DEnv) (g : FS) : (RS.nx δ).thn g = g δ := rfl
theorem thn_rt (r : OT) (δ : DEnv) (g : FS) : (RS.rt r δ).thn g = .rt r δ := rfl
theorem thn_bk (δ : DEnv) (g : FS) : (RS.bk δ).thn g = .bk δ := rfl
theorem thn_ct (δ : DEnv) (g : FS) : (RS.ct δ).thn g = .ct δ := rfl
theorem thn_ex (c : Str) (δ : DEnv) (g : FS) : (RS.ex c δ).thn g = .ex c δ := rfl
theorem fSeq_ap (f g : FS) (δ : DEnv) : fSeq f g δ = (f δ).thn g := rfl
theorem fNx_ap (δ : DEnv) : fNx δ = .nx δ := rfl
theorem fBrk_ap (δ : DEnv) : fBrk δ = .bk δ := rfl
theorem fCnt_ap (δ : DEnv) : fCnt δ = .ct δ := rfl
theorem fRaise_ap (c : Str) (δ : DEnv) : fRaise c δ = .ex c δ := rfl
theorem fRetN_ap (δ : DEnv) : fRetN δ = .rt (.fz .none) δ := rfl
noncomputable def onO {α : Type} (o : Option (α × DEnv)) (k : α → DEnv → RS) : RS := match o with | some (r, δ') => k r δ' | none => .bad
theorem onO_some {α : Type} (r : α) (δ : DEnv) (k : α → DEnv → RS) : onO (some (r, δ)) k = k r δ := rfl
theorem wE_ap (e : FE) (k : OT → DEnv → RS) (δ : DEnv) : wE e k δ = onO (e δ) k := by
  unfold wE onO
  cases e δ <;> rfl
noncomputable def onF (x : RF) (δ : DEnv) (k : OT → DEnv → RS) : RS := match x with | .ok r => k r δ | .exn c => .ex c δ | .bad => .bad
theorem onF_ok (r : OT) (δ : DEnv) (k : OT → DEnv → RS) : onF (.ok r) δ k = k r δ := rfl
theorem onF_ex (c : Str) (δ : DEnv) (k : OT → DEnv → RS) : onF (.exn c) δ k = .ex c δ := rfl
theorem wX_ap (F : FD) (a : FA) (k : OT → DEnv → RS) (δ : DEnv) : wX F a k δ = onO (a δ) fun rs δ1 => onF (F (OT.datas rs)) δ1 k := by
  unfold wX onO onF
  cases a δ with
  | none => rfl
  | some p => rfl
theorem fIfS_ap (t : FT) (u w : FS) (δ : DEnv) : fIfS t u w δ = onO (t δ) fun b δ' => if b = true then u δ' else w δ' := by
  unfold fIfS onO
  cases t δ <;> rfl
theorem fFor_ap (it : FI) (g : FG) (u : FS) (δ : DEnv) : fFor it g u δ = onO (it δ) fun ds δ1 => forLoop g u ds δ1 := by
  unfold fFor onO
  cases it δ <;> rfl
theorem kDrop_ap (r : OT) (δ : DEnv) : kDrop r δ = .nx δ := rfl
theorem kRet_ap (r : OT) (δ : DEnv) : kRet r δ = .rt r δ := rfl
theorem kRetS_ap (r : OT) (δ : DEnv) : kRetS r δ = if flatD r.data = true then .rt (.fz r.data) δ else .bad := rfl
theorem kSet_ap (i : Nat) (r : OT) (δ : DEnv) : kSet i r δ = .nx (δ.set i (some (.fz r.data))) := rfl
theorem kSetS_ap (i : Nat) (r : OT) (δ : DEnv) : kSetS i r δ = if flatD r.data = true then .nx (δ.set i (some (.fz r.data))) else .bad := rfl
theorem kSetO_ap (i : Nat) (r : OT) (δ : DEnv) : kSetO i r δ = .nx (δ.set i (some r)) := rfl
noncomputable def onD (o : Option DEnv) : RS := match o with | some δ => .nx δ | none => .bad
theorem onD_some (δ : DEnv) : onD (some δ) = .nx δ := rfl
theorem kAsg_ap (g : FG) (r : OT) (δ : DEnv) : kAsg g r δ = onD (g r.data δ) := rfl
noncomputable def onT (o : Option (Option OT)) (k : OT → RS) : RS := match o with | some (some t) => k t | _ => .bad
theorem onT_t (t : OT) (k : OT → RS) : onT (some (some t)) k = k t := rfl
theorem fRetO_ap (i : Nat) (δ : DEnv) : fRetO i δ = onT δ[i]? fun t => .rt t (δ.set i none) := rfl
theorem fFreeze_ap (i : Nat) (u : FS) (δ : DEnv) : fFreeze i u δ = onT δ[i]? fun t => u (δ.set i (some (.fz t.data))) := rfl
noncomputable def onN (o : Option (Option OT)) (k : List OT → RS) : RS := match o with | some (some (.nd ts)) => k ts | _ => .bad
theorem onN_t (t : List OT) (k : List OT → RS) : onN (some (some (.nd t))) k = k t := rfl
theorem fAppend_ap (i : Nat) (e : FE) (δ : DEnv) : fAppend i e δ = onN δ[i]? fun _ => onO (e δ) fun r δ1 => onN δ1[i]? fun ts => if ts.length < sizeLine then .nx (δ1.set i (some (.nd (ts ++ [.fz r.data])))) else .bad := by
  unfold fAppend
  generalize δ[i]? = o
  rcases o with _ | _ | (_ | _ | _ | _)
  · rfl
  · rfl
  · rfl
  · show wE e _ δ = onO (e δ) _
    rw [wE_ap]
    congr 1
  · rfl
  · rfl
theorem fAppendO_ap (i : Nat) (e : FE) (δ : DEnv) : fAppendO i e δ = onN δ[i]? fun _ => onO (e δ) fun r δ1 => onN δ1[i]? fun ts => if ts.length < sizeLine then .nx (δ1.set i (some (.nd (ts ++ [r])))) else .bad := by
  unfold fAppendO
  generalize δ[i]? = o
  rcases o with _ | _ | (_ | _ | _ | _)
  · rfl
  · rfl
  · rfl
  · show wE e _ δ = onO (e δ) _
    rw [wE_ap]
    congr 1
  · rfl
  · rfl
noncomputable def onI (d : PyData) (k : Int → RS) : RS := match d with | .int i => k i | _ => .bad
theorem onI_i (i : Int) (k : Int → RS) : onI (.int i) k = k i := rfl
noncomputable def onX (o : Option Nat) (k : Nat → RS) : RS := match o with | some i => k i | _ => .bad
theorem onX_s (i : Nat) (k : Nat → RS) : onX (some i) k = k i := rfl
theorem fPut_ap (i : Nat) (e j : FE) (δ : DEnv) : fPut i e j δ = onO (e δ) fun r δ1 => onN δ1[i]? fun ts => onO (j δ1) fun n _ => onI n.data fun k => onX (ixN ts.length k) fun j => .nx (δ1.set i (some (.nd (ts.set j (.fz r.data))))) := by
  unfold fPut
  rw [wE_ap]
  congr 1
  funext r δ1
  generalize δ1[i]? = o
  rcases o with _ | _ | (_ | _ | _ | _)
  · rfl
  · rfl
  · rfl
  · show wE j _ δ1 = onO (j δ1) _
    rw [wE_ap]
    congr 1
    funext n δ2
    generalize n.data = d
    cases d <;> try rfl
    show (match ixN _ _ with | some j => _ | none => _) = onX (ixN _ _) _
    generalize ixN _ _ = x
    cases x <;> rfl
  · rfl
  · rfl
noncomputable def onU (o : Option OT) (k : List OT → RS) : RS := match o with | some (.nd ts) => k ts | _ => .bad
theorem onU_t (t : List OT) (k : List OT → RS) : onU (some (.nd t)) k = k t := rfl
noncomputable def onP (o : Option (Option OT)) (k : List OT → RS) : RS := match o with | some (some (.tp ts)) => k ts | _ => .bad
theorem onP_t (t : List OT) (k : List OT → RS) : onP (some (some (.tp t))) k = k t := rfl
theorem fAppAt_ap (i c : Nat) (e : FE) (δ : DEnv) : fAppAt i c e δ = onP δ[i]? fun ts => onU ts[c]? fun us => onO (e δ) fun r _ => if us.length < sizeLine then .nx (δ.set i (some (.tp (ts.set c (.nd (us ++ [.fz r.data])))))) else .bad := by
  unfold fAppAt
  generalize δ[i]? = o
  rcases o with _ | _ | (_ | _ | ts | _)
  · rfl
  · rfl
  · rfl
  · rfl
  · show (match ts[c]? with | some (.nd us) => wE e _ δ | _ => _) = onU ts[c]? _
    generalize ts[c]? = o
    rcases o with _ | (_ | _ | _ | _)
    · rfl
    · rfl
    · show wE e _ δ = onO (e δ) _
      rw [wE_ap]
    · rfl
    · rfl
  · rfl
noncomputable def on2 (ds : List PyData) (k : PyData → PyData → RS) : RS := match ds with | [d, e] => k d e | _ => .bad
theorem on2_d (d e : PyData) (k : PyData → PyData → RS) : on2 [d, e] k = k d e := rfl
theorem fPar_ap (i j : Nat) (a : FA) (δ : DEnv) : fPar i j a δ = onO (a δ) fun rs δ1 => on2 (OT.datas rs) fun d e => .nx ((δ1.set i (some (.fz d))).set j (some (.fz e))) := by
  unfold fPar onO on2
  cases a δ <;> rfl
theorem runD_ap {np n : Nat} {S : FS} {ds : List PyData} (h : ds.length = np) : runD np n S ds = (S (startN n ds)).told := by
  unfold runD; rw [if_pos h]
theorem told_nx (δ : DEnv) : (RS.nx δ).told = .ok (.fz .none) := rfl
theorem told_rt (r : OT) (δ : DEnv) : (RS.rt r δ).told = .ok r := rfl
theorem told_ex (c : Str) (δ : DEnv) : (RS.ex c δ).told = .exn c := rfl
theorem gAdd_i (i j : Int) : gAdd (.int i) (.int j) = some (.int (i + j)) := rfl
theorem gSb_i (i j : Int) : gSb (.int i) (.int j) = some (.int (i - j)) := rfl
theorem gLt_i (i j : Int) : gLt (.int i) (.int j) = some (.bool (decide (i < j))) := rfl
theorem gLe_i (i j : Int) : gLe (.int i) (.int j) = some (.bool (decide (i ≤ j))) := rfl
theorem gGt_i (i j : Int) : gGt (.int i) (.int j) = some (.bool (decide (j < i))) := rfl
theorem gGe_i (i j : Int) : gGe (.int i) (.int j) = some (.bool (decide (j ≤ i))) := rfl
theorem gMul_i {i j : Int} (h : mulB i j = true) : gMul (.int i) (.int j) = some (.int (i * j)) := by
  unfold gMul i2c; dsimp only; rw [if_pos h]
theorem gFdiv_i {i j : Int} (h : divB i j = true) : gFdiv (.int i) (.int j) = some (.int (i.fdiv j)) := by
  unfold gFdiv i2c; dsimp only; rw [if_pos h]
theorem gMod_i {i j : Int} (h : j ≠ 0) : gMod (.int i) (.int j) = some (.int (i.fmod j)) := by
  unfold gMod i2c modB; dsimp only; rw [if_pos (decide_eq_true h)]
theorem gPow_i {i j : Int} (h : powB i j = true) : gPow (.int i) (.int j) = some (.int (i ^ j.toNat)) := by
  unfold gPow i2c; dsimp only; rw [if_pos h]
theorem mulB_l {x y : Int} (h : x.natAbs < 2 ^ 64) : mulB x y = true := mulB_iff.mpr (.of_left (intBits_le_64 (by omega) (by omega)))
theorem mulB_r {x y : Int} (h : y.natAbs < 2 ^ 64) : mulB x y = true := mulB_iff.mpr (.of_right (intBits_le_64 (by omega) (by omega)))
theorem divB_bt {n : Nat} {i j : Int} (h0 : j ≠ 0) (h : Bt n j) (hn : n ≤ 9000 := by decide) : divB i j = true := by
  obtain ⟨h1, h2⟩ := DivOk.of (i := i) h0 h hn
  unfold divB
  rw [decide_eq_true h1, decide_eq_true h2]; rfl
theorem gEq_i (i j : Int) : gEq (.int i) (.int j) = some (.bool (decide (i = j))) := by
  show some (PyData.bool (i == j)) = _
  rw [show (i == j) = decide (i = j) from rfl]
theorem gNe_i (i j : Int) : gNe (.int i) (.int j) = some (.bool (!decide (i = j))) := by
  show some (PyData.bool (!(i == j))) = _
  rw [show (i == j) = decide (i = j) from rfl]
theorem gIs_n (d : PyData) : gIs d .none = some (.bool (isNoneD d)) := rfl
theorem gIsNot_n (d : PyData) : gIsNot d .none = some (.bool (!isNoneD d)) := rfl
theorem gIx_l (ds : List PyData) (i : Int) : gIx (.list ds) (.int i) = (atI ds i).bind fun x => some (.fz x) := rfl
theorem gIx_t (ds : List PyData) (i : Int) : gIx (.tuple ds) (.int i) = (atI ds i).bind fun x => some (.fz x) := rfl
theorem gLen_l (ds : List PyData) : gLen [.list ds] = some (.int ds.length) := rfl
theorem gLen_t (ds : List PyData) : gLen [.tuple ds] = some (.int ds.length) := rfl
theorem gAbs_i (i : Int) : gAbs [.int i] = some (.int (i.natAbs : Int)) := by
  show some (PyData.int (if i < 0 then -i else i)) = _
  congr 2; split <;> omega
theorem gMax_i (i j : Int) : gMax [.int i, .int j] = some (.int (if j > i then j else i)) := rfl
theorem gMin_i (i j : Int) : gMin [.int i, .int j] = some (.int (if j < i then j else i)) := rfl
theorem gInt_i (i : Int) : gInt [.int i] = some (.int i) := rfl
theorem gInt_b (b : Bool) : gInt [.bool b] = some (.int (if b then 1 else 0)) := rfl
theorem gList_l (ds : List PyData) : gList [.list ds] = some (.nd (ds.map OT.fz)) := rfl
theorem gList_t (ds : List PyData) : gList [.tuple ds] = some (.nd (ds.map OT.fz)) := rfl
theorem gCat_l {ds es : List PyData} (h : ds.length + es.length ≤ sizeLine) : gCat (.list ds) (.list es) = some (.nd ((ds ++ es).map OT.fz)) := by
  unfold gCat; dsimp only; rw [if_pos h]
theorem negD_i (i : Int) : negD (.int i) = some (.int (-i)) := rfl
theorem notD_b (b : Bool) : notD (.bool b) = some (.bool (!b)) := rfl
theorem truD_b (b : Bool) : truD (.bool b) = some b := rfl
theorem truD_i (i : Int) : truD (.int i) = some (i != 0) := rfl
theorem truD_n : truD .none = some false := rfl
theorem truD_l (ds : List PyData) : truD (.list ds) = some (!ds.isEmpty) := rfl
theorem gNe_self {n : Nat} {d : PyData} (h : Sh n d) (hp : plainD d = true) (hn : n ≤ 60) : gNe d d = some (.bool false) := by
  have s : SeqAt.shaped d = true := (h.shp (by omega)).ok
  unfold gNe
  rw [if_pos (by rw [s]; rfl), eqv_self hp]; rfl
theorem for_nx {gg : FG} {u : FS} {ds : List PyData} {δ : DEnv} (I : Nat → DEnv → Prop) (h0 : I 0 δ)
    (turn : ∀ (i : Nat) (d : PyData) (δ : DEnv), ds[i]? = some d → I i δ → ∃ δ1 δ2, gg d δ = some δ1 ∧ (u δ1 = .nx δ2 ∨ u δ1 = .ct δ2) ∧ I (i + 1) δ2) : ∃ δ', forLoop gg u ds δ = .nx δ' ∧ I ds.length δ' := by
  induction ds generalizing δ I with
  | nil => exact ⟨δ, rfl, h0⟩
  | cons d ds ih =>
    obtain ⟨δ1, δ2, e1, e2, h1⟩ := turn 0 d δ rfl h0
    obtain ⟨δ', e3, h3⟩ := ih (δ := δ2) (fun i δ => I (i + 1) δ) h1 fun i d' δ hd hi => turn (i + 1) d' δ (by simpa using hd) hi
    refine ⟨δ', ?_, h3⟩
    rw [forLoop_cons, e1]
    dsimp only
    rcases e2 with e2 | e2 <;> rw [e2] <;> exact e3
noncomputable def Goes (r : RS) (Q : DEnv → Prop) : Prop := ∃ δ, (r = .nx δ ∨ r = .ct δ) ∧ Q δ
theorem Goes.nx {δ : DEnv} {Q : DEnv → Prop} (h : Q δ) : Goes (.nx δ) Q := ⟨δ, .inl rfl, h⟩
theorem Goes.ct {δ : DEnv} {Q : DEnv → Prop} (h : Q δ) : Goes (.ct δ) Q := ⟨δ, .inr rfl, h⟩
theorem comp_nm {α : Type} {me : FE} {cs : DEnv} (mk : α → PyData) (f : α → OT) : ∀ (xs : List α) (z : Option OT), (∀ x ∈ xs, me (some (.fz (mk x)) :: cs) = some (f x, some (.fz (mk x)) :: cs)) →
    ∃ z', compLoop (gNm 0) tYes me (xs.map mk) (z :: cs) = some (xs.map f, z' :: cs)
  | [], z, _ => ⟨z, rfl⟩
  | x :: xs, z, h => by
    obtain ⟨z', e⟩ := comp_nm mk f xs (some (.fz (mk x))) fun y hy => h y (.tail _ hy)
    refine ⟨z', ?_⟩
    rw [List.map_cons, compLoop]
    show (some (some (OT.fz (mk x)) :: cs)).bind _ = _
    rw [Option.bind_some]
    show (some (true, some (OT.fz (mk x)) :: cs)).bind _ = _
    rw [Option.bind_some, if_pos rfl, h x (.head _), Option.bind_some, e]; rfl
theorem comp_fil {α : Type} {t : FT} {me : FE} {cs : DEnv} (mk : α → PyData) (p : α → Bool) (f : α → OT) : ∀ (xs : List α) (z : Option OT), (∀ x ∈ xs, t (some (.fz (mk x)) :: cs) = some (p x, some (.fz (mk x)) :: cs)) → (∀ x ∈ xs, p x = true → me (some (.fz (mk x)) :: cs) = some (f x, some (.fz (mk x)) :: cs)) →
    ∃ z', compLoop (gNm 0) t me (xs.map mk) (z :: cs) = some ((xs.filter p).map f, z' :: cs)
  | [], z, _, _ => ⟨z, rfl⟩
  | x :: xs, z, ht, h => by
    obtain ⟨z', e⟩ := comp_fil mk p f xs (some (.fz (mk x))) (fun y hy => ht y (.tail _ hy)) fun y hy => h y (.tail _ hy)
    refine ⟨z', ?_⟩
    rw [List.map_cons, compLoop]
    show (some (some (OT.fz (mk x)) :: cs)).bind _ = _
    rw [Option.bind_some, ht x (.head _), Option.bind_some]
    dsimp only
    by_cases hp : p x = true
    · rw [if_pos hp, h x (.head _) hp, Option.bind_some, e, List.filter_cons_of_pos hp]; rfl
    · rw [if_neg hp, e, List.filter_cons_of_neg hp]
theorem fComp_nm {α : Type} {caps : List Nat} {it : FI} {me : FE} {cs δ δ1 : DEnv} (xs : List α) (mk : α → PyData) (f : α → OT) (hi : it δ = some (xs.map mk, δ1)) (hz : xs.length ≤ sizeLine) (hb : blk 1 caps δ1 = none :: cs)
    (h : ∀ x ∈ xs, me (some (.fz (mk x)) :: cs) = some (f x, some (.fz (mk x)) :: cs)) : fComp 1 caps it (gNm 0) tYes me δ = some (.nd (xs.map f), δ1) := by
  unfold fComp
  rw [hi, Option.bind_some]
  dsimp only
  rw [if_pos (by rw [List.length_map]; exact hz), hb]
  obtain ⟨z', e⟩ := comp_nm (me := me) (cs := cs) mk f xs none h
  rw [e]; rfl
theorem fComp_fil {α : Type} {caps : List Nat} {it : FI} {t : FT} {me : FE} {cs δ δ1 : DEnv} (xs : List α) (mk : α → PyData) (p : α → Bool) (f : α → OT) (hi : it δ = some (xs.map mk, δ1)) (hz : xs.length ≤ sizeLine) (hb : blk 1 caps δ1 = none :: cs)
    (ht : ∀ x ∈ xs, t (some (.fz (mk x)) :: cs) = some (p x, some (.fz (mk x)) :: cs)) (h : ∀ x ∈ xs, p x = true → me (some (.fz (mk x)) :: cs) = some (f x, some (.fz (mk x)) :: cs)) : fComp 1 caps it (gNm 0) t me δ = some (.nd ((xs.filter p).map f), δ1) := by
  unfold fComp
  rw [hi, Option.bind_some]
  dsimp only
  rw [if_pos (by rw [List.length_map]; exact hz), hb]
  obtain ⟨z', e⟩ := comp_fil (t := t) (me := me) (cs := cs) mk p f xs none ht h
  rw [e]; rfl
theorem two_s : (2 ≤ sizeLine) = True := by simp [sizeLine_eq]
theorem one_s : (1 ≤ sizeLine) = True := by simp [sizeLine_eq]
theorem nil_s : (0 ≤ sizeLine) = True := by simp
theorem three_s : (3 ≤ sizeLine) = True := by simp [sizeLine_eq]
theorem map_fz_map {α : Type} (f : α → PyData) (xs : List α) : (xs.map fun x => OT.fz (f x)).map OT.data = xs.map f := by
  rw [List.map_map]; exact List.map_congr_left fun x _ => OT.data_fz _
theorem rng1_if {α : Type} {j : Int} {x : α} (h0 : 0 ≤ j) (h1 : j ≤ 1000000) : (if rOk j = true then some x else none) = some x := if_pos (rOk_of (by omega) h1)
theorem rng2_if {α : Type} {i j : Int} {x : α} (h0 : 0 ≤ i) (h1 : i ≤ 1000000) (h2 : 0 ≤ j) (h3 : j ≤ 1000000) : (if (rOk i && rOk j) = true then some x else none) = some x := if_pos (by rw [rOk_of (by omega) h1, rOk_of (by omega) h3]; rfl)
theorem app_if {r : RS} {k : Nat} (h : k ≤ 1000000) : (if k < sizeLine then r else .bad) = r := if_pos (by rw [sizeLine_eq]; omega)
end L2
namespace L2
open PySem PySem.Spec PyProof.Rows
noncomputable def EvV (e : FE) (δ : DEnv) (d : PyData) : Prop := ∃ t, e δ = some (t, δ) ∧ t.data = d
noncomputable def EvA (a : FA) (δ : DEnv) (ds : List PyData) : Prop := ∃ ts, a δ = some (ts, δ) ∧ OT.datas ts = ds
noncomputable def EvT (t : FT) (δ : DEnv) (b : Bool) : Prop := t δ = some (b, δ)
noncomputable def Told (F : FD) (ds : List PyData) (d : PyData) : Prop := ∃ t, F ds = .ok t ∧ t.data = d
section
variable {e a b : FE} {as : FA} {δ δ' : DEnv} {x y d : PyData} {xs ds : List PyData} {i j : Nat} {p q : Bool} {t u : FT} {S S' : FS} {r : RS}
theorem EvV.cast {e : FE} {δ : DEnv} {x y : PyData} (h : EvV e δ x) (k : x = y) : EvV e δ y := k ▸ h
theorem ev_var (h : δ[i]? = some (some (.fz d)) := by rfl) : EvV (fVar i) δ d := ⟨_, by rw [fVar_ap, h, asFz_fz], OT.data_fz _⟩
theorem ev_own {t : OT} (h : δ[i]? = some (some t)) (hd : t.data = d) : EvV (fOwn i) δ d := ⟨_, by rw [fOwn_ap, h, asAny_t], by rw [OT.data_fz, hd]⟩
theorem ev_c : EvV (fC d) δ d := ⟨_, rfl, OT.data_fz _⟩
theorem ev_binS {g : PyData → PyData → Option PyData} (ha : EvV a δ x) (hb : EvV b δ y) (h : g x y = some d) : EvV (fBinS g a b) δ d := by
  obtain ⟨_, e1, d1⟩ := ha
  obtain ⟨_, e2, d2⟩ := hb
  exact ⟨_, by rw [fBinS_ap, e1, Option.bind_some, e2, Option.bind_some, d1, d2, h, Option.bind_some], OT.data_fz _⟩
theorem ev_bin {g : PyData → PyData → Option OT} {o : OT} (ha : EvV a δ x) (hb : EvV b δ y) (h : g x y = some o) (hd : o.data = d) : EvV (fBin g a b) δ d := by
  obtain ⟨_, e1, d1⟩ := ha
  obtain ⟨_, e2, d2⟩ := hb
  exact ⟨_, by rw [fBin_ap, e1, Option.bind_some, e2, Option.bind_some, d1, d2, h, Option.bind_some], hd⟩
theorem ev_ix (ha : EvV a δ x) (hb : EvV b δ y) (h : gIx x y = some (.fz d)) : EvV (fBin gIx a b) δ d := ev_bin ha hb h (OT.data_fz _)
theorem ev_add {i j : Int} (ha : EvV a δ (.int i)) (hb : EvV b δ (.int j)) : EvV (fBinS gAdd a b) δ (.int (i + j)) := ev_binS ha hb rfl
theorem ev_sub {i j : Int} (ha : EvV a δ (.int i)) (hb : EvV b δ (.int j)) : EvV (fBinS gSb a b) δ (.int (i - j)) := ev_binS ha hb rfl
theorem ev_un {g : PyData → Option PyData} (ha : EvV a δ x) (h : g x = some d) : EvV (fUn g a) δ d := by
  obtain ⟨_, e1, d1⟩ := ha
  exact ⟨_, by rw [fUn_ap, e1, Option.bind_some, d1, h, Option.bind_some], OT.data_fz _⟩
theorem ev_and_t (ha : EvV a δ (.bool true)) (hb : EvV b δ d) : EvV (fAnd a b) δ d := by
  obtain ⟨_, e1, d1⟩ := ha
  obtain ⟨_, e2, d2⟩ := hb
  exact ⟨_, by rw [fAnd_ap, e1, Option.bind_some, d1, onB_t, e2], d2⟩
theorem ev_or_f (ha : EvV a δ (.bool false)) (hb : EvV b δ d) : EvV (fOr a b) δ d := by
  obtain ⟨_, e1, d1⟩ := ha
  obtain ⟨_, e2, d2⟩ := hb
  exact ⟨_, by rw [fOr_ap, e1, Option.bind_some, d1, onB_f, e2], d2⟩
theorem ev_or_t (ha : EvV a δ (.bool true)) : EvV (fOr a b) δ (.bool true) := by
  obtain ⟨_, e1, d1⟩ := ha
  exact ⟨_, by rw [fOr_ap, e1, Option.bind_some, d1, onB_t], OT.data_fz _⟩
theorem ev_isi {T : String} (ha : EvV a δ x) (hf : isFnD x = false := by rfl) : EvV (fIsi T a) δ (.bool (isTy T x)) := by
  obtain ⟨_, e1, d1⟩ := ha
  exact ⟨_, by rw [fIsi_ap, e1, Option.bind_some, d1, if_neg (by rw [hf]; decide)], OT.data_fz _⟩
theorem ea_nil : EvA aNil δ [] := ⟨_, rfl, datas_nil⟩
theorem ea_cons (h : EvV e δ d) (k : EvA as δ ds) : EvA (aCons e as) δ (d :: ds) := by
  obtain ⟨_, e1, d1⟩ := h
  obtain ⟨_, e2, d2⟩ := k
  exact ⟨_, by rw [aCons_ap, e1, Option.bind_some, e2, Option.bind_some], by rw [datas_cons, d1, d2]⟩
theorem ev_call {F : FD} (h : EvA as δ ds) (k : Told F ds d) : EvV (fCall F as) δ d := by
  obtain ⟨_, e1, d1⟩ := h
  obtain ⟨_, e2, d2⟩ := k
  exact ⟨_, by rw [fCall_ap, e1, Option.bind_some, d1, e2, okO_ok], d2⟩
theorem ev_blS {g : List PyData → Option PyData} (h : EvA as δ ds) (k : g ds = some d) : EvV (fBlS g as) δ d := by
  obtain ⟨_, e1, d1⟩ := h
  exact ⟨_, by rw [fBlS_ap, e1, Option.bind_some, d1, k, Option.bind_some], OT.data_fz _⟩
theorem ev_bl {g : List PyData → Option OT} {o : OT} (h : EvA as δ ds) (k : g ds = some o) (hd : o.data = d) : EvV (fBl g as) δ d := by
  obtain ⟨_, e1, d1⟩ := h
  exact ⟨_, by rw [fBl_ap, e1, Option.bind_some, d1, k, Option.bind_some], hd⟩
theorem datas_len : ∀ ts : List OT, (OT.datas ts).length = ts.length
  | [] => by rw [datas_nil]; rfl
  | t :: ts => by rw [datas_cons, List.length_cons, List.length_cons, datas_len ts]
theorem datas_map : ∀ ts : List OT, OT.datas ts = ts.map OT.data
  | [] => datas_nil
  | t :: ts => by rw [datas_cons, List.map_cons, datas_map ts]
theorem ev_tup (h : EvA as δ ds) (hl : ds.length ≤ 1000) : EvV (fTup as) δ (.tuple ds) := by
  obtain ⟨ts, e1, d1⟩ := h
  have := datas_len ts
  rw [d1] at this
  exact ⟨_, by rw [fTup_ap, e1, Option.bind_some, if_pos (by rw [sizeLine_eq]; show ts.length ≤ _; omega)], by rw [OT.data_fz]; exact congrArg _ d1⟩
theorem ev_lst (h : EvA as δ ds) (hl : ds.length ≤ 1000) : EvV (fLst as) δ (.list ds) := by
  obtain ⟨ts, e1, d1⟩ := h
  have := datas_len ts
  rw [d1] at this
  exact ⟨_, by rw [fLst_ap, e1, Option.bind_some, if_pos (by rw [sizeLine_eq]; show ts.length ≤ _; omega)], by rw [OT.data_nd, ← datas_map, d1]⟩
theorem bool_data {o : OT} {b : Bool} (h : o.data = .bool b) : o = .fz (.bool b) := by
  cases o with
  | fz d => rw [OT.data_fz] at h; rw [h]
  | nd ts => rw [OT.data_nd] at h; cases h
  | tp ts => rw [OT.data_tp] at h; cases h
  | dc _ _ _ => rw [OT.data_dc] at h; cases h
theorem et_V (h : EvV e δ (.bool p)) : EvT (tV e) δ p := by
  obtain ⟨_, e1, d1⟩ := h
  unfold EvT
  rw [tV_ap, e1, Option.bind_some, bool_data d1, asB'_b]
theorem et_D (h : EvV e δ d) (k : truD d = some p) : EvT (tD e) δ p := by
  obtain ⟨_, e1, d1⟩ := h
  unfold EvT
  rw [tD_ap, e1, Option.bind_some, d1, k, Option.bind_some]
theorem et_Db (h : EvV e δ (.bool p)) : EvT (tD e) δ p := et_D h rfl
theorem et_no (h : EvT t δ p) : EvT (tNo t) δ (!p) := by
  unfold EvT at h ⊢
  rw [tNo_ap, h, Option.bind_some]
theorem et_an (h : EvT t δ true) (k : EvT u δ p) : EvT (tAn t u) δ p := by
  unfold EvT at h k ⊢
  rw [tAn_ap, h, Option.bind_some, if_pos rfl, k]
theorem et_an_f (h : EvT t δ false) : EvT (tAn t u) δ false := by
  unfold EvT at h ⊢
  rw [tAn_ap, h, Option.bind_some, if_neg Bool.false_ne_true]
theorem et_o (h : EvT t δ false) (k : EvT u δ p) : EvT (tO t u) δ p := by
  unfold EvT at h k ⊢
  rw [tO_ap, h, Option.bind_some, if_neg Bool.false_ne_true, k]
theorem es_seq (h : S δ = .nx δ') (k : S' δ' = r) : fSeq S S' δ = r := by rw [fSeq_ap, h, thn_nx, k]
theorem es_seq_rt {o : OT} (h : S δ = .rt o δ') : fSeq S S' δ = .rt o δ' := by rw [fSeq_ap, h, thn_rt]
theorem es_set (h : EvV e δ d) : wE e (kSet i) δ = .nx (δ.set i (some (.fz d))) := by
  obtain ⟨_, e1, d1⟩ := h
  rw [wE_ap, e1, onO_some, kSet_ap, d1]
theorem es_ret (h : EvV e δ d) : ∃ o, wE e kRet δ = .rt o δ ∧ o.data = d := by
  obtain ⟨_, e1, d1⟩ := h
  exact ⟨_, by rw [wE_ap, e1, onO_some, kRet_ap], d1⟩
theorem es_if_t (h : EvT t δ true) (k : S δ = r) : fIfS t S S' δ = r := by
  unfold EvT at h
  rw [fIfS_ap, h, onO_some, if_pos rfl, k]
theorem es_if_f (h : EvT t δ false) (k : S' δ = r) : fIfS t S S' δ = r := by
  unfold EvT at h
  rw [fIfS_ap, h, onO_some, if_neg (by decide), k]
noncomputable def Rets (S : FS) (δ : DEnv) (d : PyData) : Prop := ∃ o δ', S δ = .rt o δ' ∧ o.data = d
theorem rt_seq (h : S δ = .nx δ') (k : Rets S' δ' d) : Rets (fSeq S S') δ d := by
  obtain ⟨o, δ2, e, hd⟩ := k
  exact ⟨o, δ2, es_seq h e, hd⟩
theorem rt_first (k : Rets S δ d) : Rets (fSeq S S') δ d := by
  obtain ⟨o, δ2, e, hd⟩ := k
  exact ⟨o, δ2, es_seq_rt e, hd⟩
theorem rt_ret (h : EvV e δ d) : Rets (wE e kRet) δ d := by
  obtain ⟨o, e1, hd⟩ := es_ret h
  exact ⟨o, δ, e1, hd⟩
theorem rt_if_t (h : EvT t δ true) (k : Rets S δ d) : Rets (fIfS t S S') δ d := by
  obtain ⟨o, δ2, e, hd⟩ := k
  exact ⟨o, δ2, es_if_t h e, hd⟩
theorem told_of {np n : Nat} (hl : xs.length = np) (k : Rets S (startN n xs) d) : Told (runD np n S) xs d := by
  obtain ⟨o, δ2, e, hd⟩ := k
  exact ⟨o, by rw [runD_ap hl, e, told_rt], hd⟩
noncomputable def EvO (o : FO) (δ : DEnv) (l : Option Int) : Prop := o δ = some (l, δ)
theorem eo_I {i : Int} (h : EvV e δ (.int i)) : EvO (oI e) δ (some i) := by
  obtain ⟨_, e1, d1⟩ := h
  unfold EvO
  rw [oI_ap, e1, Option.bind_some, d1, asInt_i]
theorem ev_sl {lo hi : FO} {l h : Option Int} (he : EvV e δ (.list ds)) (hl : EvO lo δ l) (hh : EvO hi δ h) : EvV (fSl e lo hi) δ (.list (cutD ds l h)) := by
  obtain ⟨_, e1, d1⟩ := he
  unfold EvO at hl hh
  exact ⟨_, by rw [fSl_ap, e1, Option.bind_some, hl, Option.bind_some, hh, Option.bind_some, d1, asLst_l], by rw [OT.data_nd, OT.map_fz]⟩
theorem ev_cat {es : List PyData} (ha : EvV a δ (.list ds)) (hb : EvV b δ (.list es)) (h : ds.length + es.length ≤ 1000000) : EvV (fBin gCat a b) δ (.list (ds ++ es)) :=
  ev_bin ha hb (gCat_l (by rw [sizeLine_eq]; omega)) (by rw [OT.data_nd, OT.map_fz])
noncomputable def EvI (it : FI) (δ : DEnv) (ds : List PyData) : Prop := it δ = some (ds, δ)
theorem ei_lst (h : EvV e δ (.list ds)) : EvI (iLst e) δ ds := by
  obtain ⟨_, e1, d1⟩ := h
  unfold EvI
  rw [iLst_ap, e1, Option.bind_some, d1, asLst_l]
theorem ei_ra {n : Nat} (h : EvA as δ [.int n]) (hn : n ≤ 1000000) : EvI (iRa as) δ (rngD 0 n) := by
  obtain ⟨_, e1, d1⟩ := h
  unfold EvI
  rw [iRa_ap, e1, Option.bind_some, d1, as1_i, rng1_if (by omega) (by omega), Int.toNat_natCast]
theorem es_for {it : FI} {g : FG} (h : EvI it δ ds) (k : forLoop g S ds δ = r) : fFor it g S δ = r := by
  unfold EvI at h
  rw [fFor_ap, h, onO_some, k]
theorem ev_comp {α : Type} {caps : List Nat} {it : FI} {me : FE} {cs : DEnv} (xs : List α) (mk f : α → PyData) (hi : EvI it δ (xs.map mk)) (hz : xs.length ≤ 1000000) (hb : blk 1 caps δ = none :: cs) (h : ∀ x ∈ xs, EvV me (some (.fz (mk x)) :: cs) (f x)) : EvV (fComp 1 caps it (gNm 0) tYes me) δ (.list (xs.map f)) := by
  have g : ∀ x, ∃ o : OT, x ∈ xs → me (some (.fz (mk x)) :: cs) = some (o, some (.fz (mk x)) :: cs) ∧ o.data = f x := fun x => by
    by_cases c : x ∈ xs
    · obtain ⟨o, h1, h2⟩ := h x c
      exact ⟨o, fun _ => ⟨h1, h2⟩⟩
    · exact ⟨.fz .none, fun z => absurd z c⟩
  obtain ⟨o, ho⟩ := Classical.axiomOfChoice g
  unfold EvI at hi
  refine ⟨_, fComp_nm (cs := cs) xs mk o hi (by rw [sizeLine_eq]; omega) hb (fun x hx => (ho x hx).1), ?_⟩
  rw [OT.data_nd, List.map_map]
  exact congrArg _ (List.map_congr_left fun x hx => (ho x hx).2)
theorem es_app {ts : List OT} (h : EvV e δ d) (hi : δ[i]? = some (some (.nd ts))) (hl : ts.length ≤ 1000000) : fAppend i e δ = .nx (δ.set i (some (.nd (ts ++ [.fz d])))) := by
  obtain ⟨_, e1, d1⟩ := h
  rw [fAppend_ap, hi, onN_t, e1, onO_some, hi, onN_t, app_if hl, d1]
theorem es_setO {o : OT} (h : e δ = some (o, δ)) : wE e (kSetO i) δ = .nx (δ.set i (some o)) := by rw [wE_ap, h, onO_some, kSetO_ap]
theorem rt_O {o : OT} (h : δ[i]? = some (some o)) (hd : o.data = d) : Rets (fRetO i) δ d := ⟨o, _, by rw [fRetO_ap, h, onT_t], hd⟩
theorem es_drop (h : EvV e δ d) : wE e kDrop δ = .nx δ := by
  obtain ⟨_, e1, d1⟩ := h
  rw [wE_ap, e1, onO_some, kDrop_ap]
theorem told_none {np n : Nat} (hl : xs.length = np) (k : S (startN n xs) = .nx δ') : Told (runD np n S) xs .none := ⟨_, by rw [runD_ap hl, k, told_nx], OT.data_fz _⟩
theorem Told.ok {F : FD} {b : Bool} (h : Told F ds (.bool b)) : F ds = .ok (.fz (.bool b)) := by
  obtain ⟨o, e1, d1⟩ := h
  rw [e1, bool_data d1]
theorem int_data {o : OT} {i : Int} (h : o.data = .int i) : o = .fz (.int i) := by
  cases o with
  | fz d => rw [OT.data_fz] at h; rw [h]
  | nd ts => rw [OT.data_nd] at h; cases h
  | tp ts => rw [OT.data_tp] at h; cases h
  | dc _ _ _ => rw [OT.data_dc] at h; cases h
theorem Told.int {F : FD} {i : Int} (h : Told F ds (.int i)) : F ds = .ok (.fz (.int i)) := by
  obtain ⟨o, e1, d1⟩ := h
  rw [e1, int_data d1]
theorem none_data {o : OT} (h : o.data = .none) : o = .fz .none := by
  cases o with
  | fz d => rw [OT.data_fz] at h; rw [h]
  | nd ts => rw [OT.data_nd] at h; cases h
  | tp ts => rw [OT.data_tp] at h; cases h
  | dc _ _ _ => rw [OT.data_dc] at h; cases h
theorem Told.of {F : FD} {o : OT} (h : F ds = .ok o) (hd : o.data = d) : Told F ds d := ⟨o, h, hd⟩
end
end L2
namespace L2
open PySem PySem.Spec PyProof.Rows
section
variable {e a b : FE} {as : FA} {δ δ' : DEnv} {x y d : PyData} {xs ds : List PyData} {i j : Int} {k : Nat} {p q : Bool} {t u : FT} {S S' : FS} {r : RS} {Q : PyData → Prop}
theorem ev_mod (ha : EvV a δ (.int i)) (hb : EvV b δ (.int j)) (h : j ≠ 0) : EvV (fBinS gMod a b) δ (.int (i.fmod j)) := ev_binS ha hb (gMod_i h)
theorem fdiv_c {i j : Int} (h : (decide (0 < j) && decide (j < 18446744073709551616)) = true) : gFdiv (.int i) (.int j) = some (.int (i.fdiv j)) := by
  rw [Bool.and_eq_true, decide_eq_true_eq, decide_eq_true_eq] at h
  exact gFdiv_i (divB_bt (n := 64) (by omega) (Bt.of_lt (by omega) (by omega)))
theorem ev_fdiv (ha : EvV a δ (.int i)) (hb : EvV b δ (.int j)) (h : (decide (0 < j) && decide (j < 18446744073709551616)) = true := by decide) : EvV (fBinS gFdiv a b) δ (.int (i.fdiv j)) := ev_binS ha hb (fdiv_c h)
theorem ev_mulL (ha : EvV a δ (.int i)) (hb : EvV b δ (.int j)) (h : i.natAbs < 2 ^ 64 := by decide) : EvV (fBinS gMul a b) δ (.int (i * j)) := ev_binS ha hb (gMul_i (mulB_l h))
theorem ev_mulR (ha : EvV a δ (.int i)) (hb : EvV b δ (.int j)) (h : j.natAbs < 2 ^ 64 := by decide) : EvV (fBinS gMul a b) δ (.int (i * j)) := ev_binS ha hb (gMul_i (mulB_r h))
theorem ev_lt (ha : EvV a δ (.int i)) (hb : EvV b δ (.int j)) (h : decide (i < j) = p) : EvV (fBinS gLt a b) δ (.bool p) := h ▸ ev_binS ha hb rfl
theorem ev_ge (ha : EvV a δ (.int i)) (hb : EvV b δ (.int j)) (h : decide (j ≤ i) = p) : EvV (fBinS gGe a b) δ (.bool p) := h ▸ ev_binS ha hb (gGe_i _ _)
theorem ev_eq (ha : EvV a δ (.int i)) (hb : EvV b δ (.int j)) (h : decide (i = j) = p) : EvV (fBinS gEq a b) δ (.bool p) := h ▸ ev_binS ha hb (gEq_i _ _)
theorem ev_ne (ha : EvV a δ (.int i)) (hb : EvV b δ (.int j)) (h : (!decide (i = j)) = p) : EvV (fBinS gNe a b) δ (.bool p) := h ▸ ev_binS ha hb (gNe_i _ _)
theorem ev_len {ds : List PyData} (h : EvV e δ (.list ds)) : EvV (fBlS gLen (aCons e aNil)) δ (.int ds.length) := ev_blS (ea_cons h ea_nil) (gLen_l ds)
theorem ev_atI (ha : EvV a δ (.list ds)) (hb : EvV b δ (.int i)) (h : atI ds i = some d) : EvV (fBin gIx a b) δ d := ev_ix ha hb (by rw [gIx_l, h]; rfl)
noncomputable def RetQ (S : FS) (δ : DEnv) (Q : PyData → Prop) : Prop := ∃ d, Rets S δ d ∧ Q d
theorem rq_seq (h : S δ = .nx δ') (k : RetQ S' δ' Q) : RetQ (fSeq S S') δ Q := k.imp fun _ k => ⟨rt_seq h k.1, k.2⟩
theorem rq_O {o : OT} (h : δ[k]? = some (some o)) (hd : Q o.data) : RetQ (fRetO k) δ Q := ⟨_, rt_O h rfl, hd⟩
theorem toldQ {np n : Nat} (hl : xs.length = np) (h : RetQ S (startN n xs) Q) : ∃ d, Told (runD np n S) xs d ∧ Q d := h.imp fun _ k => ⟨told_of hl k.1, k.2⟩
theorem rq_for {it : FI} {g : FG} (I : Nat → DEnv → Prop) (hi : EvI it δ ds) (h0 : I 0 δ) (turn : ∀ (i : Nat) (d : PyData) (δ : DEnv), ds[i]? = some d → I i δ → ∃ δ1 δ2, g d δ = some δ1 ∧ (S δ1 = .nx δ2 ∨ S δ1 = .ct δ2) ∧ I (i + 1) δ2) (k : ∀ δ', I ds.length δ' → RetQ S' δ' Q) : RetQ (fSeq (fFor it g S) S') δ Q := by
  obtain ⟨δ', e, h⟩ := for_nx I h0 turn
  exact rq_seq (es_for hi e) (k δ' h)
theorem rt_for {it : FI} {g : FG} (I : Nat → DEnv → Prop) (hi : EvI it δ ds) (h0 : I 0 δ) (turn : ∀ (i : Nat) (d : PyData) (δ : DEnv), ds[i]? = some d → I i δ → ∃ δ1 δ2, g d δ = some δ1 ∧ (S δ1 = .nx δ2 ∨ S δ1 = .ct δ2) ∧ I (i + 1) δ2) (k : ∀ δ', I ds.length δ' → Rets S' δ' d) : Rets (fSeq (fFor it g S) S') δ d := by
  obtain ⟨δ', e, h⟩ := for_nx I h0 turn
  exact rt_seq (es_for hi e) (k δ' h)
theorem es_forI {it : FI} {g : FG} (I : Nat → DEnv → Prop) (hi : EvI it δ ds) (h0 : I 0 δ) (turn : ∀ (i : Nat) (d : PyData) (δ : DEnv), ds[i]? = some d → I i δ → ∃ δ1 δ2, g d δ = some δ1 ∧ (S δ1 = .nx δ2 ∨ S δ1 = .ct δ2) ∧ I (i + 1) δ2) : ∃ δ', fFor it g S δ = .nx δ' ∧ I ds.length δ' := by
  obtain ⟨δ', e, h⟩ := for_nx I h0 turn
  exact ⟨δ', es_for hi e, h⟩
theorem ei_rb {m n : Nat} (h : EvA as δ [.int m, .int n]) (hm : m ≤ 1000000) (hn : n ≤ 1000000) : EvI (iRb as) δ (rngD m (n - m)) := by
  obtain ⟨_, e1, d1⟩ := h
  unfold EvI
  rw [iRb_ap, e1, Option.bind_some, d1, as2_i, rng2_if (by omega) (by omega) (by omega) (by omega), show ((n : Int) - (m : Int)).toNat = n - m by omega]
theorem es_nil : wE (fLst aNil) (kSetO k) δ = .nx (δ.set k (some (.nd []))) := es_setO (by rw [fLst_ap]; rfl)
theorem fmod_nn {i : Int} (h : 0 < j) : 0 ≤ i.fmod j := by rw [fmod_pos h]; exact Int.emod_nonneg _ (by omega)
theorem fmod_lt {i : Int} (h : 0 < j) : i.fmod j < j := by rw [fmod_pos h]; exact Int.emod_lt_of_pos _ h
theorem ei_zipA {es : List PyData} (h : EvA as δ ds) (hz : zipA ds = some es) : EvI (iZipA as) δ es := by
  obtain ⟨_, e1, d1⟩ := h
  unfold EvI iZipA
  rw [e1, Option.bind_some, d1, hz, Option.bind_some]
theorem turn_for {it : FI} {g gg : FG} {δ1 : DEnv} (I : Nat → DEnv → Prop) {J : DEnv → Prop} (hg : gg d δ = some δ1) (hi : EvI it δ1 ds) (h0 : I 0 δ1) (turn : ∀ (i : Nat) (d : PyData) (δ : DEnv), ds[i]? = some d → I i δ → ∃ δ1 δ2, g d δ = some δ1 ∧ (S δ1 = .nx δ2 ∨ S δ1 = .ct δ2) ∧ I (i + 1) δ2) (hJ : ∀ δ', I ds.length δ' → J δ') : ∃ δ1 δ2, gg d δ = some δ1 ∧ (fFor it g S δ1 = .nx δ2 ∨ fFor it g S δ1 = .ct δ2) ∧ J δ2 := by
  obtain ⟨δ', e, h⟩ := for_nx I h0 turn
  exact ⟨δ1, δ', hg, .inl (es_for hi e), hJ δ' h⟩
theorem ev_isT {T : String} (ha : EvV a δ x) (h : isTy T x = p) (hf : isFnD x = false := by rfl) : EvV (fIsi T a) δ (.bool p) := (ev_isi ha hf).cast (by rw [h])
theorem ev_compF {α : Type} {caps : List Nat} {it : FI} {me : FE} {t : FT} {cs : DEnv} (xs : List α) (mk : α → PyData) (pr : α → Bool) (hi : EvI it δ (xs.map mk)) (hz : xs.length ≤ 1000000) (hb : blk 1 caps δ = none :: cs) (ht : ∀ x ∈ xs, EvT t (some (.fz (mk x)) :: cs) (pr x)) (h : ∀ x ∈ xs, pr x = true → me (some (.fz (mk x)) :: cs) = some (.fz (mk x), some (.fz (mk x)) :: cs)) : EvV (fComp 1 caps it (gNm 0) t me) δ (.list ((xs.filter pr).map mk)) := by
  unfold EvI at hi
  refine ⟨_, fComp_fil (cs := cs) xs mk pr (fun x => .fz (mk x)) hi (by rw [sizeLine_eq]; omega) hb (fun x hx => ht x hx) h, ?_⟩
  rw [OT.data_nd, List.map_map]
  exact congrArg _ (List.map_congr_left fun x _ => OT.data_fz _)
theorem Told.none {F : FD} (h : Told F ds .none) : F ds = .ok (.fz .none) := by
  obtain ⟨o, e1, d1⟩ := h
  rw [e1, none_data d1]
end
end L2
namespace My
open PySem L2 PySem.Spec
noncomputable def S_greatest_divisor_46d9 : FS :=
  (fSeq (wE (fBlS gAbs (aCons (fVar 0) aNil)) (kSet 0))
    (fSeq (wE (fBlS gAbs (aCons (fVar 1) aNil)) (kSet 1))
    (fSeq (fWhile (tV (fBinS gNe (fVar 1) (fC (.int 0)))) (fSeq (wE (fBinS gMod (fVar 0) (fVar 1)) (kSet 2))
    (fSeq (wE (fVar 1) (kSet 0))
    (wE (fVar 2) (kSet 1)))))
    (wE (fVar 0) kRet))))
noncomputable def F_greatest_divisor_46d9 : FD := runD 2 3 S_greatest_divisor_46d9
theorem gcd_loop {f1 f2 : Int → Int → Option OT → DEnv} {t : FT} {u : FS} (ht : ∀ x y z, t (f1 x y z) = some (!decide (y = 0), f1 x y z)) (hu : ∀ x y z, y ≠ 0 → ∃ z', u (f1 x y z) = .nx (f1 y (x.fmod y) z')) :
    ∀ (n : Nat) (x y : Int) (z : Option OT), 0 ≤ x → 0 ≤ y → y.toNat < n → ∃ z', whileLoop t u n (f1 x y z) = .nx (f1 (Int.gcd x y : Int) 0 z')
  | 0, _, _, _, _, _, h => absurd h (Nat.not_lt_zero _)
  | n + 1, x, y, z, hx, hy, h => by
    unfold whileLoop
    rw [ht]
    dsimp only
    by_cases c : y = 0
    · subst c
      refine ⟨z, ?_⟩
      simp only [decide_true, Bool.not_true, Bool.false_eq_true, if_false]
      rw [Int.gcd_zero_right]
      congr 2
      omega
    · simp only [c, decide_false, Bool.not_false, if_true]
      obtain ⟨z1, e1⟩ := hu x y z c
      rw [e1]
      dsimp only
      have hm : x.fmod y = x % y := fmod_pos (by omega)
      have h1 : 0 ≤ x % y := Int.emod_nonneg x c
      have h2 : x % y < y := Int.emod_lt_of_pos x (by omega)
      obtain ⟨z2, e2⟩ := gcd_loop (f1 := f1) (f2 := f2) ht hu n y (x.fmod y) z1 hy (by omega) (by omega)
      exact ⟨z2, by rw [e2, gcd_step hx (by omega)]⟩
theorem greatest_divisor_ok (a b : Int) : F_greatest_divisor_46d9 [.int a, .int b] = .ok (.fz (.int (Int.gcd a b : Int))) := by
  obtain ⟨z', e⟩ := gcd_loop (f1 := fun x y z => [some (.fz (.int x)), some (.fz (.int y)), z]) (f2 := fun x y z => []) (t := tV (fBinS gNe (fVar 1) (fC (.int 0)))) (u := fSeq (wE (fBinS gMod (fVar 0) (fVar 1)) (kSet 2)) (fSeq (wE (fVar 1) (kSet 0)) (wE (fVar 2) (kSet 1)))) (fun x y z => et_V (ev_ne ev_var ev_c rfl)) (fun x y z hy => ⟨_, es_seq (es_set (ev_mod ev_var ev_var hy)) (es_seq (es_set ev_var) (es_set ev_var))⟩) ((b.natAbs : Int).toNat + 1) (a.natAbs : Int) (b.natAbs : Int) none (by omega) (by omega) (by omega)
  rw [Int.gcd_eq_natAbs_gcd_natAbs, Int.natAbs_natCast, Int.natAbs_natCast] at e
  exact Told.int <| told_of rfl <| rt_seq (es_set (ev_blS (ea_cons ev_var ea_nil) (gAbs_i a))) <| rt_seq (es_set (ev_blS (ea_cons ev_var ea_nil) (gAbs_i b))) <| rt_seq (fWhile_eq _ e (by intro z; cases z)) (rt_ret ev_var)
noncomputable def S_in_least_2747 : FS :=
  (fSeq (wE (fCall F_greatest_divisor_46d9 (aCons (fVar 0) (aCons (fVar 1) aNil))) (kSet 2))
    (fSeq (fIfS (tV (fBinS gLt (fVar 1) (fC (.int 0))))
    (wE (fUn negD (fVar 2)) (kSet 2))
    fNx)
    (wE (fTup (aCons (fBinS gFdiv (fVar 0) (fVar 2)) (aCons (fBinS gFdiv (fVar 1) (fVar 2)) aNil))) kRet)))
noncomputable def F_in_least_2747 : FD := runD 2 3 S_in_least_2747
theorem fr_le {n : Nat} {t b : Int} (hb : b ≠ 0) (hB : Bt n b) (hn : n ≤ 9000) (s : Int) (e : s = shr t b) : gFdiv (.int t) (.int s) = some (.int (Rat.divInt t b).num) ∧ gFdiv (.int b) (.int s) = some (.int ((Rat.divInt t b).den : Int)) := by
  subst e
  rw [gFdiv_i (divB_bt (shr_ne hb) (shr_bt hb hB) hn), gFdiv_i (divB_bt (shr_ne hb) (shr_bt hb hB) hn), low_num hb, low_den hb]
  exact ⟨rfl, rfl⟩
noncomputable def S_is_whole_593d : FS :=
  (wE (fAnd (fIsi "int" (fVar 0)) (fUn notD (fIsi "bool" (fVar 0)))) kRet)
noncomputable def F_is_whole_593d : FD := runD 1 1 S_is_whole_593d
theorem is_whole_int (i : Int) : F_is_whole_593d [.int i] = .ok (.fz (.bool true)) := rfl
noncomputable def S_fraction_a12d : FS :=
  (fSeq (fIfS (tO (tNo (tD (fCall F_is_whole_593d (aCons (fVar 0) aNil)))) (tO (tNo (tD (fCall F_is_whole_593d (aCons (fVar 1) aNil)))) (tV (fBinS gEq (fVar 1) (fC (.int 0))))))
    (fRaise "NoNumber")
    fNx)
    (wE (fCall F_in_least_2747 (aCons (fVar 0) (aCons (fVar 1) aNil))) kRet))
noncomputable def F_fraction_a12d : FD := runD 2 2 S_fraction_a12d
noncomputable def S_shared_bottom_9ffc : FS :=
  (fSeq (wE (fC (.int 1)) (kSet 1))
    (fSeq (fFor (iLst (fVar 0)) (gNm 2)
    (wE (fBinS gMul (fBinS gFdiv (fVar 1) (fCall F_greatest_divisor_46d9 (aCons (fVar 1) (aCons (fBin gIx (fVar 2) (fC (.int 1))) aNil)))) (fBin gIx (fVar 2) (fC (.int 1)))) (kSet 1)))
    (wE (fVar 1) kRet)))
noncomputable def F_shared_bottom_9ffc : FD := runD 1 3 S_shared_bottom_9ffc
noncomputable def prD (p : Int × Int) : PyData := .tuple [.int p.1, .int p.2]
noncomputable def S_table_bottom_a5f2 : FS :=
  (fSeq (wE (fC (.int 1)) (kSet 1))
    (fSeq (fFor (iLst (fVar 0)) (gNm 2)
    (wE (fCall F_shared_bottom_9ffc (aCons (fBin gCat (fLst (aCons (fTup (aCons (fC (.int 1)) (aCons (fVar 1) aNil))) aNil)) (fVar 2)) aNil)) (kSet 1)))
    (wE (fVar 1) kRet)))
noncomputable def F_table_bottom_a5f2 : FD := runD 1 3 S_table_bottom_a5f2
noncomputable def S_tops_over_2cfa : FS :=
  (wE (fComp 1 [0] (iLst (fVar 1)) (gNm 0) tYes (fBinS gMul (fBin gIx (fVar 0) (fC (.int 0))) (fBinS gFdiv (fVar 1) (fBin gIx (fVar 0) (fC (.int 1)))))) kRet)
noncomputable def F_tops_over_2cfa : FD := runD 2 2 S_tops_over_2cfa
noncomputable def S_table_over_45d9 : FS :=
  (wE (fComp 1 [0] (iLst (fVar 1)) (gNm 0) tYes (fCall F_tops_over_2cfa (aCons (fVar 1) (aCons (fVar 0) aNil)))) kRet)
noncomputable def F_table_over_45d9 : FD := runD 2 2 S_table_over_45d9
noncomputable def S_pairs_of_c302 : FS :=
  (fSeq (wE (fLst aNil) (kSetO 1))
    (fSeq (fFor (iRa (aCons (fVar 0) aNil)) (gNm 2)
    (fFor (iRb (aCons (fBinS gAdd (fVar 2) (fC (.int 1))) (aCons (fVar 0) aNil))) (gNm 3)
    (fAppend 1 (fTup (aCons (fVar 2) (aCons (fVar 3) aNil))))))
    (fRetO 1)))
noncomputable def F_pairs_of_c302 : FD := runD 1 4 S_pairs_of_c302
noncomputable def pairsN (n : Nat) : List (Nat × Nat) := (List.range n).flatMap fun i => (List.range (n - (i + 1))).map fun j => (i, i + 1 + j)
noncomputable def ptD (p : Nat × Nat) : PyData := .tuple [.int p.1, .int p.2]
theorem pairsN_mem {n : Nat} {p : Nat × Nat} (h : p ∈ pairsN n) : p.1 < p.2 ∧ p.2 < n := by
  unfold pairsN at h
  obtain ⟨i, hi, hp⟩ := List.mem_flatMap.mp h
  obtain ⟨j, hj, rfl⟩ := List.mem_map.mp hp
  have := List.mem_range.mp hi
  have := List.mem_range.mp hj
  dsimp only
  omega
noncomputable def prsTo (n i : Nat) : List (Nat × Nat) := (List.range i).flatMap fun i => (List.range (n - (i + 1))).map fun j => (i, i + 1 + j)
theorem prsTo_len (n : Nat) : ∀ i, (prsTo n i).length ≤ i * n
  | 0 => by simp [prsTo]
  | i + 1 => by
    have := prsTo_len n i
    unfold prsTo at this ⊢
    rw [List.range_succ, List.flatMap_append, List.length_append]
    simp only [List.flatMap_cons, List.flatMap_nil, List.append_nil, List.length_map, List.length_range]
    have e : (i + 1) * n = i * n + n := by rw [Nat.succ_mul]
    omega
theorem prsTo_succ (n i : Nat) : prsTo n (i + 1) = prsTo n i ++ (List.range (n - (i + 1))).map fun j => (i, i + 1 + j) := by
  unfold prsTo; rw [List.range_succ, List.flatMap_append]; simp
theorem pairs_of_ok (n : Nat) (hn : n ≤ 1000) : Told F_pairs_of_c302 [.int n] (.list ((pairsN n).map ptD)) := by
  refine told_of rfl <| rt_seq es_nil <| rt_for (ds := rngD 0 n) (fun i δ => ∃ z1 z2, δ = [some (.fz (.int n)), some (.nd (((prsTo n i).map ptD).map OT.fz)), z1, z2]) (ei_ra (ea_cons ev_var ea_nil) (by omega)) ⟨_, _, rfl⟩ (fun i d δ hd h => ?_) fun δ' h => ?_
  · obtain ⟨z1, z2, rfl⟩ := h
    obtain ⟨hi, rfl⟩ := rngD_get hd
    rw [Int.zero_add]
    have ln := prsTo_len n i
    have l2 : i * n ≤ 999 * 1000 := Nat.mul_le_mul (by omega) hn
    refine turn_for (ds := rngD ((i + 1 : Nat) : Int) (n - (i + 1))) (fun j δ => ∃ z, δ = [some (.fz (.int n)), some (.nd (((prsTo n i ++ (List.range j).map fun j => (i, i + 1 + j)).map ptD).map OT.fz)), some (.fz (.int i)), z]) rfl (ei_rb (m := i + 1) (ea_cons (EvV.cast (ev_add ev_var ev_c) rfl) (ea_cons ev_var ea_nil)) (by omega) (by omega)) ⟨z2, by rw [List.range_zero, List.map_nil, List.append_nil]; rfl⟩ (fun j d δ hd h => ?_) fun δ' h => ?_
    · obtain ⟨z, rfl⟩ := h
      obtain ⟨hj, rfl⟩ := rngD_get hd
      refine ⟨_, _, rfl, .inl (es_app (ev_tup (ea_cons ev_var (ea_cons ev_var ea_nil)) (show 2 ≤ 1000 by decide)) rfl (by rw [List.length_map, List.length_map, List.length_append, List.length_map, List.length_range]; omega)), some (.fz (.int (((i + 1 : Nat) : Int) + j))), ?_⟩
      rw [List.range_succ]
      simp only [List.map_append, List.append_assoc]
      rfl
    · obtain ⟨z, rfl⟩ := h
      rw [rngD_length, ← prsTo_succ]
      exact ⟨_, _, rfl⟩
  · obtain ⟨z1, z2, rfl⟩ := h
    rw [rngD_length]
    exact rt_O rfl (by rw [OT.data_nd, OT.map_fz]; rfl)
end My
namespace My
open PySem L2 PySem.Spec
noncomputable def S_law_cell_at_2443 : FS :=
  (fSeq (fIfS (tV (fBinS gLt (fVar 1) (fBlS gLen (aCons (fVar 0) aNil))))
    (wE (fBin gIx (fVar 0) (fVar 1)) kRet)
    fNx)
    (wE (fC (.int 0)) kRet))
noncomputable def F_law_cell_at_2443 : FD := runD 2 2 S_law_cell_at_2443
noncomputable def S_law_size_ad24 : FS :=
  (fSeq (fIfS (tV (fBinS gEq (fBinS gMod (fBinS gFdiv (fVar 0) (fC (.int 7))) (fC (.int 8))) (fC (.int 3))))
    (wE (fBinS gAdd (fBinS gAdd (fVar 2) (fC (.int 1))) (fBinS gMod (fBinS gFdiv (fVar 0) (fC (.int 56))) (fBinS gSb (fVar 3) (fVar 2)))) kRet)
    fNx)
    (wE (fBinS gAdd (fVar 1) (fBinS gMod (fVar 0) (fBinS gSb (fBinS gAdd (fVar 2) (fC (.int 1))) (fVar 1)))) kRet))
noncomputable def F_law_size_ad24 : FD := runD 4 4 S_law_size_ad24
noncomputable def S_law_stir_60a2 : FS :=
  (fSeq (wE (fBinS gMod (fBinS gMul (fBinS gAdd (fBinS gAdd (fBinS gMod (fVar 0) (fC (.int 2147483629))) (fBinS gMul (fC (.int 9973)) (fVar 1))) (fC (.int 5))) (fC (.int 48271))) (fC (.int 2147483647))) (kSet 2))
    (fSeq (wE (fBinS gMod (fBinS gMul (fVar 2) (fVar 2)) (fC (.int 2147483587))) (kSet 2))
    (wE (fBinS gFdiv (fBinS gMod (fBinS gMul (fBinS gAdd (fVar 2) (fBinS gMul (fC (.int 7919)) (fVar 1))) (fC (.int 16807))) (fC (.int 2147483563))) (fC (.int 8))) kRet)))
noncomputable def F_law_stir_60a2 : FD := runD 2 3 S_law_stir_60a2
noncomputable def S_law_numbers_5134 : FS :=
  (fSeq (wE (fLst aNil) (kSetO 2))
    (fSeq (wE (fVar 0) (kSet 3))
    (fSeq (fFor (iRa (aCons (fVar 1) aNil)) (gNm 4)
    (fSeq (wE (fCall F_law_stir_60a2 (aCons (fVar 0) (aCons (fVar 4) aNil))) (kSet 5))
    (fSeq (fIfS (tV (fBinS gGe (fVar 0) (fBinS gPow (fC (.int 10)) (fC (.int 18)))))
    (wE (fBinS gMod (fVar 3) (fC (.int 720720))) (kSet 5))
    fNx)
    (fSeq (wE (fBinS gFdiv (fVar 3) (fC (.int 720720))) (kSet 3))
    (fAppend 2 (fVar 5))))))
    (fRetO 2))))
noncomputable def F_law_numbers_5134 : FD := runD 2 6 S_law_numbers_5134
noncomputable def intsL (p : List Int) : PyData := .list (p.map PyData.int)
theorem atI_ints {p : List Int} {i : Int} (h0 : 0 ≤ i) (h1 : i < p.length) : atI (p.map PyData.int) i = some (.int (p.getD i.toNat 0)) := by
  rw [atI_nn h0, List.getElem?_map, List.getElem?_eq_getElem (by omega)]
  simp [List.getD_eq_getElem?_getD, List.getElem?_eq_getElem (show i.toNat < p.length by omega)]
theorem ev_intsAt {a b : FE} {δ : DEnv} {p : List Int} {i : Int} (ha : EvV a δ (intsL p)) (hb : EvV b δ (.int i)) (h0 : 0 ≤ i) (h1 : i < p.length) : EvV (fBin gIx a b) δ (.int (p.getD i.toNat 0)) := ev_atI ha hb (atI_ints h0 h1)
theorem ev_intsLen {a : FE} {δ : DEnv} {p : List Int} (ha : EvV a δ (intsL p)) : EvV (fBlS gLen (aCons a aNil)) δ (.int p.length) := by
  have := ev_len (ds := p.map PyData.int) ha
  rwa [List.length_map] at this
theorem gP18 : gPow (.int 10) (.int 18) = some (.int 1000000000000000000) := rfl
theorem cell_at_ok (ns : List Int) {k : Int} (h0 : 0 ≤ k) : ∃ c, F_law_cell_at_2443 [intsL ns, .int k] = .ok (.fz (.int c)) := by
  by_cases c : k < ns.length
  · exact ⟨_, Told.int <| told_of rfl <| rt_first (rt_if_t (et_V (ev_lt ev_var (ev_intsLen ev_var) (decide_eq_true c))) (rt_ret (ev_intsAt ev_var ev_var h0 c)))⟩
  · exact ⟨_, Told.int <| told_of rfl <| rt_seq (es_if_f (et_V (ev_lt ev_var (ev_intsLen ev_var) (decide_eq_false c))) rfl) (rt_ret ev_c)⟩
theorem app_ints {i : Nat} {e : FE} {δ : DEnv} {vs : List Int} {v : Int} (h : EvV e δ (.int v)) (hi : δ[i]? = some (some (.nd (vs.map fun v => .fz (.int v))))) (hl : vs.length ≤ 1000000) : fAppend i e δ = .nx (δ.set i (some (.nd ((vs ++ [v]).map fun v => .fz (.int v))))) := by
  rw [es_app h hi (by rw [List.length_map]; exact hl), List.map_append]; rfl
theorem nd_ints2 (vs : List Int) : (OT.nd (vs.map fun v => OT.fz (.int v))).data = intsL vs := by rw [OT.data_nd, map_fz_map]; rfl
end My
namespace L2
open PySem PySem.Spec PyProof.Rows
variable {G : PySem.W.Frag}
section
variable {X : Cx} {io : List Nat} {p c : Bool} {e a b : Expr} {es : List Expr} {m mj : MEt} {pos apos cpos px sp kp : Pos} {i : Nat} {x : Str} {fa fb : FE} {st : Stmt}
noncomputable def mAppIx (i : Nat) (mj m : MEt) : MSt := fun D δ => match δ[i]? with
  | some (some (.nd ts)) => mj δ fun n _ => match n.data with
    | .int k => match ixN ts.length k with
      | some j => match ts[j]? with
        | some (.nd us) => m δ fun r _ => us.length < sizeLine ∧ D.nx (δ.set i (some (.nd (ts.set j (.nd (us ++ [.fz r.data]))))))
        | _ => False
      | none => False
    | _ => False
  | _ => False
theorem ms_appIx (i : Nat) (hj : ME X io true c a mj) (he : ME X io true true e m) (hPa : PlainIx a := by exact fun _ _ => rfl) (hN : X.N[i]? = some x := by rfl) (hv : Vis X.env.scope x := by first | exact Or.inl rfl | exact Or.inr (Or.inl rfl) | exact Or.inr (Or.inr rfl)) (hd : (x == ("__debug__" : Str)) = false := by decide)
    (hcd : (x == ("__classdict__" : Str)) = false := by decide)
    (hbase : attributeBase (.Subscript (.Name x px) a sp) "append" X.env (eval (.Subscript (.Name x px) a sp) X.env) = eval (.Subscript (.Name x px) a sp) X.env := by rfl)
    (hfew : ((backTo cpos (starEach [e] X.env)).all (fun x => !x.1) && (backToKw cpos (keywordEach [] X.env)).all (fun x => x.1.isSome)
      && decide ([e].length + ([] : List Keyword).length + (if ([] : List Keyword).isEmpty then 0 else 1) < 30)) = true := by rfl)
    (hline : (apos.endLine == cpos.line) = true := by rfl) (hs : starEach [e] X.env = (false, eval e X.env) :: starEach [] X.env := by rfl) (hplain : (backTo cpos (starEach [] X.env)).any (·.1) = false := by rfl)
    (hsw : swapsWith (.Call (.Attribute (.Subscript (.Name x px) a sp) "append" apos) [e] [] cpos) none pos.line X.env = pure false := by rfl) :
    MS X io (.Expr (.Call (.Attribute (.Subscript (.Name x px) a sp) "append" apos) [e] [] cpos) pos) (mAppIx i mj m) := by
  obtain ⟨_, A, s⟩ := he
  obtain ⟨_, B, sj⟩ := hj
  refine ⟨_, ps_expr (pe_bm PySem.F.plainAttrs_list PySem.F.slot_list_append PySem.F.type_list_append mt_append (pe_ix (ix_listK rfl) (pv i hN hv hd hcd) B hPa) (pa_cons A pa_nil hs) hbase hfew hline hs hplain) hsw, fun C H σ δ fp ex D D' R h E => ?_⟩
  unfold mAppIx at h
  split at h
  case h_2 => exact h.elim
  rename_i ts hi
  obtain ⟨a', _, _, hv0, _⟩ := R.ownNd hi
  refine ⟨_, hv0, ?_⟩
  refine sj.pureAfter R h fun H2 w n R2 s2 q2 h2 => ?_
  obtain ⟨k, rfl, h2⟩ := q2.intInv h2
  split at h2
  case h_2 => exact h2.elim
  rename_i j hj
  split at h2
  case h_2 => exact h2.elim
  rename_i us hus
  obtain ⟨a2, xs2, bs2, hv2, hx2, o2, hf2⟩ := R2.ownNd hi
  rw [hv0] at hv2
  cases hv2
  obtain ⟨xr, cr, hxr, orow, _⟩ := o2.get hus
  obtain ⟨b', ws0, rfl, hb0⟩ : ∃ b' ws0, xr = V.ref b' ∧ H2 b' = some (.lst ws0) := by
    cases orow with
    | nd h r => exact ⟨_, _, rfl, h⟩
  refine ⟨a', xs2, k, V.ref b', rfl, rfl, .inl (.inl hx2), ?_, ?_⟩
  · unfold atI
    rw [o2.length, hj]
    exact hxr
  refine ⟨.inl ⟨rfl, ws0, .inl (.inl hb0)⟩, ?_⟩
  refine s.pureAfter R2 h2 fun H3 v r R3 s3 q h3 => ?_
  obtain ⟨a3, xs3, bs3, hv3, hx3, o3, hf3⟩ := R3.ownNd hi
  rw [hv0] at hv3
  cases hv3
  have exs : xs3 = xs2 := by
    have := s3 _ _ hx2
    rw [hx3] at this
    cases this; rfl
  subst exs
  obtain ⟨xr3, cr3, hxr3, orow3, hsub3⟩ := o3.get hus
  rw [hxr] at hxr3
  cases hxr3
  have nd3 := R3.nd i
  rw [hf3] at nd3
  have hn3 := List.nodup_cons.mp nd3
  cases orow3 with
  | nd hb r3 =>
    rename_i ws3 bs4
    have hbm : b' ∈ bs3 := hsub3.subset (.head _)
    have hbf : b' ∈ fp i := by rw [hf3]; exact .tail _ hbm
    have hLb : ¬ Lf C fp ex b' := fun l => l.1 ⟨i, hbf⟩
    have q' := q.wide (L' := Lf C fp ex) fun a l _ => l rfl
    obtain ⟨as', oo, ss, _⟩ := Owns.deep (ws' := ws3 ++ [v]) (us' := us ++ [.fz r.data]) hb hLb (fun cs hcs => ⟨cs, by have := hcs.snoc (.fz q'); simpa using this, List.Sublist.refl _⟩) o3 hn3.2 hxr hus
    refine ⟨b', ws3, v, rfl, rfl, hb, by rw [r3.length]; exact h3.1, ?_⟩
    have hba : a' ≠ b' := fun z => hn3.1 (z ▸ hbm)
    have sub : ∀ a, a ∈ a' :: as' → a ∈ fp i := fun a m => by
      rw [hf3]
      rcases List.mem_cons.mp m with rfl | m
      · exact .head _
      · exact .tail _ (ss.subset m)
    have kp : ∀ b o, H3 b = some o → b ≠ b' → upd H3 b' (.lst (ws3 ++ [v])) b = some o := fun b o e n => by rw [upd_ne n]; exact e
    have lw : ∀ a, Lf C fp ex a → upd H3 b' (.lst (ws3 ++ [v])) a ≠ none → Lf C (fpu fp i (a' :: as')) (exu ex []) a := fun a l _ => ⟨fun z => by
      rcases z.of_u with z | ⟨j, _, z⟩
      · exact l.1 ⟨i, sub a z⟩
      · exact l.1 ⟨j, z⟩, fun z => l.2.1 (exu_nil.mp z), l.2.2⟩
    obtain ⟨R4, S4⟩ := R3.change (new := []) (as' := a' :: as') (t' := .nd (ts.set j (.nd (us ++ [.fz r.data])))) (H' := upd H3 b' (.lst (ws3 ++ [v]))) hi hv0 (fun b o e nb => kp b o e fun z => nb (by rw [z]; exact hbf)) (fun b e => by
      by_cases q : b = b'
      · subst q; rw [upd_same] at e; cases e
      · rwa [upd_ne q] at e) (.nd (by rw [upd_ne hba]; exact hx3) (oo.wide lw)) (List.nodup_cons.mpr ⟨fun m => hn3.1 (ss.subset m), hn3.2.sublist ss⟩) (fun a m => .inl (sub a m)) (fun a m => nomatch m)
    have k1 : Kp H fp H3 fp := ⟨fun b o e _ => s3 _ _ (s2 _ _ e), fun z => (nomatch z), fun a z => .inl z, fun b e => s2.al b (s3.al b e)⟩
    exact E.nx _ σ _ _ (R4.drop fun a z => .inl z) (k1.trans S4.kp) h3.2
noncomputable def fAppIx (i : Nat) (j e : FE) : FS := fun δ => match δ[i]? with
  | some (some (.nd ts)) => wE j (fun n _ => match n.data with
    | .int k => match ixN ts.length k with
      | some j => match ts[j]? with
        | some (.nd us) => wE e (fun r _ => if us.length < sizeLine then .nx (δ.set i (some (.nd (ts.set j (.nd (us ++ [.fz r.data])))))) else .bad) δ
        | _ => .bad
      | none => .bad
    | _ => .bad) δ
  | _ => .bad
theorem fs_appIx (h : MS X io st (mAppIx i (o2 fb) (o2 fa))) : MS X io st (oS (fAppIx i fb fa)) := h.weak fun D δ h => by
  unfold oS fAppIx at h; unfold mAppIx
  split at h
  case h_2 => exact h.elim
  rename_i q; (try rw [q]); (try dsimp only)
  refine (w_wE h).imp fun n δ' z => ?_
  split at z
  case h_2 => exact z.elim
  rename_i k q1; (try rw [q1]); (try dsimp only)
  split at z
  case h_2 => exact z.elim
  rename_i j q2; (try rw [q2]); (try dsimp only)
  split at z
  case h_2 => exact z.elim
  rename_i us q3; (try rw [q3]); (try dsimp only)
  exact (w_wE z).imp fun r δ' z => ite_fits z
end
end L2
namespace L2
open PySem PySem.Spec PyProof.Rows
variable {G : PySem.W.Frag}
noncomputable def gTupL : List PyData → Option OT := fun ds => match ds with | [d] => (itemsD d).map fun es => .fz (.tuple es) | _ => none
noncomputable def dTupL : List PyData → (OT → Prop) → Prop := fun ds k => n1 (fun d => match itemsD d with | some es => k (.fz (.tuple es)) | none => False) ds
theorem pn_tupL : PN G (rTupOf G) dTupL := fun H L xs ds k Q hx h kk => by
  obtain ⟨v, d, rfl, rfl, q, h⟩ := hx.one h
  have nw : ∀ {xs : List V} {es : List PyData}, Das G H L xs es → k (.fz (.tuple es)) → ∀ p, H p = none → Q (.ref p) (upd H p (.tup xs)) := fun r h p hp =>
    kk _ _ _ [] (same_new hp _) (.fz (.tup upd_same ((r.same (same_new hp _)).wide fun a l _ => ⟨.inl l, fun m => nomatch m⟩))) .nil (fun a m => nomatch m) h
  cases q with
  | lst l e r => exact ⟨_, _, rfl, .inl ⟨.inl e, nw r h⟩⟩
  | tup e r => exact ⟨_, _, rfl, .inr ⟨.inl (.inl e), kk H _ _ [] (Same.refl H) (.fz (.tup e (r.wide fun a l _ => ⟨.inl l, fun m => nomatch m⟩))) .nil (fun a m => nomatch m) h⟩⟩
  | scr ks => exact ⟨_, _, rfl, .inl ⟨ks.sq, nw (Das.ints _) h⟩⟩
  | _ => exact h.elim
theorem b_tupL : ∀ (ds : List PyData) (r : OT) (k : OT → Prop), gTupL ds = some r → k r → dTupL ds k := fun ds r k h hk => by
  unfold gTupL at h
  split at h
  case h_2 => cases h
  rename_i d
  show match itemsD d with | some es => k (.fz (.tuple es)) | none => False
  cases e : itemsD d with
  | none => rw [e] at h; cases h
  | some es => rw [e] at h; cases h; exact hk
section
variable {X : Cx} {io : List Nat} {p c p' c' : Bool} {a b e : Expr} {ma mb m : MEt} {pos pp : Pos} {x : Str}
theorem m_gint {n : Int} {t : Tok} (hg : Gl X x) (hm : X.mg x = some (.int n t)) (hdb : (x == ("__debug__" : Str)) = false := by decide) : ME X io true true (.Name x pos) (mC (.int n)) :=
  ⟨_, pe_glob (v := .int n) hg hm ⟨t, rfl⟩ hdb, fun C H σ δ fp ex K Q R h k => k H (.int n) _ δ fp [] (.fz R (.refl _ _ _ _) (.int n)) h⟩
theorem m_gstr {z : Str} {t : Tok} (hg : Gl X x) (hm : X.mg x = some (.str z t)) (hdb : (x == ("__debug__" : Str)) = false := by decide) : ME X io true true (.Name x pos) (mC (.str z)) :=
  ⟨_, pe_glob (v := .str z) hg hm ⟨t, rfl⟩ hdb, fun C H σ δ fp ex K Q R h k => k H (.str z) _ δ fp [] (.fz R (.refl _ _ _ _) (.str z)) h⟩
end
end L2
namespace L2
open PySem PySem.Spec PyProof.Rows
variable {G : PySem.W.Frag}
noncomputable def strsD : List PyData → Option (List Str)
  | [] => some []
  | .str x :: ds => (strsD ds).map (x :: ·)
  | _ :: _ => none
theorem strsD_map : ∀ (ts : List Str), strsD (ts.map PyData.str) = some ts
  | [] => rfl
  | t :: ts => by rw [List.map_cons, strsD, strsD_map ts]; rfl
theorem Das.strs {H : Hp} {L : Addr → Prop} : ∀ {xs : List V} {ds : List PyData} {ts : List Str}, Das G H L xs ds → strsD ds = some ts → xs = ts.map V.str
  | _, [], _, .nil, h => by cases h; rfl
  | _, d :: ds, _, .cons h r, e => by
    cases d with
    | str x =>
      rw [strsD] at e
      obtain ⟨ts, e1, rfl⟩ := Option.map_eq_some_iff.mp e
      cases h
      rw [r.strs e1]; rfl
    | _ => cases e
theorem vals_strs : ∀ {ts : List Str} {us : List Value}, Vals (ts.map V.str) us → ∃ l : List (Str × Tok), us = strValues l ∧ l.map (·.1) = ts
  | [], _, r => by cases r; exact ⟨[], rfl, rfl⟩
  | t :: ts, _, r => by
    rw [List.map_cons] at r
    cases r with
    | cons h r =>
      obtain ⟨k, rfl⟩ := h
      obtain ⟨l, rfl, rfl⟩ := vals_strs r
      exact ⟨(t, k) :: l, rfl, rfl⟩
section
variable {X : Cx} {K : PySem.W.Frag}
noncomputable def rJoin (K : PySem.W.Frag) : V → List V → Hp → VK → Prop := fun x vs H Q => ∃ sep b ts, x = .str sep ∧ vs = [.ref b] ∧ SqL K H b (ts.map V.str) ∧ JoinOk sep ts = true ∧ Q (.str (PySem.Txt.join sep ts)) H
theorem mt_join (hK : X.K = K) : MtR X "str.join" (rJoin K) := by
  intro pins s σ H x vs v us Q I rx rv h
  obtain ⟨sep, b, ts, rfl, rfl, hb, ok, q⟩ := h
  obtain ⟨t, rfl⟩ := rx
  obtain ⟨u, rfl, ru⟩ := rv.one
  cases ru
  obtain ⟨its, n, r, hl, o, e1, e2, e3, e4⟩ := I.lstQ hK hb
  obtain ⟨l, rfl, hl2⟩ := vals_strs r
  exact SC.join (l := l) (texts := ts) ⟨o, e1, e2, n, e4⟩ hl2 ok fun t' k => ⟨.str _, H, I.tok k, ⟨t', rfl⟩, q⟩
noncomputable def splitOk (z y : Str) : Bool := decide (z.length ≤ sizeLine) && (decide ((PySem.Txt.split z y).length ≤ sizeLine) && !(y.length == 0))
noncomputable def rSplit : V → List V → Hp → VK → Prop := fun x vs H Q => ∃ z y, x = .str z ∧ vs = [.str y] ∧ splitOk z y = true ∧ ∀ p, H p = none → Q (.ref p) (upd H p (.lst ((PySem.Txt.split z y).map V.str)))
theorem vals_of : ∀ (l : List (Str × Tok)), Vals ((l.map (·.1)).map V.str) (strValues l)
  | [] => .nil
  | p :: l => .cons ⟨p.2, rfl⟩ (vals_of l)
theorem mt_split : MtR X "str.split" rSplit := by
  intro pins s σ H x vs v us Q I rx rv h
  obtain ⟨z, y, rfl, rfl, ok, q⟩ := h
  obtain ⟨t, rfl⟩ := rx
  obtain ⟨w, rfl, ru⟩ := rv.one
  obtain ⟨u, rfl⟩ := ru
  unfold splitOk at ok
  rw [Bool.and_eq_true, Bool.and_eq_true, decide_eq_true_eq, decide_eq_true_eq, Bool.not_eq_true'] at ok
  obtain ⟨z1, z2, hy⟩ := ok
  have fin : ∀ (l : List (Str × Tok)) (tk : Nat), l.map (·.1) = PySem.Txt.split z y → EP X pins σ Q (.ref s.heap.objs.size) { s with heap := s.heap.push { cls := .type "list", data := .seq (strValues l).toArray }, toks := tk } := fun l tk hl => by
    refine ⟨.ref s.heap.objs.size, _, I.laid (a := s.heap.objs.size) (t' := tk) (o := .lst ((PySem.Txt.split z y).map V.str)) (fun _ _ q => Heap.get?_push_of_some _ q) (Nat.le_refl _) ⟨by rw [List.length_map]; exact z2, strValues l, _, by rw [← hl]; exact vals_of l, Heap.get?_push_size _ rfl⟩, rfl, q _ (I.hok.fresh (Nat.le_refl _))⟩
  cases h1 : (decide (z.length < y.length) || decide (Builtin.Str.strKind z < Builtin.Str.strKind y))
  · cases hf : (Builtin.Str.occurrences z y 0 z.length (z.length + 1)).isEmpty
    · have es : PySem.Txt.split z y = Builtin.Str.partsBetween z (Builtin.Str.occurrences z y 0 z.length (z.length + 1)) y.length := (if_neg (ne_true_of_eq_false h1)).trans (if_neg (ne_true_of_eq_false hf))
      refine call_meets F.slot_str_split (typeIs_str _ _ _) F.entry_str_split (F.args_str_split_2 _ _) (meets_str_split_sep z y t u h1 hy hf z1 (es ▸ z2)) ?_
      show wants _ _ _ { s with toks := _, heap := s.heap.push { cls := .type "list", data := .seq (strsFrom s.toks (Builtin.Str.partsBetween z (Builtin.Str.occurrences z y 0 z.length (z.length + 1)) y.length)).toArray } }
      rw [strsFrom_eq]
      exact fin (numbered s.toks _) _ ((numbered_texts _ _).trans es.symm)
    · exact call_meets F.slot_str_split (typeIs_str _ _ _) F.entry_str_split (F.args_str_split_2 _ _) (meets_str_split_not_found z y t u h1 hy hf) (fin [(z, t)] s.toks ((if_neg (ne_true_of_eq_false h1)).trans (if_pos hf)).symm)
  · exact call_meets F.slot_str_split (typeIs_str _ _ _) F.entry_str_split (F.args_str_split_2 _ _) (meets_str_split_cannot_occur z y t u h1) (fin [(z, t)] s.toks (if_pos h1).symm)
end
section
variable {X : Cx} {io : List Nat} {p c p' c' : Bool} {o e : Expr} {es : List Expr} {mo : MEt} {mr : MAt} {apos cpos : Pos} {r : V → List V → Hp → VK → Prop} {name : Str} {id : String}
noncomputable def PMs (G : PySem.W.Frag) (r : V → List V → Hp → VK → Prop) (g : Str → List PyData → Option PyData) : Prop := ∀ (H : Hp) (L : Addr → Prop) (z : Str) (xs : List V) (ds : List PyData) (d : PyData) (Q : VK), Das G H L xs ds → g z ds = some d → (∀ v, ScD v d → Q v H) → r (.str z) xs H Q
noncomputable def PM (G : PySem.W.Frag) (r : V → List V → Hp → VK → Prop) (g : Str → List PyData → Option OT) : Prop := ∀ (H : Hp) (L : Addr → Prop) (z : Str) (xs : List V) (ds : List PyData) (d : OT) (Q : VK), Das G H L xs ds → g z ds = some d → (∀ H' v new, Same H H' → Own G H' (fun a => (L a ∨ H a = none) ∧ a ∉ new) v d new → new.Nodup → (∀ a ∈ new, H a = none) → Q v H') → r (.str z) xs H Q
noncomputable def mMtS (g : Str → List PyData → Option PyData) (mo : MEt) (mr : MAt) : MEt := fun δ K => mo δ fun ro δ1 => ∃ z, ro.data = .str z ∧ mr δ1 fun rs δ2 => ∃ d, g z (OT.datas rs) = some d ∧ K (.fz d) δ2
noncomputable def mMtO (g : Str → List PyData → Option OT) (mo : MEt) (mr : MAt) : MEt := fun δ K => mo δ fun ro δ1 => ∃ z, ro.data = .str z ∧ mr δ1 fun rs δ2 => ∃ d, g z (OT.datas rs) = some d ∧ K d δ2
theorem Da.strInv {H : Hp} {L : Addr → Prop} {v : V} {z : Str} (h : Da G H L v (.str z)) : v = .str z := by cases h; rfl
theorem sMtS {g : Str → List PyData → Option PyData} {to : TE} {t : TA} (P : PMs G r g) (so : SE G io p c to mo) (sa : SA G io p' c' t mr) : SE G io (p && p') true (tBM G "str" r to t) (mMtS g mo mr) := fun C H σ δ fp ex K Q R h kk =>
  so C H σ δ fp ex _ _ R h fun H1 v ro δ1 fp1 new1 r1 h1 => by
    obtain ⟨z, hz, h1⟩ := h1
    have q := r1.da R
    rw [hz] at q
    cases q.strInv
    exact ⟨rfl, sa C H1 σ δ1 fp1 ex _ _ r1.base h1 fun H2 vs rs δ2 fp2 new2 r2 h2 => by
      obtain ⟨d, e, h2⟩ := h2
      exact P H2 _ z vs _ d _ (r2.das r1.base) e fun v sc => kk H2 v _ δ2 fp2 [] (.fz r2.base (r1.stp.trans r2.stp) sc.da) h2⟩
theorem sMtO {g : Str → List PyData → Option OT} {to : TE} {t : TA} (P : PM G r g) (so : SE G io p c to mo) (sa : SA G io p' c' t mr) : SE G io (p && p') c' (tBM G "str" r to t) (mMtO g mo mr) := fun C H σ δ fp ex K Q R h kk =>
  so C H σ δ fp ex _ _ R h fun H1 v ro δ1 fp1 new1 r1 h1 => by
    obtain ⟨z, hz, h1⟩ := h1
    have q := r1.da R
    rw [hz] at q
    cases q.strInv
    exact ⟨rfl, sa C H1 σ δ1 fp1 ex _ _ r1.base h1 fun H2 vs rs δ2 fp2 new2 r2 h2 => by
      obtain ⟨d, e, h2⟩ := h2
      exact P H2 _ z vs _ d _ (r2.das r1.base) e fun H' v new s ow nd hn => kk H' v d δ2 fp2 new (RE.tree R r2.base (r1.stp.trans r2.stp) s hn nd ow) h2⟩
theorem m_mtS {g : Str → List PyData → Option PyData} (P : PMs X.K r g) (slot : Slot "str" name id) (hty : typeOf (.builtin id) = pure (.type "method_descriptor")) (hm : MtR X id r) (ho : ME X io p c o mo) (ha : MA X io p' c' (e :: es) mr)
    (hbase : attributeBase o name X.env (eval o X.env) = eval o X.env := by rfl)
    (hfew : ((backTo cpos (starEach (e :: es) X.env)).all (fun x => !x.1) && (backToKw cpos (keywordEach [] X.env)).all (fun x => x.1.isSome)
      && decide ((e :: es).length + ([] : List Keyword).length + (if ([] : List Keyword).isEmpty then 0 else 1) < 30)) = true := by rfl)
    (hline : (apos.endLine == cpos.line) = true := by rfl) (hs : starEach (e :: es) X.env = (false, eval e X.env) :: starEach es X.env := by rfl) (hplain : (backTo cpos (starEach es X.env)).any (·.1) = false := by rfl) :
    ME X io (p && p') true (.Call (.Attribute o name apos) (e :: es) [] cpos) (mMtS g mo mr) := by
  obtain ⟨_, O, so⟩ := ho
  obtain ⟨_, A, sa⟩ := ha
  exact ⟨_, pe_bm PySem.F.plainAttrs_str slot hty hm O A hbase hfew hline hs hplain, sMtS P so sa⟩
theorem m_mtO {g : Str → List PyData → Option OT} (P : PM X.K r g) (slot : Slot "str" name id) (hty : typeOf (.builtin id) = pure (.type "method_descriptor")) (hm : MtR X id r) (ho : ME X io p c o mo) (ha : MA X io p' c' (e :: es) mr)
    (hbase : attributeBase o name X.env (eval o X.env) = eval o X.env := by rfl)
    (hfew : ((backTo cpos (starEach (e :: es) X.env)).all (fun x => !x.1) && (backToKw cpos (keywordEach [] X.env)).all (fun x => x.1.isSome)
      && decide ((e :: es).length + ([] : List Keyword).length + (if ([] : List Keyword).isEmpty then 0 else 1) < 30)) = true := by rfl)
    (hline : (apos.endLine == cpos.line) = true := by rfl) (hs : starEach (e :: es) X.env = (false, eval e X.env) :: starEach es X.env := by rfl) (hplain : (backTo cpos (starEach es X.env)).any (·.1) = false := by rfl) :
    ME X io (p && p') c' (.Call (.Attribute o name apos) (e :: es) [] cpos) (mMtO g mo mr) := by
  obtain ⟨_, O, so⟩ := ho
  obtain ⟨_, A, sa⟩ := ha
  exact ⟨_, pe_bm PySem.F.plainAttrs_str slot hty hm O A hbase hfew hline hs hplain, sMtO P so sa⟩
noncomputable def gJoin : Str → List PyData → Option PyData := fun z ds => match ds with
  | [.list es] => (strsD es).bind fun ts => if JoinOk z ts = true then some (.str (PySem.Txt.join z ts)) else none
  | _ => none
theorem pm_join : PMs G (rJoin G) gJoin := fun H L z xs ds d Q hx h kk => by
  unfold gJoin at h
  split at h
  case h_2 => cases h
  rename_i es
  obtain ⟨ts, h1, h⟩ := bs h
  split at h
  case isFalse => cases h
  rename_i ok
  cases h
  cases hx with
  | cons q r0 =>
    cases r0
    cases q with
    | lst l e r => exact ⟨z, _, ts, rfl, rfl, .inl (r.strs h1 ▸ e), ok, kk _ (.str _)⟩
    | scr ks =>
      rename_i a ns
      cases ns with
      | nil => cases h1; exact ⟨z, _, [], rfl, rfl, ks.sq, ok, kk _ (.str _)⟩
      | cons n ns => cases h1
noncomputable def gSplit : Str → List PyData → Option OT := fun z ds => match ds with
  | [.str y] => if splitOk z y = true then some (.nd (((PySem.Txt.split z y).map PyData.str).map OT.fz)) else none
  | _ => none
theorem das_strs {H : Hp} {L : Addr → Prop} : ∀ (ts : List Str), Das G H L (ts.map V.str) (ts.map PyData.str)
  | [] => .nil
  | t :: ts => .cons (.str t) (das_strs ts)
theorem pm_split : PM G rSplit gSplit := fun H L z xs ds d Q hx h kk => by
  unfold gSplit at h
  split at h
  case h_2 => cases h
  rename_i y
  split at h
  case isFalse => cases h
  rename_i ok
  cases h
  cases hx with
  | cons q r0 =>
    cases r0
    cases q.strInv
    exact ⟨z, y, rfl, rfl, ok, fun p hp => kk _ _ [p] (same_new hp _) (Own.list hp (das_strs _)) (one_nd p) (one_new hp)⟩
noncomputable def fMtS (g : Str → List PyData → Option PyData) (o : FE) (a : FA) : FE := fun δ => (o δ).bind fun p => match p.1.data with
  | .str z => (a p.2).bind fun q => (g z (OT.datas q.1)).bind fun d => some (.fz d, q.2)
  | _ => none
noncomputable def fMtO (g : Str → List PyData → Option OT) (o : FE) (a : FA) : FE := fun δ => (o δ).bind fun p => match p.1.data with
  | .str z => (a p.2).bind fun q => (g z (OT.datas q.1)).bind fun d => some (d, q.2)
  | _ => none
variable {fo : FE} {ra : FA}
theorem fe_mtS {g : Str → List PyData → Option PyData} (h : ME X io p c e (mMtS g (o2 fo) (o2 ra))) : ME X io p c e (o2 (fMtS g fo ra)) := h.weak fun δ K z => by
  obtain ⟨r, δ', h, k⟩ := z
  obtain ⟨⟨x, δ1⟩, h1, h⟩ := bs h
  dsimp only at h
  split at h
  case h_2 => cases h
  rename_i z hz
  obtain ⟨⟨y, δ2⟩, h2, h⟩ := bs h
  obtain ⟨d, h3, h⟩ := bs h
  cases h
  exact ⟨x, δ1, h1, z, hz, y, δ2, h2, _, h3, k⟩
theorem fe_mtO {g : Str → List PyData → Option OT} (h : ME X io p c e (mMtO g (o2 fo) (o2 ra))) : ME X io p c e (o2 (fMtO g fo ra)) := h.weak fun δ K z => by
  obtain ⟨r, δ', h, k⟩ := z
  obtain ⟨⟨x, δ1⟩, h1, h⟩ := bs h
  dsimp only at h
  split at h
  case h_2 => cases h
  rename_i z hz
  obtain ⟨⟨y, δ2⟩, h2, h⟩ := bs h
  obtain ⟨d, h3, h⟩ := bs h
  cases h
  exact ⟨x, δ1, h1, z, hz, y, δ2, h2, _, h3, k⟩
end
end L2
namespace L2
open PySem PySem.Spec PyProof.Rows
variable {G : PySem.W.Frag}
noncomputable def Its (x : Str) : It := ⟨fun i _ => i < x.cps.size, fun i H v H' => H' = H ∧ ∃ c, x.cps[i]? = some c ∧ v = .str ⟨#[c]⟩, fun i _ => x.cps.size ≤ i⟩
theorem turn_strA {P : Program} {w : World} {K : PySem.W.Frag} {tg : Expr} (x : Str) (t : Tok) (it : Addr) : Turn P w K tg (Its x) [it] it (fun i h => h.IsStrIter it "str_ascii_iterator" x t i) where
  mem := by simp
  obj := fun i h st b hb => by
    have e : b = it := by simpa using hb
    subst e
    obtain ⟨o, e, c, d⟩ := st
    exact ⟨o, e, fun v z => by rw [d] at z; cases z⟩
  keep := fun i h h' st k => by
    obtain ⟨o, e, c, d⟩ := st
    exact ⟨o, k it (by simp) o e, c, d⟩
  item := by
    intro X hP hw hK hc i pins s σ H E I hf st hg
    subst hP hw hK
    obtain ⟨f0, f1, f2, f3, f4, f5⟩ := hf it (by simp)
    have hx : x.cps[i]? = some x.cps[i] := Array.getElem?_eq_getElem hg
    refine wpAny_pyNext_ascii_item st hx fun h' st' sb => ?_
    have I1 : Inv X pins σ H { s with heap := h', toks := s.toks + 1 } := I.turned (fun b o hb e => (sb.2 b hb).trans e) f0 f1 f3 f4 f5
    obtain ⟨o, e, c, d⟩ := id st'
    exact ⟨_, rfl, go_of (s := { s with heap := h', toks := s.toks + 1 }) e c d (by decide) ⟨.str ⟨#[x.cps[i]]⟩, H, I1, ⟨_, rfl⟩, ⟨rfl, _, hx, rfl⟩, st', fun b hb => (hf b hb).1⟩⟩
  done := by
    intro X hP hw hK hc i pins s σ H E I hf st hg
    subst hP hw hK
    obtain ⟨f0, f1, f2, f3, f4, f5⟩ := hf it (by simp)
    exact wpAny_pyNext_ascii_end (I.ok.hd hc) st (Array.getElem?_eq_none hg) fun h' eb => ⟨rfl, I.turned (t' := s.toks) (fun b o hb e => eb b o hb e) f0 f1 f3 f4 f5⟩
  self := fun _ _ _ _ _ st h => wpAny_pyIter_striter_ascii st h
theorem turn_strW {P : Program} {w : World} {K : PySem.W.Frag} {tg : Expr} (x : Str) (t : Tok) (it : Addr) : Turn P w K tg (Its x) [it] it (fun i h => h.IsStrIter it "str_iterator" x t i) where
  mem := by simp
  obj := fun i h st b hb => by
    have e : b = it := by simpa using hb
    subst e
    obtain ⟨o, e, c, d⟩ := st
    exact ⟨o, e, fun v z => by rw [d] at z; cases z⟩
  keep := fun i h h' st k => by
    obtain ⟨o, e, c, d⟩ := st
    exact ⟨o, k it (by simp) o e, c, d⟩
  item := by
    intro X hP hw hK hc i pins s σ H E I hf st hg
    subst hP hw hK
    obtain ⟨f0, f1, f2, f3, f4, f5⟩ := hf it (by simp)
    have hx : x.cps[i]? = some x.cps[i] := Array.getElem?_eq_getElem hg
    refine wpAny_pyNext_wide_item st hx fun h' st' sb => ?_
    have I1 : Inv X pins σ H { s with heap := h', toks := s.toks + 1 } := I.turned (fun b o hb e => (sb.2 b hb).trans e) f0 f1 f3 f4 f5
    obtain ⟨o, e, c, d⟩ := id st'
    exact ⟨_, rfl, go_of (s := { s with heap := h', toks := s.toks + 1 }) e c d (by decide) ⟨.str ⟨#[x.cps[i]]⟩, H, I1, ⟨_, rfl⟩, ⟨rfl, _, hx, rfl⟩, st', fun b hb => (hf b hb).1⟩⟩
  done := by
    intro X hP hw hK hc i pins s σ H E I hf st hg
    subst hP hw hK
    obtain ⟨f0, f1, f2, f3, f4, f5⟩ := hf it (by simp)
    exact wpAny_pyNext_wide_end (I.ok.hd hc) st (Array.getElem?_eq_none hg) fun h' eb => ⟨rfl, I.turned (t' := s.toks) (fun b o hb e => eb b o hb e) f0 f1 f3 f4 f5⟩
  self := fun _ _ _ _ _ st h => wpAny_pyIter_striter_wide st h
section
variable {X : Cx} {io : List Nat} {p c : Bool} {e tg : Expr} {m : MEt}
noncomputable def iStrV (tl : TE) : TI := fun σ H R => tl σ H fun x H1 => ∃ z, x = .str z ∧ R (Its z) H1
theorem pi_str {l : Expr} {tl : TE} (hl : PE X l tl) : PI X tg l (iStrV tl) := by
  intro pins s σ H R I h
  refine thn (hl pins s σ H _ I h) fun v s1 qz9 => ?_
  obtain ⟨x, H1, I1, r1, q1⟩ := qz9
  obtain ⟨z, e, q⟩ := q1
  subst e
  obtain ⟨t, rfl⟩ := r1
  have fp : ∀ b ∈ [s1.heap.objs.size], FpOk X pins H1 b := fun b hb => by
    have e : b = s1.heap.objs.size := by simpa using hb
    subst e
    exact I1.fpOk (Nat.le_refl _) (I1.hok.fresh (Nat.le_refl _))
  cases ha : z.cps.all (· < 128)
  · exact wpAny_pyIter_wide ha ⟨s1.heap.objs.size, [s1.heap.objs.size], _, _, H1, rfl, I1.kept (t' := s1.toks) fun b o e => Heap.get?_push_of_some _ e, turn_strW z t _, ⟨_, Heap.get?_push_size _ rfl, rfl, rfl⟩, fp, q⟩
  · exact wpAny_pyIter_ascii ha ⟨s1.heap.objs.size, [s1.heap.objs.size], _, _, H1, rfl, I1.kept (t' := s1.toks) fun b o e => Heap.get?_push_of_some _ e, turn_strA z t _, ⟨_, Heap.get?_push_size _ rfl, rfl, rfl⟩, fp, q⟩
noncomputable def signsD (z : Str) : List PyData := z.cps.toList.map fun c => .str ⟨#[c]⟩
theorem iter_str {C : MC G} {fp : Fp} {ex : Addr → Prop} {H1 : Hp} {z : Str} : IterOk C fp ex H1 true (Its z) (signsD z) := fun H' _ i => by
  unfold signsD
  rw [List.getElem?_map, Array.getElem?_toList]
  refine ⟨fun d hd => ?_, fun hd => ?_⟩
  · obtain ⟨c, hc, rfl⟩ := Option.map_eq_some_iff.mp hd
    refine ⟨(Array.getElem?_eq_some_iff.mp hc).1, fun x H'' hy => ?_⟩
    obtain ⟨rfl, c', hc', rfl⟩ := hy
    rw [hc] at hc'
    cases hc'
    exact ⟨Same.refl _, .str _⟩
  · exact Array.getElem?_eq_none_iff.mp (Option.map_eq_none_iff.mp hd)
noncomputable def iS (m : MEt) : MIt := fun δ K => m δ fun r δ' => match r.data with | .str z => K (signsD z) δ' | _ => False
theorem mi_str (h : ME X io p c e m) : MI X io p true tg e (iS m) := by
  obtain ⟨_, A, s⟩ := h
  exact ⟨_, pi_str A, fun C H σ δ fp ex K' Q R h kk => s C H σ δ fp ex _ _ R h fun H1 v r δ1 fp1 new r1 h1 => by
    have q := r1.da R
    generalize r.data = d at q h1
    split at h1
    case h_2 => exact h1.elim
    cases q.strInv
    exact ⟨_, rfl, kk _ H1 _ δ1 fp1 r1.base r1.stp iter_str h1⟩⟩
noncomputable def iStr (e : FE) : FI := fun δ => (e δ).bind fun p => match p.1.data with | .str z => some (signsD z, p.2) | _ => none
theorem fi_str {fa : FE} (h : MI X io p c tg e (iS (o2 fa))) : MI X io p c tg e (o2 (iStr fa)) := h.weak fun δ K z => by
  obtain ⟨r, δ', h, k⟩ := z
  obtain ⟨⟨x, δ1⟩, h1, h⟩ := bs h
  dsimp only at h
  split at h
  case h_2 => cases h
  rename_i z hz
  cases h
  refine ⟨x, _, h1, ?_⟩
  show match x.data with | .str z => K (signsD z) _ | _ => False
  rw [hz]; exact k
noncomputable def gLenS : List PyData → Option PyData := fun ds => match ds with | [.str z] => if z.length ≤ sizeLine then some (.int z.length) else none | _ => none
noncomputable def dLenS : List PyData → (PyData → Prop) → Prop := fun ds k => ∃ d, gLenS ds = some d ∧ k d
theorem b_lenS : ∀ ds r k, gLenS ds = some r → k r → dLenS ds k := fun ds r k h hk => ⟨r, h, hk⟩
theorem pn_lenS : PNs G (fun xs H Q => ∃ z, xs = [.str z] ∧ z.length ≤ sizeLine ∧ Q (.int z.length) H) dLenS := fun H L xs ds k Q hx h kk => by
  obtain ⟨d, h, hk⟩ := h
  unfold gLenS at h
  split at h
  case h_2 => cases h
  split at h
  case isFalse => cases h
  rename_i z hz
  cases h
  cases hx with
  | cons q r0 =>
    cases r0
    cases q.strInv
    exact ⟨z, rfl, hz, kk _ _ (.int _) hk⟩
noncomputable def gInS (neg : Bool) : PyData → PyData → Option PyData := fun d e => match d, e with
  | .str i, .str j => some (.bool (if neg then !(!(Builtin.Str.occurrences j i 0 j.length 1).isEmpty) else !(Builtin.Str.occurrences j i 0 j.length 1).isEmpty))
  | _, _ => none
noncomputable def dInS (neg : Bool) : PyData → PyData → (PyData → Prop) → Prop := fun d e k => ∃ r, gInS neg d e = some r ∧ k r
theorem b_inS {neg : Bool} : ByS (gInS neg) (dInS neg) := fun _ _ r _ h hk => ⟨r, h, hk⟩
noncomputable def rInS (neg : Bool) : R2 := fun x y H Q => ∃ i j, x = .str i ∧ y = .str j ∧ Q (.bl (if neg then !(!(Builtin.Str.occurrences j i 0 j.length 1).isEmpty) else !(Builtin.Str.occurrences j i 0 j.length 1).isEmpty)) H
theorem op_notInS : OpR X (compareOp .NotIn) (rInS true) := op_notIn_str
theorem p2_inS {neg : Bool} : P2s G (rInS neg) (dInS neg) := fun H L x y d e k Q hx hy h kk => by
  obtain ⟨r, h, hk⟩ := h
  unfold gInS at h
  split at h
  case h_2 => cases h
  cases h
  cases hx.strInv
  cases hy.strInv
  exact ⟨_, _, rfl, rfl, kk _ _ (.bl _) hk⟩
end
end L2
namespace L2
open PySem PySem.Spec PyProof.Rows
variable {G : PySem.W.Frag}
section
variable {X : Cx}
end
end L2
namespace L2
open PySem PySem.Spec PyProof.Rows
end L2
namespace L2
open PySem PySem.Spec PyProof.Rows
noncomputable def rIntT : List V → Hp → VK → Prop := fun xs H Q => ∃ z n, xs = [.str z] ∧ z.length ≤ 640 ∧ intText? z = some n ∧ Q (.int n) H
theorem call_intT {X : Cx} : CallR X (.type "int") rIntT := by
  intro pins s σ H xs us Q I rv h
  obtain ⟨z, n, rfl, hl, hn, q⟩ := h
  obtain ⟨u, rfl, t, rfl⟩ := rv.one
  exact call_int_1 (PySem.W.KIN.gives_text hl hn).meets (show (Made.int n).post _ s from ⟨rfl, .int n, H, I.tok _, ⟨_, rfl⟩, q⟩)
noncomputable def gIntT : List PyData → Option PyData := fun ds => match ds with
  | [.str z] => if z.length ≤ 640 then (intText? z).bind fun n => some (.int n) else none
  | _ => none
noncomputable def dIntT : List PyData → (PyData → Prop) → Prop := fun ds k => ∃ d, gIntT ds = some d ∧ k d
theorem b_intT : ∀ ds r k, gIntT ds = some r → k r → dIntT ds k := fun ds r k h hk => ⟨r, h, hk⟩
theorem pn_intT {G : PySem.W.Frag} : PNs G rIntT dIntT := fun H L xs ds k Q hx h kk => by
  obtain ⟨d, h, hk⟩ := h
  unfold gIntT at h
  split at h
  case h_2 => cases h
  rename_i z
  cases hx with
  | cons q r0 =>
    cases r0
    cases q.strInv
    split at h
    case isFalse => cases h
    rename_i hl
    obtain ⟨n, hn, h⟩ := bs h
    cases h
    exact ⟨z, n, rfl, hl, hn, kk _ _ (.int _) hk⟩
end L2
namespace L2
open PySem PySem.Spec PyProof.Rows
variable {G : PySem.W.Frag}
section
variable {X : Cx} {io : List Nat} {e : Expr} {pos apos cpos px pt pl p2 kp sp : Pos} {i j : Nat} {x y : Str}
end
section
variable {X : Cx} {io : List Nat} {st : Stmt} {i j c : Nat} {d : PyData}
end
end L2
namespace L2
open PySem PySem.Spec PyProof.Rows
variable {G : PySem.W.Frag}
theorem Owns.split {H : Hp} {L : Addr → Prop} : ∀ {xs : List V} {ts : List OT} {as : List Addr}, Owns G H L xs ts as → ∃ ass : List (List Addr), ass.length = xs.length ∧ ass.flatten = as ∧ ∀ (k : Nat) (x : V) (t : OT) (b : List Addr), xs[k]? = Option.some x → ts[k]? = Option.some t → ass[k]? = Option.some b → Own G H L x t b
  | _, _, _, .nil => ⟨[], rfl, rfl, fun k x t b e => by simp at e⟩
  | _, _, _, .cons (as := as) (bs := bs) h r => by
    obtain ⟨ass, e1, e2, h2⟩ := Owns.split r
    refine ⟨as :: ass, by rw [List.length_cons, List.length_cons, e1], by rw [List.flatten_cons, e2], fun k x t b q1 q2 q3 => ?_⟩
    cases k with
    | zero =>
      simp at q1 q2 q3
      subst q1 q2 q3
      exact h
    | succ k => exact h2 k x t b (by simpa using q1) (by simpa using q2) (by simpa using q3)
section
variable {X : Cx} {io : List Nat} {pos pp cpos px : Pos} {i : Nat} {x : Str} {α : Type} {kd : PyData → Option α} {lt : α → α → Bool}
end
section
variable {X : Cx} {io : List Nat} {st : Stmt} {i : Nat} {α : Type} {kd : PyData → Option α} {lt : α → α → Bool}
end
end L2
namespace L2
open PySem PySem.Spec PyProof.Rows
variable {G : PySem.W.Frag}
section
variable {X : Cx} {io : List Nat} {p c : Bool} {a e : Expr} {ma : MEt} {pos p2 : Pos}
end
end L2
namespace L2
open PySem PySem.Spec PyProof.Rows
variable {G : PySem.W.Frag}
noncomputable def Sg (z : Str) (t : Tok) (it : Addr) (i : Nat) (h : Heap) : Prop := h.IsStrIter it "str_ascii_iterator" z t i ∨ h.IsStrIter it "str_iterator" z t i
section
variable {P : Program} {w : World} {A : Around} {E : Value → Shared → Prop} {s : Shared}
structure Ap (z TI TO i1 i2 : Addr) : Prop where
  a1 : TI ≠ z
  a2 : TO ≠ z
  a3 : i1 ≠ z
  a4 : i2 ≠ z
  a5 : i1 ≠ TO
  a6 : i2 ≠ TO
  a7 : i1 ≠ i2
  a8 : TI ≠ TO
  a9 : TI ≠ i1
  a10 : TI ≠ i2
noncomputable abbrev yT1 (h : Heap) (x : Str) (t : Tok) : Heap := h.push { cls := .type (strIterType x), data := .fields #[.str x t, .int 0 0] }
noncomputable abbrev yT2 (h : Heap) (x y : Str) (t u : Tok) : Heap := yT1 (yT1 h x t) y u
noncomputable abbrev yT3 (h : Heap) (x y : Str) (t u : Tok) : Heap := (yT2 h x y t u).push { cls := .type "tuple", data := .seq #[.ref h.objs.size, .ref (yT1 h x t).objs.size] }
noncomputable abbrev yT4 (h : Heap) (x y : Str) (t u : Tok) : Heap := (yT3 h x y t u).push { cls := .type "tuple", data := .seq #[.none, .none] }
noncomputable abbrev yT5 (h : Heap) (x y : Str) (t u : Tok) : Heap := (yT4 h x y t u).push { cls := .type "zip", data := .fields #[.none, .bool false, .bool false, .ref (yT2 h x y t u).objs.size, .ref (yT3 h x y t u).objs.size] }
theorem Sg.at {h : Heap} {x : Str} {t : Tok} {it : Addr} (e : h.get? it = some { cls := .type (strIterType x), data := .fields #[.str x t, .int 0 0] }) : Sg x t it 0 h := by
  unfold strIterType at e
  split at e
  · exact .inl ⟨_, e, rfl, rfl⟩
  · exact .inr ⟨_, e, rfl, rfl⟩
end
section
variable {X : Cx} {io : List Nat} {p c : Bool} {a b : Expr} {mr : MAt} {ra : FA}
end
end L2
namespace L2
open PySem PySem.Spec PyProof.Rows
variable {G : PySem.W.Frag}
section
variable {prog : Program} {w : World} {A : Around} {R : Result → Shared → Prop} {I : Addr} {fp wr : List Addr} {n : Nat} {Pv : Nat → Value → Prop} {St : Nat → Heap → Prop}
end
section
variable {prog : Program} {w : World} {A : Around} {E : Value → Shared → Prop} {s : Shared}
end
section
variable {X : Cx} {p c : Bool} {io : List Nat} {a e : Expr} {pos pos' pl pr : Pos} {t : TA} {mr : MAt} {ra : FA}
end
end L2
namespace L2
open PySem PySem.Spec PyProof.Rows
section
variable {X : Cx} {io : List Nat} {tg iter test : Expr} {rs : List Stmt} {mi : MIt} {g : MGt} {mt : MTt} {ur : MSt} {pos pi : Pos} {st : Stmt} {it : FI} {gg : FG} {t : FT} {r : FS}
end
section
variable {X : Cx} {io : List Nat} {e : Expr} {m : MEt} {fa : FE} {i : Nat} {pos pt : Pos} {st : Stmt}
end
section
variable {X : Cx} {io : List Nat} {x : Str} {pos : Pos}
theorem m_gintE {n : Int} (hg : Gl X x) (hm : ∃ t, X.mg x = some (.int n t)) (hdb : (x == ("__debug__" : Str)) = false := by decide) : ME X io true true (.Name x pos) (mC (.int n)) := by
  obtain ⟨t, h⟩ := hm
  exact m_gint hg h hdb
theorem m_gstrE {z : Str} (hg : Gl X x) (hm : ∃ t, X.mg x = some (.str z t)) (hdb : (x == ("__debug__" : Str)) = false := by decide) : ME X io true true (.Name x pos) (mC (.str z)) := by
  obtain ⟨t, h⟩ := hm
  exact m_gstr hg h hdb
end
end L2
namespace L2
end L2
namespace L2
open PySem PySem.Spec PyProof.Rows
variable {G : PySem.W.Frag}
section
variable {X : Cx} {io : List Nat} {e : Expr} {pos apos cpos px pt pl p2 kp sp pt2 pt1 : Pos} {i j k : Nat} {x y z : Str}
end
section
variable {X : Cx} {io : List Nat} {st : Stmt} {i j k c0 : Nat} {d : PyData}
end
section
variable {X : Cx} {io : List Nat} {pos pp cpos px ptt : Pos} {i : Nat} {x : Str} {α : Type} {kd : PyData → Option α} {lt : α → α → Bool} {e : Expr}
end
section
variable {X : Cx} {io : List Nat} {st : Stmt} {i : Nat} {α : Type} {kd : PyData → Option α} {lt : α → α → Bool} {d : PyData}
end
end L2
namespace L2
open PySem PySem.Spec PyProof.Rows PySem.W
structure TmS where
  p : Array Nat
  q : Array (Nat × Nat × Nat)
  g : Nat
noncomputable def TM (α : Type) : Type := TmS → KasT (Option (α × TmS))
noncomputable def TM.nxt {α β : Type} (f : α → TM β) : Option (α × TmS) → KasT (Option (β × TmS))
  | none => .ret none
  | some r => f r.1 r.2
noncomputable instance : Monad TM where
  pure a := fun t => .ret (some (a, t))
  bind m f := fun t => (m t).bind (TM.nxt f)
noncomputable def tmBad {α : Type} : TM α := fun _ => .ret none
noncomputable def tmLt (i j : Nat) : TM (Option Bool) := fun t => .ask i j fun b => .ret (some (some b, t))
noncomputable def lGet (l : List Nat) : Nat → Option Nat := List.rec (motive := fun _ => Nat → Option Nat) (fun _ => none) (fun x _ ih i => Nat.rec (motive := fun _ => Option Nat) (some x) (fun j _ => ih j) i) l
noncomputable def tmEl (a : Array Nat) (i : Nat) : TM Nat := match lGet a.toList i with | some x => pure x | none => tmBad
noncomputable def fcN {β : Type} (n : Nat) (k : Nat → β) : β := Nat.rec (motive := fun _ => β) (k 0) (fun m _ => k (m + 1)) n
noncomputable def fcL {β : Type} (l : List Nat) : (List Nat → β) → β := List.rec (motive := fun _ => (List Nat → β) → β) (fun k => k []) (fun x _ ih k => fcN x fun y => ih fun m => k (y :: m)) l
noncomputable def fcQ {β : Type} (l : List (Nat × Nat × Nat)) : (List (Nat × Nat × Nat) → β) → β := List.rec (motive := fun _ => (List (Nat × Nat × Nat) → β) → β) (fun k => k []) (fun x _ ih k => fcN x.1 fun a => fcN x.2.1 fun b => fcN x.2.2 fun c => ih fun m => k ((a, b, c) :: m)) l
noncomputable def fcT {β : Type} (t : TmS) (k : TmS → β) : β := fcL t.p.toList fun p => fcQ t.q.toList fun q => fcN t.g fun g => k ⟨⟨p⟩, ⟨q⟩, g⟩
noncomputable def tmGet : TM TmS := fun t => .ret (some (t, t))
noncomputable def tmMod (f : TmS → TmS) : TM PUnit := fun t => fcT (f t) fun t => .ret (some (⟨⟩, t))
noncomputable def tmFor {β : Type} : List Nat → β → (Nat → β → TM (ForInStep β)) → TM β
  | [], b, _ => pure b
  | x :: l, b, f => do
    match ← f x b with
    | .done b => pure b
    | .yield b => tmFor l b f
section
variable {prog : Program} {w : World} {A : Around} {E : Value → Shared → Prop} {κ : SortKind} {it : Array Keyed}
variable {α β α' β' : Type}
end
end L2
namespace L2
open PySem PySem.Spec PyProof.Rows PySem.W
structure Rg where
  a : Nat
  b : Nat
noncomputable instance : ForIn TM Rg Nat where
  forIn r b f := tmFor (List.range' r.a (r.b - r.a)) b f
noncomputable def tmBey (le : Bool) (key : Nat) (arr : Array Nat) (base i : Nat) : TM (Option Bool) := do
  let x ← tmEl arr (base + i)
  if le then tmLt x key else return (← tmLt key x).map (!·)
noncomputable def tmGal (le : Bool) (key : Nat) (arr : Array Nat) (base n hint : Nat) : TM (Option Nat) := do
  let mut last := 0
  let mut ofs := 1
  let mut lo := 0
  let mut hi := 0
  let some right ← tmBey le key arr base hint | return none
  if right then
    let most := n - hint
    for _ in Rg.mk 0 n do
      if ofs ≥ most then break
      let some more ← tmBey le key arr base (hint + ofs) | return none
      if !more then break
      last := ofs
      ofs := 2 * ofs + 1
    lo := hint + last + 1
    hi := hint + min ofs most
  else
    let most := hint + 1
    for _ in Rg.mk 0 n do
      if ofs ≥ most then break
      let some more ← tmBey le key arr base (hint - ofs) | return none
      if more then break
      last := ofs
      ofs := 2 * ofs + 1
    lo := hint + 1 - min ofs most
    hi := hint - last
  for _ in Rg.mk 0 n do
    if lo ≥ hi then break
    let m := lo + (hi - lo) / 2
    let some more ← tmBey le key arr base m | return none
    if more then lo := m + 1 else hi := m
  return some hi
section
variable {prog : Program} {w : World} {A : Around} {E : Value → Shared → Prop} {κ : SortKind} {it : Array Keyed} {α β : Type}
end
end L2
namespace L2
open PySem PySem.Spec PyProof.Rows PySem.W
noncomputable def tmSetG (g : Nat) : TM PUnit := tmMod fun t => { t with g := g }
noncomputable def tmLo (a b : Array Nat) : TM (Array Nat) := do
  let total := a.size + b.size
  let fin (out : Array Nat) (i j : Nat) := out ++ a.extract i a.size ++ b.extract j b.size
  let lst (out : Array Nat) (i j : Nat) := out ++ b.extract j b.size ++ a.extract i a.size
  let mut out : Array Nat := #[← tmEl b 0]
  let mut i := 0
  let mut j := 1
  if j == b.size then return fin out i j
  if i + 1 == a.size then return lst out i j
  let mut mg := (← tmGet).g
  for _ in Rg.mk 0 total do
    let mut na := 0
    let mut nb := 0
    for _ in Rg.mk 0 total do
      let some c ← tmLt (← tmEl b j) (← tmEl a i) | return fin out i j
      if c then
        out := out.push (← tmEl b j); j := j + 1; nb := nb + 1; na := 0
        if j == b.size then return fin out i j
        if nb ≥ mg then break
      else
        out := out.push (← tmEl a i); i := i + 1; na := na + 1; nb := 0
        if i + 1 == a.size then return lst out i j
        if na ≥ mg then break
    mg := mg + 1
    for _ in Rg.mk 0 total do
      if mg > 1 then mg := mg - 1
      tmSetG mg
      let some k ← tmGal false (← tmEl b j) a i (a.size - i) 0 | return fin out i j
      na := k
      if k > 0 then
        out := out ++ a.extract i (i + k); i := i + k
        if i + 1 == a.size then return lst out i j
        if i == a.size then return fin out i j
      out := out.push (← tmEl b j); j := j + 1
      if j == b.size then return fin out i j
      let some k ← tmGal true (← tmEl a i) b j (b.size - j) 0 | return fin out i j
      nb := k
      if k > 0 then
        out := out ++ b.extract j (j + k); j := j + k
        if j == b.size then return fin out i j
      out := out.push (← tmEl a i); i := i + 1
      if i + 1 == a.size then return lst out i j
      if na < 7 && nb < 7 then break
    mg := mg + 1
    tmSetG mg
  tmBad
section
variable {prog : Program} {w : World} {A : Around} {E : Value → Shared → Prop} {κ : SortKind} {it : Array Keyed} {α β γ : Type}
end
end L2
namespace L2
open PySem PySem.Spec PyProof.Rows PySem.W
noncomputable def tmHi (a b : Array Nat) : TM (Array Nat) := do
  let total := a.size + b.size
  let fin (out : Array Nat) (i j : Nat) := a.extract 0 i ++ b.extract 0 j ++ out.reverse
  let fst (out : Array Nat) (i j : Nat) := b.extract 0 j ++ a.extract 0 i ++ out.reverse
  let mut i := a.size - 1
  let mut j := b.size
  let mut out : Array Nat := #[← tmEl a i]
  if i == 0 then return fin out i j
  if j == 1 then return fst out i j
  let mut mg := (← tmGet).g
  for _ in Rg.mk 0 total do
    let mut na := 0
    let mut nb := 0
    for _ in Rg.mk 0 total do
      let some c ← tmLt (← tmEl b (j - 1)) (← tmEl a (i - 1)) | return fin out i j
      if c then
        i := i - 1; out := out.push (← tmEl a i); na := na + 1; nb := 0
        if i == 0 then return fin out i j
        if na ≥ mg then break
      else
        j := j - 1; out := out.push (← tmEl b j); nb := nb + 1; na := 0
        if j == 1 then return fst out i j
        if nb ≥ mg then break
    mg := mg + 1
    for _ in Rg.mk 0 total do
      if mg > 1 then mg := mg - 1
      tmSetG mg
      let some x ← tmGal false (← tmEl b (j - 1)) a 0 i (i - 1) | return fin out i j
      let k := i - x
      na := k
      if k > 0 then
        out := out ++ (a.extract x i).reverse; i := x
        if i == 0 then return fin out i j
      j := j - 1; out := out.push (← tmEl b j)
      if j == 1 then return fst out i j
      let some x ← tmGal true (← tmEl a (i - 1)) b 0 j (j - 1) | return fin out i j
      let k := j - x
      nb := k
      if k > 0 then
        out := out ++ (b.extract x j).reverse; j := x
        if j == 1 then return fst out i j
        if j == 0 then return fin out i j
      i := i - 1; out := out.push (← tmEl a i)
      if i == 0 then return fin out i j
      if na < 7 && nb < 7 then break
    mg := mg + 1
    tmSetG mg
  tmBad
section
variable {prog : Program} {w : World} {A : Around} {E : Value → Shared → Prop} {κ : SortKind} {it : Array Keyed} {α β γ : Type}
end
end L2
namespace L2
open PySem PySem.Spec PyProof.Rows PySem.W
noncomputable def tmLtA (i j : Nat) : TM (Option Bool) := do
  let t ← tmGet
  let x ← tmEl t.p i
  let y ← tmEl t.p j
  tmLt x y
noncomputable def tmRev (i j : Nat) : TM PUnit := tmMod fun t => { t with p := kas_rev t.p i j }
noncomputable def mvL (l : List Nat) (i d : Nat) : List Nat := l.take (i - d) ++ ((l.drop i).take 1 ++ ((l.drop (i - d)).take d ++ l.drop (i + 1)))
noncomputable def fMov (p : Array Nat) (i j : Nat) : Array Nat := if (Nat.blt i p.toList.length && Nat.ble j i) = true then ⟨mvL p.toList i (i - j)⟩ else bubble p i (i - j)
noncomputable def tmMov (i j : Nat) : TM PUnit := tmMod fun t => { t with p := fMov t.p i j }
noncomputable def tmCnt (lo m : Nat) : TM (Option Nat) := do
  let mut n := 1
  for _ in Rg.mk 1 m do
    let some c ← tmLtA (lo + n) (lo + n - 1) | return none
    if c then break
    n := n + 1
  if n == m then return some n
  if n > 1 then
    let some c ← tmLtA lo (lo + n - 1) | return none
    if c then return some n
    tmRev lo (lo + n)
  n := n + 1
  let mut e := 0
  for _ in Rg.mk n m do
    let some c ← tmLtA (lo + n) (lo + n - 1) | return none
    if c then
      if e > 0 then tmRev (lo + n - (e + 1)) (lo + n)
      e := 0
    else
      let some d ← tmLtA (lo + n - 1) (lo + n) | return none
      if d then break
      e := e + 1
    n := n + 1
  if e > 0 then tmRev (lo + n - (e + 1)) (lo + n)
  tmRev lo (lo + n)
  for _ in Rg.mk n m do
    let some c ← tmLtA (lo + n) (lo + n - 1) | return none
    if c then break
    n := n + 1
  return some n
noncomputable def tmBin (lo n ok : Nat) : TM Bool := do
  for k in Rg.mk (max ok 1) n do
    let mut l := 0
    let mut r := k
    for _ in Rg.mk 0 k do
      if l ≥ r then break
      let m := (l + r) / 2
      let some c ← tmLtA (lo + k) (lo + m) | return false
      if c then r := m else l := m + 1
    tmMov (lo + k) (lo + l)
  return true
section
variable {prog : Program} {w : World} {A : Around} {E : Value → Shared → Prop} {κ : SortKind} {it : Array Keyed} {α β γ : Type}
end
end L2
namespace L2
open PySem PySem.Spec PyProof.Rows PySem.W
noncomputable def layA {γ : Type} (k : Nat) (m a : Array γ) : Array γ := m.toList.zipIdx.foldl (fun a q => a.setIfInBounds (k + q.2) q.1) a
noncomputable def tmAt (i : Nat) : TM Bool := do
  let t ← tmGet
  let (some (c, n, u), some (d, m, _)) := (t.q[i]?, t.q[i + 1]?) | tmBad
  tmMod fun _ => { t with q := (t.q.setIfInBounds i (c, n + m, u)).eraseIdxIfInBounds (i + 1) }
  let some k ← tmGal false (← tmEl t.p d) t.p c n 0 | return false
  let (c, n) := (c + k, n - k)
  if n == 0 then return true
  let some m ← tmGal true (← tmEl t.p (c + n - 1)) t.p d m (m - 1) | return false
  if m == 0 then return true
  let x := t.p.extract c d
  let y := t.p.extract d (d + m)
  let z ← if n ≤ m then tmLo x y else tmHi x y
  tmMod fun t => { t with p := layA c z t.p }
  let _ ← tmGet
  return true
section
variable {prog : Program} {w : World} {A : Around} {E : Value → Shared → Prop} {κ : SortKind} {it : Array Keyed} {α β γ : Type}
noncomputable def tmSort : TM PUnit := do
  let sz := (← tmGet).p.size
  let mr := minRun' sz sz 0
  let mut lo := 0
  for _ in Rg.mk 0 sz do
    if lo ≥ sz then break
    let some f ← tmCnt lo (sz - lo) | return
    let mut n := f
    if n < mr then
      let fo := min (sz - lo) mr
      if !(← tmBin lo fo n) then return
      n := fo
    if let some (c, m, _) := (← tmGet).q.back? then
      let u := power' sz (2 * c + m) (2 * c + m + m + n) sz
      for _ in Rg.mk 0 sz do
        let z := (← tmGet).q
        let some (_, _, v) := (if z.size > 1 then z[z.size - 2]? else none) | break
        if v ≤ u then break
        if !(← tmAt (z.size - 2)) then return
      tmMod fun t => { t with q := t.q.modify (t.q.size - 1) fun (c, m, _) => (c, m, u) }
    tmMod fun t => { t with q := t.q.push (lo, n, 0) }
    lo := lo + n
  for _ in Rg.mk 0 sz do
    let z := (← tmGet).q
    if z.size ≤ 1 then break
    let k := z.size - 2
    let bf := if k > 0 then z[k - 1]?.map (·.2.1) else none
    let k := if bf.any (· < (z[k + 1]?.elim 0 (·.2.1))) then k - 1 else k
    if !(← tmAt k) then return
end
end L2
namespace L2
open PySem PySem.Spec PyProof.Rows PySem.W
noncomputable def kEv2 {α : Type} (lt : Nat → Nat → Bool) (n : Nat) : KasT α → Option α
  | .ret a => some a
  | .ask i j k => if (Nat.blt i n && Nat.blt j n) = true then kEv2 lt n (k (lt i j)) else none
noncomputable def tmOrd (lt : Nat → Nat → Bool) (n : Nat) : Option (List Nat) := (kEv2 lt n (tmSort ⟨(List.range n).toArray, #[], 7⟩)).bind fun o => o.map fun r => r.2.p.toList
noncomputable def tLay {α : Type} (d : α) (l : List Nat) (vs : List α) : List α := l.map fun i => vs.getD i d
section
variable {prog : Program} {w : World} {A : Around} {E : Value → Shared → Prop} {s : Shared}
end
variable {G : PySem.W.Frag}
section
variable {X : Cx} {α : Type} {kd : PyData → Option α} {lt : α → α → Bool}
noncomputable def gSortT (kd : PyData → Option α) (lt : α → α → Bool) : List PyData → Option OT := fun ds => match ds with
  | [.list es] => (tmOrd (lk kd lt es) es.length).bind fun p => if (decide (2 ≤ es.length) && decide (es.length ≤ 10000) && decide (p.length = es.length) && es.all fun d => (kd d).isSome) = true then some (.nd ((tLay .none p es).map OT.fz)) else none
  | _ => none
noncomputable def gSortB (kd : PyData → Option α) (lt : α → α → Bool) : List PyData → Option OT := fun ds => match gSortK kd lt ds with | some o => some o | none => gSortT kd lt ds
end
end L2
namespace L2
open PySem PySem.Spec
section
variable {e a b : FE} {as : FA} {δ : DEnv} {Q : PyData → DEnv → Prop} {QA : List PyData → DEnv → Prop} {T : Bool → DEnv → Prop} {t u : FT} {S S' : FS} {N : DEnv → Prop} {R : PyData → DEnv → Prop} {i : Nat} {d : PyData}
end
end L2
namespace L2
open PySem PySem.Spec PyProof.Rows
variable {G : PySem.W.Frag}
section
variable {X : Cx} {io : List Nat} {p c p' c' : Bool} {a b e : Expr} {ma m mi mj : MEt} {pos pp p2 apos cpos px : Pos} {K : PySem.W.Frag} {i : Nat} {x : Str}
end
section
variable {X : Cx} {io : List Nat} {st : Stmt} {fa fb : FE} {i : Nat}
end
end L2
namespace L2
open PySem PySem.Spec PyProof.Rows
variable {G : PySem.W.Frag}
section
variable {X : Cx} {io : List Nat} {p c : Bool} {e : Expr} {m : MEt} {i j : Nat} {x y : Str} {px py p2 p3 pos cpos apos : Pos}
end
section
variable {X : Cx} {io : List Nat} {p c : Bool} {e : Expr} {st : Stmt} {i j : Nat} {fa : FE} {u : FS}
end
end L2
namespace L2
open PySem PySem.Spec PyProof.Rows
variable {G : PySem.W.Frag}
noncomputable def mForM (i j : Nat) (u : MSt) : MSt := fun D δ => match δ[i]? with
  | some (some (.nd ts)) => ∃ I : Nat → List OT → DEnv → Prop, I 0 [] (δ.set i none) ∧
    (∀ (k : Nat) (t : OT) (done : List OT) (δ' : DEnv), ts[k]? = some t → I k done δ' → j < δ'.length ∧ u { D with rt := fun r δ4 => D.rt r ((δ4.set i none).set j none), nx := fun δ4 => δ4[i]? = some none ∧ ∃ t', δ4[j]? = some (some t') ∧ I (k + 1) (done ++ [t']) (δ4.set j none), ct := fun _ => False, bk := fun _ => False } (δ'.set j (some t))) ∧
    ∀ done δ', I ts.length done δ' → D.nx (δ'.set i (some (.nd done)))
  | _ => False
theorem Rel.back2 {C : MC G} {H : Hp} {σ s : St} {δ : DEnv} {fp : Fp} {ex : Addr → Prop} {i j : Nat} (R : Rel (⟨C.H₀, C.as₀, C.L, s⟩ : MC G) [i, j] H σ δ fp ex) : Rel C [] H σ ((δ.set i none).set j none) (fpu (fpu fp i []) j []) ex := by
  have sub : ∀ q b, b ∈ fpu (fpu fp i []) j [] q → q ≠ i ∧ q ≠ j ∧ b ∈ fp q := fun q b m => by
    by_cases ej : q = j
    · subst ej; rw [fpu_same] at m; exact nomatch m
    · rw [fpu_ne ej] at m
      by_cases ei : q = i
      · subst ei; rw [fpu_same] at m; exact nomatch m
      · rw [fpu_ne ei] at m; exact ⟨ei, ej, m⟩
  refine ⟨by rw [List.length_set, List.length_set]; exact R.len, fun q t e => ?_, fun q h => ?_, fun q => ?_, fun q k a h1 h2 => R.dj q k a (sub q a h1).2.2 (sub k a h2).2.2, fun q a h z => R.dx q a (sub q a h).2.2 z, R.xa, R.fr, R.al, fun q a h => ?_, fun q z => nomatch z⟩
  · have hq : q ≠ i ∧ q ≠ j ∧ δ[q]? = some (some t) := by
      by_cases ej : q = j
      · subst ej
        rw [List.getElem?_set] at e
        split at e
        · split at e <;> cases e
        · exact absurd rfl ‹_›
      · rw [List.getElem?_set_ne (Ne.symm ej)] at e
        by_cases ei : q = i
        · subst ei
          rw [List.getElem?_set] at e
          split at e
          · split at e <;> cases e
          · exact absurd rfl ‹_›
        · rw [List.getElem?_set_ne (Ne.symm ei)] at e
          exact ⟨ei, ej, e⟩
    obtain ⟨v, e1, o⟩ := R.own q t hq.2.2
    refine ⟨v, e1, ?_⟩
    rw [fpu_ne hq.2.1, fpu_ne hq.1]
    exact o.wide fun a l _ => ⟨fun ⟨k, z⟩ => l.1 ⟨k, (sub k a z).2.2⟩, l.2.1, l.2.2⟩
  · by_cases ej : q = j
    · subst ej; rw [fpu_same]
    · rw [fpu_ne ej]
      by_cases ei : q = i
      · subst ei; rw [fpu_same]
      · rw [fpu_ne ei]
        exact R.emp q fun t z => h t (by rw [List.getElem?_set_ne (Ne.symm ej), List.getElem?_set_ne (Ne.symm ei)]; exact z)
  · by_cases ej : q = j
    · subst ej; rw [fpu_same]; exact .nil
    · rw [fpu_ne ej]
      by_cases ei : q = i
      · subst ei; rw [fpu_same]; exact .nil
      · rw [fpu_ne ei]; exact R.nd q
  · obtain ⟨ni, nj, m⟩ := sub q a h
    rcases R.new q a m with z | z
    · rcases List.mem_cons.mp z.1 with z | z
      · exact absurd z ni
      · exact absurd (List.mem_singleton.mp z) nj
    · exact .inr z
theorem ms_forM {X : Cx} {x y : Str} {body : List Stmt} {u : MSt} {pt pl pos : Pos} (i j : Nat) (hp : PassesOwn (model X.prog X.w) X.A X.env X.xe) (hc : X.calm = true) (nd : X.N.Nodup) (hb : MSs X [i, j] body u) (hN : X.N[i]? = some x) (hj : X.N[j]? = some y) (hij : i ≠ j) (hlj : Loc X.env.scope y)
    (hv : Vis X.env.scope x := by first | exact Or.inl rfl | exact Or.inr (Or.inl rfl) | exact Or.inr (Or.inr rfl)) (hd : (x == ("__debug__" : Str)) = false := by decide) (hcd : (x == ("__classdict__" : Str)) = false := by decide)
    (hfs : ∀ z, foldedSetIterable (.Name x pl) X.env z = pure z := by intro _; rfl) (hf : X.fn y = true ∨ X.env.scope.names.lookup y = some .local := by first | exact .inl rfl | exact .inr rfl | assumption) :
    MS X [] (.For (.Name y pt) (.Name x pl) body [] pos) (mForM i j u) := by
  obtain ⟨_, B, sb⟩ := hb
  refine ⟨_, ps_for hp hc (pi_list (pv i hN hv hd hcd)) (pg_name (i := j) nd hj hlj (hf := hf)) B hfs, fun C H σ δ fp ex D D' R h E => ?_⟩
  unfold mForM at h
  split at h
  case h_2 => exact h.elim
  rename_i ts hi
  obtain ⟨I, h0, turn, fin⟩ := h
  obtain ⟨a, xs, bs0, hv0, hx, ow0, hfp0⟩ := R.ownNd hi
  refine ⟨_, hv0, a, rfl, ⟨xs, .inl (.inl hx)⟩, ?_⟩
  have no : ∀ {z : Nat}, z ∉ ([] : List Nat) := fun z => nomatch z
  have nd0 := R.nd i
  rw [hfp0] at nd0
  have new0 : ∀ b ∈ fp i, C.H₀ b = none := fun b m => (R.new i b m).resolve_left fun z => nomatch z.1
  refine for_list (xs := xs) (fun k σ' H' => ∃ δ' fp' done ds rest, Rel C [] H' σ' δ' fp' (exu ex (a :: (ds ++ rest))) ∧ Kp H fp H' fp' ∧ Owns X.K H' (Lf C fp' (exu ex (a :: (ds ++ rest)))) (xs.take k) done ds ∧ Owns X.K H' (Lf C fp' (exu ex (a :: (ds ++ rest)))) (xs.drop k) (ts.drop k) rest ∧ (a :: (ds ++ rest)).Nodup ∧ (∀ b ∈ a :: (ds ++ rest), C.H₀ b = none ∧ (Foot fp b ∨ H b = none)) ∧ H' a = some (.lst xs) ∧ σ'[i]? = some (some (.ref a)) ∧ I k done δ')
    ?_ (fun k σ' H' _ q => ?_) (fun k x σ' H' ek q => ?_) fun σ' H' q => ?_
  · refine ⟨δ.set i none, fpu fp i [], [], [], bs0, (R.take hi).drop fun b z => ?_, ⟨fun b o e _ => e, fun z => (nomatch z), fun b z => ?_, fun b e => e⟩, .nil, ?_, nd0, fun b m => ?_, hx, hv0, h0⟩
    · rcases z with z | z
      · exact .inl z
      · exact .inr (by rw [hfp0]; exact z)
    · rcases z.of_u with z | ⟨q, _, z⟩
      · exact nomatch z
      · exact .inl ⟨q, z⟩
    · refine ow0.wide fun b l _ => ⟨fun z => ?_, fun z => ?_, l.2.2⟩
      · rcases z.of_u with z | ⟨q, _, z⟩
        · exact nomatch z
        · exact l.1 ⟨q, z⟩
      · rcases z with z | z
        · exact l.2.1 z
        · exact l.1 ⟨i, by rw [hfp0]; exact z⟩
    · have m' : b ∈ fp i := by rw [hfp0]; exact m
      exact ⟨new0 b m', .inl ⟨i, m'⟩⟩
  · obtain ⟨_, _, _, _, _, _, _, _, _, _, _, e, _⟩ := q
    exact .inl (.inl e)
  · obtain ⟨δ', fp', done, ds, rest, R', k', od, o', nd', fr', e', hσ, i'⟩ := q
    have hk : k < xs.length := (List.getElem?_eq_some_iff.mp ek).1
    have hk2 : k < ts.length := by rw [← ow0.length]; exact hk
    rw [List.drop_eq_getElem_cons hk, List.drop_eq_getElem_cons hk2] at o'
    have ex' : xs[k] = x := (List.getElem?_eq_some_iff.mp ek).2
    have ext : xs.take (k + 1) = xs.take k ++ [x] := by rw [List.take_succ_eq_append_getElem hk, ex']
    rw [ex'] at o'
    generalize hxs : xs.drop (k + 1) = xr at o'
    generalize hts : ts.drop (k + 1) = tr at o'
    generalize htk : ts[k] = t at o'
    cases o' with
    | cons ot orr =>
      rename_i cs es
      have n1 := List.nodup_cons.mp nd'
      have n0 := List.nodup_append.mp n1.2
      have n2 := List.nodup_append.mp n0.2.1
      have mcs : ∀ b ∈ cs, b ∈ ds ++ (cs ++ es) := fun b m => List.mem_append_right _ (List.mem_append_left _ m)
      have mes : ∀ b ∈ es, b ∈ ds ++ (cs ++ es) := fun b m => List.mem_append_right _ (List.mem_append_right _ m)
      have mds : ∀ b ∈ ds, b ∈ ds ++ (cs ++ es) := fun b m => List.mem_append_left _ m
      have sub1 : ∀ b, exu (exu ex (a :: (ds ++ es))) cs b → exu ex (a :: (ds ++ (cs ++ es))) b := fun b z => by
        rcases z with (z | z) | z
        · exact .inl z
        · rcases List.mem_cons.mp z with z | z
          · rw [z]; exact .inr (.head _)
          · rcases List.mem_append.mp z with z | z
            · exact .inr (.tail _ (mds b z))
            · exact .inr (.tail _ (mes b z))
        · exact .inr (.tail _ (mcs b z))
      have R2 : Rel C [] H' σ' δ' fp' (exu (exu ex (a :: (ds ++ es))) cs) := R'.drop sub1
      have lw : ∀ b, Lf C fp' (exu ex (a :: (ds ++ (cs ++ es)))) b → H' b ≠ none → Lf C fp' (exu (exu ex (a :: (ds ++ es))) cs) b := fun b l _ => ⟨l.1, fun z => l.2.1 (sub1 b z), l.2.2⟩
      have lw2 : ∀ b, Lf C fp' (exu ex (a :: (ds ++ (cs ++ es)))) b → b ∉ cs := fun b l z => l.2.1 (.inr (.tail _ (mcs b z)))
      have apart : ∀ b ∈ cs, b ∉ a :: (ds ++ es) := fun b m z => by
        rcases List.mem_cons.mp z with z | z
        · exact n1.1 (z ▸ mcs b m)
        · rcases List.mem_append.mp z with z | z
          · exact n0.2.2 b z b (List.mem_append_left _ m) rfl
          · exact n2.2.2 b m b z rfl
      obtain ⟨fp2, R3, g⟩ := R2.put (v := x) (r := t) (i := j) no (ot.wide lw) n2.1 fun b m => ⟨(fr' b (.tail _ (mcs b m))).1, fun z => by
        rcases z with z | z
        · rcases (fr' b (.tail _ (mcs b m))).2 with ⟨q, w⟩ | w
          · exact R.dx q b w z
          · exact R.xa b z w
        · exact apart b m z⟩
      have k2 : Kp H fp H' fp2 := ⟨fun b o e q => k'.keep b o e q, fun z => (nomatch z), fun b z => by
        rcases g b z with z | z
        · exact k'.grow b z
        · exact (fr' b (.tail _ (mcs b z))).2, k'.al⟩
      have lw3 : ∀ b, Lf C fp' (exu ex (a :: (ds ++ (cs ++ es)))) b → H' b ≠ none → Lf C fp2 (exu ex (a :: (ds ++ es))) b := fun b l nb => ⟨fun z => (g b z).elim l.1 (lw2 b l), fun z => l.2.1 (sub1 b (.inl z)), l.2.2⟩
      have o3 := orr.wide lw3
      have od3 := od.wide lw3
      have hti : ts[k]? = some t := by rw [List.getElem?_eq_getElem hk2, htk]
      have R3' : Rel (⟨C.H₀, C.as₀, C.L, σ'.set j (some x)⟩ : MC X.K) [i, j] H' (σ'.set j (some x)) (δ'.set j (some t)) fp2 (exu ex (a :: (ds ++ es))) := ⟨R3.len, R3.own, R3.emp, R3.nd, R3.dj, R3.dx, R3.xa, R3.fr, R3.al, fun q b m => (R3.new q b m).imp (fun z => nomatch z.1) id, fun q _ => rfl⟩
      obtain ⟨hjl, hu⟩ := turn k t done δ' hti i'
      have jl : j < σ'.length := by rw [R'.len]; exact hjl
      refine sb ⟨C.H₀, C.as₀, C.L, σ'.set j (some x)⟩ H' _ _ fp2 (exu ex (a :: (ds ++ es))) _ _ R3' hu ⟨fun H'' σ4 δ4 fp4 R4 k4 n4 => ?_, fun _ _ _ _ _ _ z => z.elim, fun _ _ _ _ _ _ z => z.elim, fun H'' σ'' v' r' δ'' fp'' nw R'' o'' nd'' fr'' q'' => ?_⟩
      · obtain ⟨hin, t', hjt, hI⟩ := n4
        have ei : fp4 i = [] := R4.emp i fun t z => by rw [hin] at z; cases z
        have h0' : ∀ b, Foot fp4 b → C.H₀ b = none := fun b z => by
          rcases k4.grow b z with ⟨q, w⟩ | w
          · exact (R3.new q b w).resolve_left fun z => nomatch z.1
          · exact R3.al b w
        have R4b : Rel C [] H'' σ4 δ4 fp4 (exu ex (a :: (ds ++ es))) := ⟨R4.len, R4.own, R4.emp, R4.nd, R4.dj, R4.dx, R4.xa, R4.fr, R4.al, fun q b m => .inr (h0' b ⟨q, m⟩), fun q z => nomatch z⟩
        have sj : σ4[j]? = some (some x) := (R4.io j (.tail _ (.head _))).trans (List.getElem?_set_self jl)
        have si : σ4[i]? = some (some (.ref a)) := (R4.io i (.head _)).trans ((List.getElem?_set_ne hij.symm).trans hσ)
        obtain ⟨v, ev, ov⟩ := R4b.own j t' hjt
        rw [sj] at ev
        cases ev
        have R5 := R4b.take hjt
        have st : Stp false H' (δ'.set j (some t)) fp2 H'' δ4 fp4 := ⟨k4.keep, fun z => (nomatch z), k4.grow, k4.al⟩
        have od5 := R3.owns_step (c := true) (p := false) (δ' := δ4) st (.inr rfl) (fun b z => .inl z) (fun b m => .inr (.tail _ (List.mem_append_left _ m))) (od3.wide fun b l _ _ => l)
        have or5 := R3.owns_step (c := true) (p := false) (δ' := δ4) st (.inr rfl) (fun b z => .inl z) (fun b m => .inr (.tail _ (List.mem_append_right _ m))) (o3.wide fun b l _ _ => l)
        have notj : ∀ b ∈ fp4 j, b ∉ a :: (ds ++ es) := fun b m z => R4b.dx j b m (.inr z)
        have sub6 : ∀ b, exu ex (a :: ((ds ++ fp4 j) ++ es)) b → exu (exu ex (a :: (ds ++ es))) (fp4 j) b := fun b z => by
          rcases z with z | z
          · exact .inl (.inl z)
          · rcases List.mem_cons.mp z with z | z
            · rw [z]; exact .inl (.inr (.head _))
            · rcases List.mem_append.mp z with z | z
              · rcases List.mem_append.mp z with z | z
                · exact .inl (.inr (.tail _ (List.mem_append_left _ z)))
                · exact .inr z
              · exact .inl (.inr (.tail _ (List.mem_append_right _ z)))
        have lw6 : ∀ b, Lf C fp4 (exu ex (a :: (ds ++ es))) b → H'' b ≠ none → Lf C (fpu fp4 j []) (exu ex (a :: ((ds ++ fp4 j) ++ es))) b := fun b l _ => ⟨fun z => by
          rcases z.of_u with z | ⟨q, _, z⟩
          · exact nomatch z
          · exact l.1 ⟨q, z⟩, fun z => by
          rcases sub6 b z with z | z
          · exact l.2.1 z
          · exact l.1 ⟨j, z⟩, l.2.2⟩
        refine ⟨δ4.set j none, fpu fp4 j [], done ++ [t'], ds ++ fp4 j, es, R5.drop sub6, (k2.trans k4).trans ⟨fun b o e _ => e, fun z => (nomatch z), fun b z => ?_, fun b e => e⟩, ?_, ?_, ?_, fun b m => ?_, ?_, si, hI⟩
        · rcases z.of_u with z | ⟨q, _, z⟩
          · exact nomatch z
          · exact .inl ⟨q, z⟩
        · rw [ext]
          exact (od5.wide fun b l nb => lw6 b (l rfl) nb).snoc (ov.wide lw6)
        · exact or5.wide fun b l nb => lw6 b (l rfl) nb
        · have q0 := List.nodup_append.mp n0.2.1
          refine List.nodup_cons.mpr ⟨fun m => ?_, List.nodup_append.mpr ⟨List.nodup_append.mpr ⟨n0.1, R4b.nd j, fun b m c m' z => ?_⟩, n2.2.1, fun b m c m' z => ?_⟩⟩
          · rcases List.mem_append.mp m with m | m
            · rcases List.mem_append.mp m with m | m
              · exact n1.1 (mds a m)
              · exact notj a m (.head _)
            · exact n1.1 (mes a m)
          · exact notj c m' (.tail _ (List.mem_append_left _ (z ▸ m)))
          · rcases List.mem_append.mp m with m | m
            · exact n0.2.2 b m c (List.mem_append_right _ m') z
            · exact notj b m (.tail _ (List.mem_append_right _ (z ▸ m')))
        · rcases List.mem_cons.mp m with m | m
          · rw [m]; exact fr' a (.head _)
          · rcases List.mem_append.mp m with m | m
            · rcases List.mem_append.mp m with m | m
              · exact fr' b (.tail _ (mds b m))
              · exact ⟨h0' b ⟨j, m⟩, (k2.trans k4).grow b ⟨j, m⟩⟩
            · exact fr' b (.tail _ (mes b m))
        · exact k4.keep a _ e' (.inr fun z => by
            obtain ⟨q, z⟩ := z
            exact R3.dx q a z (.inr (.head _)))
      · refine E.rt H'' σ'' v' r' _ _ nw (R''.back2.drop fun b z => z.imp .inl id) (o''.wide fun b l _ => ⟨fun ⟨q, z⟩ => l.1 ⟨q, ?_⟩, fun z => l.2.1 (z.imp .inl id), l.2.2⟩) nd'' fr'' q''
        by_cases ej : q = j
        · subst ej; rw [fpu_same] at z; exact nomatch z
        · rw [fpu_ne ej] at z
          by_cases ei : q = i
          · subst ei; rw [fpu_same] at z; exact nomatch z
          · rw [fpu_ne ei] at z; exact z
  · obtain ⟨δ', fp', done, ds, rest, R', k', od, o', nd', fr', e', hσ, i'⟩ := q
    have el : xs.length = ts.length := ow0.length
    rw [List.take_length] at od
    rw [el] at i' o'
    have n1 := List.nodup_cons.mp nd'
    have n0 := List.nodup_append.mp n1.2
    have dl : ∀ b, exu ex (a :: ds) b → exu ex (a :: (ds ++ rest)) b := fun b z => z.imp id fun z => by
      rcases List.mem_cons.mp z with z | z
      · rw [z]; exact .head _
      · exact .tail _ (List.mem_append_left _ z)
    have R6 := R'.drop dl
    obtain ⟨fp7, R7, g⟩ := R6.put (v := .ref a) (r := .nd done) (i := i) no (.nd e' (od.wide fun b l _ => ⟨l.1, fun z => l.2.1 (dl b z), l.2.2⟩)) (List.nodup_cons.mpr ⟨fun m => n1.1 (List.mem_append_left _ m), n0.1⟩) fun b m => by
      have mm : b ∈ a :: (ds ++ rest) := by
        rcases List.mem_cons.mp m with m | m
        · rw [m]; exact .head _
        · exact .tail _ (List.mem_append_left _ m)
      refine ⟨(fr' b mm).1, fun z => ?_⟩
      rcases (fr' b mm).2 with ⟨q, w⟩ | w
      · exact R.dx q b w z
      · exact R.xa b z w
    have es : σ'.set i (some (.ref a)) = σ' := by
      obtain ⟨q, e⟩ := List.getElem?_eq_some_iff.mp hσ
      rw [← e, List.set_getElem_self]
    rw [es] at R7
    refine E.nx H' σ' _ fp7 R7 ⟨k'.keep, fun z => (nomatch z), fun b z => ?_, k'.al⟩ (fin done δ' i')
    rcases g b z with z | z
    · exact k'.grow b z
    · refine (fr' b ?_).2
      rcases List.mem_cons.mp z with z | z
      · rw [z]; exact .head _
      · exact .tail _ (List.mem_append_left _ z)
noncomputable def forLoopM (i j : Nat) (u : FS) : List OT → List OT → DEnv → RS
  | done, [], δ => .nx (δ.set i (some (.nd done)))
  | done, t :: ts, δ => if j < δ.length then match u (δ.set j (some t)) with
    | .nx δ4 => match δ4[i]?, δ4[j]? with
      | some none, some (some t') => forLoopM i j u (done ++ [t']) ts (δ4.set j none)
      | _, _ => .bad
    | .rt r δ4 => .rt r ((δ4.set i none).set j none)
    | _ => .bad
    else .bad
noncomputable def fForM (i j : Nat) (u : FS) : FS := fun δ => match δ[i]? with
  | some (some (.nd ts)) => forLoopM i j u [] ts (δ.set i none)
  | _ => .bad
section
variable {X : Cx} {io : List Nat} {st : Stmt} {i j : Nat} {u : FS}
theorem forLoopM_cons {t : OT} {done ts : List OT} {δ : DEnv} : forLoopM i j u done (t :: ts) δ = if j < δ.length then match u (δ.set j (some t)) with
    | .nx δ4 => match δ4[i]?, δ4[j]? with
      | some none, some (some t') => forLoopM i j u (done ++ [t']) ts (δ4.set j none)
      | _, _ => .bad
    | .rt r δ4 => .rt r ((δ4.set i none).set j none)
    | _ => .bad
    else .bad := rfl
theorem fs_forM (h : MS X io st (mForM i j (oS u))) : MS X io st (oS (fForM i j u)) := h.weak fun D δ h => by
  unfold oS fForM at h; unfold mForM
  split at h
  case h_2 => exact h.elim
  rename_i ts q; (try rw [q])
  refine ⟨fun k done δ' => (forLoopM i j u done (ts.drop k) δ').fits D, by show RS.fits D (forLoopM i j u [] (ts.drop 0) _); rw [List.drop_zero]; exact h, fun k t done δ' hd z => ?_, fun done δ' z => ?_⟩
  · obtain ⟨hi, hdi⟩ := List.getElem?_eq_some_iff.mp hd
    replace z : RS.fits D (forLoopM i j u done (ts.drop k) δ') := z
    rw [List.drop_eq_getElem_cons hi, hdi, forLoopM_cons] at z
    obtain ⟨hl, z⟩ := ite_fits z
    refine ⟨hl, ?_⟩
    unfold oS
    cases q3 : u (δ'.set j (some t)) <;> rw [q3] at z <;> (try rw [q3])
    case nx δ4 =>
      dsimp only at z
      split at z
      case h_2 => exact z.elim
      rename_i t' q4 q5
      exact ⟨q4, t', q5, z⟩
    case rt r δ4 => exact z
    all_goals exact z.elim
  · replace z : RS.fits D (forLoopM i j u done (ts.drop ts.length) δ') := z
    rw [List.drop_length] at z; exact z
end
end L2
namespace My
open PySem L2 PySem.Spec
noncomputable def S_law_whole_13de : FS :=
  (wE (fAnd (fIsi "int" (fVar 0)) (fUn notD (fIsi "bool" (fVar 0)))) kRet)
noncomputable def F_law_whole_13de : FD := runD 1 1 S_law_whole_13de
noncomputable def S_law_alike_592f (R : FD) : FS :=
  (fSeq (fIfS (tD (fIsi "bool" (fVar 1)))
    (wE (fAnd (fIsi "bool" (fVar 0)) (fBinS gEq (fVar 0) (fVar 1))) kRet)
    fNx)
    (fSeq (fIfS (tD (fIsi "int" (fVar 1)))
    (wE (fAnd (fCall F_law_whole_13de (aCons (fVar 0) aNil)) (fBinS gEq (fVar 0) (fVar 1))) kRet)
    fNx)
    (fSeq (fIfS (tD (fIsi "str" (fVar 1)))
    (wE (fAnd (fIsi "str" (fVar 0)) (fBinS gEq (fVar 0) (fVar 1))) kRet)
    fNx)
    (fSeq (fIfS (tV (fBinS gIs (fVar 1) (fC .none)))
    (wE (fBinS gIs (fVar 0) (fC .none)) kRet)
    fNx)
    (fSeq (fIfS (tO (tV (fBinS gNe (fIsi "tuple" (fVar 1)) (fIsi "tuple" (fVar 0)))) (tV (fBinS gNe (fIsi "list" (fVar 1)) (fIsi "list" (fVar 0)))))
    (wE (fC (.bool false)) kRet)
    fNx)
    (fSeq (fIfS (tV (fBinS gNe (fBlS gLen (aCons (fVar 0) aNil)) (fBlS gLen (aCons (fVar 1) aNil))))
    (wE (fC (.bool false)) kRet)
    fNx)
    (fSeq (fFor (iZipA (aCons (fVar 0) (aCons (fVar 1) aNil))) (gTp 2 (gCn (gNm 2) (gCn (gNm 3) gNl)))
    (fIfS (tNo (tD (fCall R (aCons (fVar 2) (aCons (fVar 3) aNil)))))
    (wE (fC (.bool false)) kRet)
    fNx))
    (wE (fC (.bool true)) kRet))))))))
noncomputable def F_law_alike_592f : Nat → FD
  | 0 => fun _ => RF.bad
  | k + 1 => runD 2 4 (S_law_alike_592f (F_law_alike_592f k))
noncomputable def S_law_digits_a91d : FS :=
  (fSeq (wE (fLst aNil) (kSetO 3))
    (fSeq (wE (fVar 0) (kSet 4))
    (fSeq (fFor (iRa (aCons (fVar 1) aNil)) (gNm 5)
    (fSeq (wE (fBinS gMod (fBinS gMul (fBinS gAdd (fBinS gAdd (fVar 0) (fBinS gMul (fC (.int 977)) (fVar 5))) (fC (.int 1))) (fC (.int 48271))) (fC (.int 2147483647))) (kSet 6))
    (fSeq (wE (fBinS gMod (fBinS gMul (fVar 6) (fVar 6)) (fC (.int 2147483629))) (kSet 6))
    (fSeq (wE (fBinS gFdiv (fBinS gMod (fBinS gMul (fBinS gAdd (fVar 6) (fBinS gMul (fC (.int 40692)) (fBinS gAdd (fVar 5) (fC (.int 3))))) (fC (.int 69621))) (fC (.int 2147483423))) (fC (.int 8))) (kSet 6))
    (fSeq (fIfS (tV (fBinS gGe (fVar 0) (fBinS gPow (fC (.int 10)) (fC (.int 18)))))
    (wE (fVar 4) (kSet 6))
    fNx)
    (fSeq (fAppend 3 (fBinS gMod (fVar 6) (fVar 2)))
    (wE (fBinS gFdiv (fVar 4) (fVar 2)) (kSet 4))))))))
    (fRetO 3))))
noncomputable def F_law_digits_a91d : FD := runD 3 7 S_law_digits_a91d
noncomputable def S_law_numbers_f145 : FS :=
  (fSeq (wE (fComp 1 [] (iLst (fSl (fVar 0) (oI (fVar 1)) (oI (fBinS gAdd (fVar 1) (fVar 2))))) (gNm 0) tYes (fBinS gMod (fVar 0) (fBinS gPow (fC (.int 10)) (fC (.int 12))))) (kSet 3))
    (wE (fBin gCat (fVar 3) (fCall F_law_digits_a91d (aCons (fCall F_law_cell_at_2443 (aCons (fVar 0) (aCons (fC (.int 1)) aNil))) (aCons (fBinS gSb (fVar 2) (fBlS gLen (aCons (fVar 3) aNil))) (aCons (fBinS gPow (fC (.int 10)) (fC (.int 12))) aNil))))) kRet))
noncomputable def F_law_numbers_f145 : FD := runD 3 4 S_law_numbers_f145
noncomputable def S_law_pairs_377a : FS :=
  (fSeq (wE (fLst aNil) (kSetO 1))
    (fSeq (fFor (iRa (aCons (fVar 0) aNil)) (gNm 2)
    (fFor (iRb (aCons (fBinS gAdd (fVar 2) (fC (.int 1))) (aCons (fVar 0) aNil))) (gNm 3)
    (fAppend 1 (fTup (aCons (fVar 2) (aCons (fVar 3) aNil))))))
    (fRetO 1)))
noncomputable def F_law_pairs_377a : FD := runD 1 4 S_law_pairs_377a
noncomputable def S_law_rows_44b9 : FS :=
  (fSeq (wE (fComp 1 [0] (iRa (aCons (fVar 0) aNil)) (gNm 0) tYes (fComp 1 [] (iRa (aCons (fVar 1) aNil)) (gNm 0) tYes (fTup (aCons (fC (.int 0)) (aCons (fC (.int 1)) aNil))))) (kSetO 2))
    (fSeq (fFor (iZipA (aCons (fVar 1) (aCons (fCall F_law_pairs_377a (aCons (fVar 0) aNil)) aNil))) (gTp 2 (gCn (gNm 3) (gCn (gTp 2 (gCn (gNm 4) (gCn (gNm 5) gNl))) gNl)))
    (fSeq (fPut2 2 (fVar 3) (fVar 4) (fVar 5))
    (fPut2 2 (fVar 3) (fVar 5) (fVar 4))))
    (fRetO 2)))
noncomputable def F_law_rows_44b9 : FD := runD 2 6 S_law_rows_44b9
noncomputable def S_law_twinned_1c55 : FS :=
  (fSeq (wE (fComp 1 [] (iLst (fVar 0)) (gNm 0) tYes (fBl gList (aCons (fVar 0) aNil))) (kSetO 1))
    (fSeq (wE (fBinS gSb (fBlS gLen (aCons (fOwn 1) aNil)) (fC (.int 1))) (kSet 2))
    (fSeq (fFor (iRa (aCons (fBlS gLen (aCons (fOwn 1) aNil)) aNil)) (gNm 3)
    (fPut2 1 (fFlat (fBin gIx (fBin gIx (fOwn 1) (fC (.int 0))) (fVar 3))) (fVar 2) (fVar 3)))
    (fSeq (fForM 1 4
    (fPut 4 (fFlat (fBin gIx (fOwn 4) (fC (.int 0)))) (fVar 2)))
    (fRetO 1)))))
noncomputable def F_law_twinned_1c55 : FD := runD 1 5 S_law_twinned_1c55
noncomputable def S_law_common_eeef : FS :=
  (fSeq (fWhile (tV (fBinS gNe (fVar 1) (fC (.int 0)))) (fPar 0 1 (aCons (fVar 1) (aCons (fBinS gMod (fVar 0) (fVar 1)) aNil))))
    (wE (fBlS gAbs (aCons (fVar 0) aNil)) kRet))
noncomputable def F_law_common_eeef : FD := runD 2 2 S_law_common_eeef
noncomputable def S_law_fraction_419d : FS :=
  (fSeq (wE (fCall F_law_common_eeef (aCons (fVar 0) (aCons (fVar 1) aNil))) (kSet 2))
    (wE (fTup (aCons (fBinS gFdiv (fVar 0) (fVar 2)) (aCons (fBinS gFdiv (fVar 1) (fVar 2)) aNil))) kRet))
noncomputable def F_law_fraction_419d : FD := runD 2 3 S_law_fraction_419d
noncomputable def S_law_wide_fc13 : FS :=
  (fSeq (wE (fBinS gMod (fVar 0) (fC (.int 8))) (kSet 1))
    (fSeq (wE (fBinS gFdiv (fVar 0) (fC (.int 8))) (kSet 0))
    (fSeq (fIfS (tV (fBinS gEq (fVar 1) (fC (.int 0))))
    (wE (fTup (aCons (fC (.int 0)) (aCons (fC (.int 1)) aNil))) kRet)
    fNx)
    (fSeq (fIfS (tV (fBinS gLt (fVar 1) (fC (.int 4))))
    (wE (fTup (aCons (fBinS gMod (fVar 0) (fC (.int 31))) (aCons (fC (.int 1)) aNil))) kRet)
    fNx)
    (fSeq (fIfS (tV (fBinS gLt (fVar 1) (fC (.int 6))))
    (wE (fCall F_law_fraction_419d (aCons (fBinS gMod (fVar 0) (fC (.int 41))) (aCons (fBinS gAdd (fC (.int 1)) (fBinS gMod (fBinS gFdiv (fVar 0) (fC (.int 41))) (fC (.int 12)))) aNil))) kRet)
    fNx)
    (fSeq (fIfS (tV (fBinS gEq (fVar 1) (fC (.int 6))))
    (wE (fTup (aCons (fBinS gMod (fBinS gPow (fVar 0) (fC (.int 4))) (fBinS gPow (fC (.int 10)) (fC (.int 40)))) (aCons (fC (.int 1)) aNil))) kRet)
    fNx)
    (wE (fCall F_law_fraction_419d (aCons (fBinS gMod (fBinS gPow (fVar 0) (fC (.int 4))) (fBinS gPow (fC (.int 10)) (fC (.int 40)))) (aCons (fBinS gAdd (fC (.int 1)) (fBinS gMod (fBinS gFdiv (fBinS gPow (fVar 0) (fC (.int 4))) (fC (.int 7))) (fBinS gSb (fBinS gPow (fC (.int 10)) (fC (.int 40))) (fC (.int 1))))) aNil))) kRet)))))))
noncomputable def F_law_wide_fc13 : FD := runD 1 2 S_law_wide_fc13
noncomputable def S_law_q_faf4 : FS :=
  (fSeq (fIfS (tV (fBinS gEq (fBin gIx (fVar 0) (fC (.int 1))) (fC (.int 1))))
    (wE (fBlS gStr (aCons (fBin gIx (fVar 0) (fC (.int 0))) aNil)) kRet)
    fNx)
    (wE (fBinS gCatS (fBinS gCatS (fBlS gStr (aCons (fBin gIx (fVar 0) (fC (.int 0))) aNil)) (fC (.str "/"))) (fBlS gStr (aCons (fBin gIx (fVar 0) (fC (.int 1))) aNil))) kRet))
noncomputable def F_law_q_faf4 : FD := runD 1 1 S_law_q_faf4
noncomputable def S_law_written_7103 : FS :=
  (wE (fMtS gJoin (fC (.str "\n")) (aCons (fComp 1 [] (iLst (fVar 0)) (gNm 0) tYes (fMtS gJoin (fC (.str " ")) (aCons (fComp 1 [] (iLst (fVar 0)) (gNm 0) tYes (fCall F_law_q_faf4 (aCons (fVar 0) aNil))) aNil))) aNil)) kRet)
noncomputable def F_law_written_7103 : FD := runD 1 1 S_law_written_7103
noncomputable def S_check_text_76e8 : FS :=
  (fIfS (tNo (tD (fIsi "str" (fVar 0))))
    (fRaise "NoText")
    fNx)
noncomputable def F_check_text_76e8 : FD := runD 1 1 S_check_text_76e8
noncomputable def S_is_point_count_1b6f : FS :=
  (wE (fChain (fun i j => decide (i ≤ j)) (fun i j => decide (i ≤ j)) (fC (.int 1)) (fVar 0) (fC (.int 10))) kRet)
noncomputable def F_is_point_count_1b6f : FD := runD 1 1 S_is_point_count_1b6f
noncomputable def S_is_alike_both_ways_13b3 : FS :=
  (fSeq (fFor (iRa (aCons (fBlS gLen (aCons (fVar 0) aNil)) aNil)) (gNm 1)
    (fSeq (fIfS (tV (fBinS gNe (fBin gIx (fBin gIx (fVar 0) (fVar 1)) (fVar 1)) (fTup (aCons (fC (.int 0)) (aCons (fC (.int 1)) aNil)))))
    (wE (fC (.bool false)) kRet)
    fNx)
    (fFor (iRa (aCons (fVar 1) aNil)) (gNm 2)
    (fIfS (tV (fBinS gNe (fBin gIx (fBin gIx (fVar 0) (fVar 1)) (fVar 2)) (fBin gIx (fBin gIx (fVar 0) (fVar 2)) (fVar 1))))
    (wE (fC (.bool false)) kRet)
    fNx))))
    (wE (fC (.bool true)) kRet))
noncomputable def F_is_alike_both_ways_13b3 : FD := runD 1 3 S_is_alike_both_ways_13b3
noncomputable def S_is_fraction_f332 : FS :=
  (fSeq (fIfS (tO (tNo (tD (fIsi "tuple" (fVar 0)))) (tV (fBinS gNe (fBlS gLen (aCons (fVar 0) aNil)) (fC (.int 2)))))
    (wE (fC (.bool false)) kRet)
    fNx)
    (fSeq (fIfS (tO (tNo (tD (fCall F_is_whole_593d (aCons (fBin gIx (fVar 0) (fC (.int 0))) aNil)))) (tNo (tD (fCall F_is_whole_593d (aCons (fBin gIx (fVar 0) (fC (.int 1))) aNil)))))
    (wE (fC (.bool false)) kRet)
    fNx)
    (wE (fAnd (fBinS gGe (fBin gIx (fVar 0) (fC (.int 1))) (fC (.int 1))) (fBinS gEq (fCall F_greatest_divisor_46d9 (aCons (fBin gIx (fVar 0) (fC (.int 0))) (aCons (fBin gIx (fVar 0) (fC (.int 1))) aNil))) (fC (.int 1)))) kRet)))
noncomputable def F_is_fraction_f332 : FD := runD 1 1 S_is_fraction_f332
noncomputable def S_is_distance_f7e2 : FS :=
  (wE (fAnd (fCall F_is_fraction_f332 (aCons (fVar 0) aNil)) (fBinS gGe (fBin gIx (fVar 0) (fC (.int 0))) (fC (.int 0)))) kRet)
noncomputable def F_is_distance_f7e2 : FD := runD 1 1 S_is_distance_f7e2
noncomputable def S_is_row_582b : FS :=
  (fSeq (fIfS (tO (tNo (tD (fIsi "list" (fVar 0)))) (tV (fBinS gNe (fBlS gLen (aCons (fVar 0) aNil)) (fVar 1))))
    (wE (fC (.bool false)) kRet)
    fNx)
    (fSeq (fFor (iLst (fVar 0)) (gNm 2)
    (fIfS (tNo (tD (fCall F_is_distance_f7e2 (aCons (fVar 2) aNil))))
    (wE (fC (.bool false)) kRet)
    fNx))
    (wE (fC (.bool true)) kRet)))
noncomputable def F_is_row_582b : FD := runD 2 3 S_is_row_582b
noncomputable def S_is_table_201f : FS :=
  (fSeq (fIfS (tO (tNo (tD (fIsi "list" (fVar 0)))) (tV (fBinS gEq (fBlS gLen (aCons (fVar 0) aNil)) (fC (.int 0)))))
    (wE (fC (.bool false)) kRet)
    fNx)
    (fSeq (fFor (iLst (fVar 0)) (gNm 1)
    (fIfS (tNo (tD (fCall F_is_row_582b (aCons (fVar 1) (aCons (fBlS gLen (aCons (fVar 0) aNil)) aNil)))))
    (wE (fC (.bool false)) kRet)
    fNx))
    (wE (fCall F_is_alike_both_ways_13b3 (aCons (fVar 0) aNil)) kRet)))
noncomputable def F_is_table_201f : FD := runD 1 2 S_is_table_201f
noncomputable def S_is_number_df88 : FS :=
  (fSeq (fIfS (tNo (tV (fChain (fun i j => decide (i ≤ j)) (fun i j => decide (i ≤ j)) (fC (.int 1)) (fBlS gLenS (aCons (fVar 0) aNil)) (fC (.int 40)))))
    (wE (fC (.bool false)) kRet)
    fNx)
    (fSeq (fFor (iStr (fVar 0)) (gNm 1)
    (fIfS (tV (fBinS (gInS true) (fVar 1) (fC (.str "0123456789"))))
    (wE (fC (.bool false)) kRet)
    fNx))
    (wE (fOr (fBinS gEq (fVar 0) (fC (.str "0"))) (fBinS gNe (fBin gIxS (fVar 0) (fC (.int 0))) (fC (.str "0")))) kRet)))
noncomputable def F_is_number_df88 : FD := runD 1 2 S_is_number_df88
noncomputable def S_read_number_f024 : FS :=
  (wE (fIf (tD (fCall F_is_number_df88 (aCons (fVar 0) aNil))) (fBlS gIntT (aCons (fVar 0) aNil)) (fC .none)) kRet)
noncomputable def F_read_number_f024 : FD := runD 1 1 S_read_number_f024
noncomputable def S_show_fraction_50aa : FS :=
  (fSeq (wE (fBlS gStr (aCons (fBin gIx (fVar 0) (fC (.int 0))) aNil)) (kSet 1))
    (fSeq (fIfS (tV (fBinS gEq (fBin gIx (fVar 0) (fC (.int 1))) (fC (.int 1))))
    (wE (fVar 1) kRet)
    fNx)
    (wE (fBinS gCatS (fBinS gCatS (fVar 1) (fC (.str "/"))) (fBlS gStr (aCons (fBin gIx (fVar 0) (fC (.int 1))) aNil))) kRet)))
noncomputable def F_show_fraction_50aa : FD := runD 1 2 S_show_fraction_50aa
noncomputable def S_read_fraction_9056 : FS :=
  (fSeq (wE (fComp 1 [] (iLst (fMtO gSplit (fVar 0) (aCons (fC (.str "/")) aNil))) (gNm 0) tYes (fCall F_read_number_f024 (aCons (fVar 0) aNil))) (kSetO 1))
    (fSeq (fIfS (tV (fBinS gEq (fBlS gLen (aCons (fOwn 1) aNil)) (fC (.int 1))))
    (fAppend 1 (fC (.int 1)))
    fNx)
    (fSeq (wE (fBl gTupL (aCons (fOwn 1) aNil)) (kSetS 2))
    (wE (fIf (tAn (tD (fCall F_is_fraction_f332 (aCons (fVar 2) aNil))) (tV (fBinS gEq (fCall F_show_fraction_50aa (aCons (fVar 2) aNil)) (fVar 0)))) (fVar 2) (fC .none)) kRet))))
noncomputable def F_read_fraction_9056 : FD := runD 1 3 S_read_fraction_9056
noncomputable def S_read_table_4013 : FS :=
  (fSeq (wE (fCall F_check_text_76e8 (aCons (fVar 0) aNil)) kDrop)
    (fSeq (wE (fLst aNil) (kSetO 1))
    (fSeq (fFor (iLst (fMtO gSplit (fVar 0) (aCons (fC (.str "\n")) aNil))) (gNm 2)
    (fAppendO 1 (fComp 1 [] (iLst (fMtO gSplit (fVar 2) (aCons (fC (.str " ")) aNil))) (gNm 0) tYes (fCall F_read_fraction_9056 (aCons (fVar 0) aNil)))))
    (fSeq (fIfS (tO (tNo (tD (fCall F_is_point_count_1b6f (aCons (fBlS gLen (aCons (fOwn 1) aNil)) aNil)))) (tNo (tD (fCall F_is_table_201f (aCons (fOwn 1) aNil)))))
    (fRaise "NoText")
    fNx)
    (fRetO 1)))))
noncomputable def F_read_table_4013 : FD := runD 1 3 S_read_table_4013
noncomputable def S_show_table_8ecb : FS :=
  (fSeq (wE (fLst aNil) (kSetO 1))
    (fSeq (fFor (iLst (fVar 0)) (gNm 2)
    (fAppend 1 (fMtS gJoin (fC (.str " ")) (aCons (fComp 1 [] (iLst (fVar 2)) (gNm 0) tYes (fCall F_show_fraction_50aa (aCons (fVar 0) aNil))) aNil))))
    (wE (fMtS gJoin (fC (.str "\n")) (aCons (fOwn 1) aNil)) kRet)))
noncomputable def F_show_table_8ecb : FD := runD 1 3 S_show_table_8ecb
noncomputable def S_law_6c47 : FS :=
  (fSeq (wE (fBinS gAdd (fC (.int 1)) (fBinS gMod (fCall F_law_cell_at_2443 (aCons (fVar 0) (aCons (fC (.int 0)) aNil))) (fC (.int 10)))) (kSet 1))
    (fSeq (wE (fComp 1 [] (iLst (fCall F_law_numbers_f145 (aCons (fVar 0) (aCons (fC (.int 3)) (aCons (fBinS gFdiv (fBinS gMul (fVar 1) (fBinS gSb (fVar 1) (fC (.int 1)))) (fC (.int 2))) aNil))))) (gNm 0) tYes (fCall F_law_wide_fc13 (aCons (fVar 0) aNil))) (kSet 2))
    (fSeq (wE (fCall F_law_rows_44b9 (aCons (fVar 1) (aCons (fVar 2) aNil))) (kSet 3))
    (fSeq (fIfS (tV (fBinS gEq (fBinS gMod (fBinS gFdiv (fCall F_law_cell_at_2443 (aCons (fVar 0) (aCons (fC (.int 0)) aNil))) (fC (.int 10))) (fC (.int 4))) (fC (.int 1))))
    (wE (fCall F_law_twinned_1c55 (aCons (fVar 3) aNil)) (kSet 3))
    fNx)
    (fSeq (wE (fCall F_law_written_7103 (aCons (fVar 3) aNil)) (kSet 4))
    (fSeq (wE (fComp 1 [] (iLst (fVar 3)) (gNm 0) tYes (fBl gList (aCons (fVar 0) aNil))) (kSet 5))
    (fSeq (wE (fCall F_show_table_8ecb (aCons (fVar 5) aNil)) (kSet 6))
    (fSeq (fIfS (tO (tNo (tD (fIsi "str" (fVar 6)))) (tO (tV (fBinS gNe (fVar 6) (fVar 4))) (tV (fBinS gNe (fVar 5) (fVar 3)))))
    (wE (fC (.bool false)) kRet)
    fNx)
    (fSeq (wE (fCall F_read_table_4013 (aCons (fVar 4) aNil)) (kSetO 7))
    (fSeq (fIfS (tNo (tD (fCall (F_law_alike_592f 6) (aCons (fOwn 7) (aCons (fVar 3) aNil)))))
    (wE (fC (.bool false)) kRet)
    fNx)
    (fSeq (wE (fBinS gMod (fCall F_law_cell_at_2443 (aCons (fVar 0) (aCons (fC (.int 2)) aNil))) (fVar 1)) (kSet 8))
    (fSeq (fAppIx 7 (fVar 8) (fTup (aCons (fC (.int 7)) (aCons (fC (.int 1)) aNil))))
    (fSeq (fPut2 7 (fTup (aCons (fC (.int 7)) (aCons (fC (.int 1)) aNil))) (fVar 8) (fC (.int 0)))
    (fSeq (fIfS (tV (fBinS gNe (fComp 1 [8, 7, 3] (iRa (aCons (fVar 1) aNil)) (gNm 0) (tAn (tV (fBinS gNe (fVar 0) (fVar 1))) (tV (fBinS gNe (fBin gIx (fOwn 2) (fVar 0)) (fBin gIx (fVar 3) (fVar 0))))) (fVar 0)) (fLst aNil)))
    (wE (fC (.bool false)) kRet)
    fNx)
    (fSeq (fAppend 7 (fLst aNil))
    (wE (fAnd (fCall (F_law_alike_592f 6) (aCons (fCall F_read_table_4013 (aCons (fVar 4) aNil)) (aCons (fVar 3) aNil))) (fBinS gEq (fCall F_show_table_8ecb (aCons (fVar 5) aNil)) (fVar 4))) kRet))))))))))))))))
noncomputable def F_law_6c47 : FD := runD 1 9 S_law_6c47
end My
namespace My
open PySem L2 PySem.Spec
theorem es_par {δ : DEnv} {i j : Nat} {as : FA} {x y : PyData} (h : EvA as δ [x, y]) : fPar i j as δ = .nx ((δ.set i (some (.fz x))).set j (some (.fz y))) := by
  obtain ⟨ts, e1, e2⟩ := h
  unfold fPar
  rw [e1]
  show (match OT.datas ts with | [d, e] => RS.nx ((δ.set i (some (.fz d))).set j (some (.fz e))) | _ => .bad) = _
  rw [e2]
theorem gcd_mod {t b : Int} (hb : 0 < b) : Int.gcd b (t.fmod b) = Int.gcd t b := by
  rw [fmod_pos hb, Int.gcd_comm b, Int.emod_def, Int.gcd_sub_mul_left_left]
theorem common_ok {t b : Int} (hb : 0 < b) : Told F_law_common_eeef [.int t, .int b] (.int (Int.gcd t b : Int)) := by
  have ht : ∀ x y : Int, EvT (tV (fBinS gNe (fVar 1) (fC (.int 0)))) [some (.fz (.int x)), some (.fz (.int y))] (!decide (y = 0)) := fun x y => et_V (ev_ne ev_var ev_c rfl)
  have hu : ∀ x y : Int, y ≠ 0 → fPar 0 1 (aCons (fVar 1) (aCons (fBinS gMod (fVar 0) (fVar 1)) aNil)) [some (.fz (.int x)), some (.fz (.int y))] = .nx [some (.fz (.int y)), some (.fz (.int (x.fmod y)))] := fun x y hy => es_par (ea_cons ev_var (ea_cons (ev_mod ev_var ev_var hy) ea_nil))
  obtain ⟨z', e⟩ := gcd_loop (f1 := fun x y z => [some (.fz (.int x)), some (.fz (.int y))]) (f2 := fun x y z => []) (t := tV (fBinS gNe (fVar 1) (fC (.int 0)))) (u := fPar 0 1 (aCons (fVar 1) (aCons (fBinS gMod (fVar 0) (fVar 1)) aNil))) (fun x y z => ht x y) (fun x y z hy => ⟨none, hu x y hy⟩) ((t.fmod b).toNat + 1) b (t.fmod b) none (by omega) (fmod_nn hb) (by omega)
  have e' : whileLoop (tV (fBinS gNe (fVar 1) (fC (.int 0)))) (fPar 0 1 (aCons (fVar 1) (aCons (fBinS gMod (fVar 0) (fVar 1)) aNil))) ((t.fmod b).toNat + 1 + 1) [some (.fz (.int t)), some (.fz (.int b))] = .nx [some (.fz (.int (Int.gcd t b : Int))), some (.fz (.int 0))] := by
    rw [whileLoop]
    have h1 := ht t b
    unfold EvT at h1
    rw [h1]
    dsimp only
    rw [if_pos (by rw [decide_eq_false (by omega)]; rfl), hu t b (by omega)]
    dsimp only
    rw [e, gcd_mod hb]
  exact told_of rfl <| rt_seq (fWhile_eq _ e' (by intro z; cases z)) (rt_ret (EvV.cast (ev_blS (ea_cons ev_var ea_nil) (gAbs_i _)) (by rw [Int.natAbs_natCast])))
theorem law_fraction_ok {n : Nat} {t b : Int} (hb : 0 < b) (hB : Bt n b) (hn : n ≤ 9000 := by decide) : Told F_law_fraction_419d [.int t, .int b] (frD (Rat.divInt t b)) := by
  have eg : (Int.gcd t b : Int) = shr t b := by unfold shr; rw [if_neg (by omega)]
  obtain ⟨e1, e2⟩ := fr_le (t := t) (b := b) (by omega) hB hn _ eg
  exact told_of rfl <| rt_seq (es_set (ev_call (ea_cons ev_var (ea_cons ev_var ea_nil)) (common_ok hb))) (rt_ret (ev_tup (ea_cons (ev_binS ev_var ev_var e1) (ea_cons (ev_binS ev_var ev_var e2) ea_nil)) (show 2 ≤ 1000 by decide)))
theorem at0 {δ : DEnv} {i : Nat} {q : Rat} (h : δ[i]? = some (some (.fz (frD q)))) : EvV (fBin gIx (fVar i) (fC (.int 0))) δ (.int q.num) := ev_ix (ev_var h) ev_c rfl
theorem at1 {δ : DEnv} {i : Nat} {q : Rat} (h : δ[i]? = some (some (.fz (frD q)))) : EvV (fBin gIx (fVar i) (fC (.int 1))) δ (.int (q.den : Int)) := ev_ix (ev_var h) ev_c rfl
theorem den_dvd {t b : Int} (hb : b ≠ 0) : ((Rat.divInt t b).den : Int) ∣ b := by
  rw [Rat.den_divInt, if_neg hb]
  have : (b.natAbs / b.gcd t : Nat) ∣ b.natAbs := Nat.div_dvd_of_dvd (by rw [Int.gcd_eq_natAbs_gcd_natAbs]; exact Nat.gcd_dvd_left ..)
  exact Int.ofNat_dvd_left.mpr this
theorem gP12 : gPow (.int 10) (.int 12) = some (.int 1000000000000) := rfl
theorem digits_ok (c : Int) (m : Nat) (hm : m ≤ 1000) {top : Int} (h0 : 0 < top) (h1 : top < 18446744073709551616) : ∃ vs : List Int, Told F_law_digits_a91d [.int c, .int m, .int top] (intsL vs) ∧ vs.length = m ∧ ∀ v ∈ vs, 0 ≤ v ∧ v < top := by
  have big : (decide (0 < top) && decide (top < 18446744073709551616)) = true := by rw [decide_eq_true h0, decide_eq_true h1]; rfl
  have key : ∃ d, Told F_law_digits_a91d [.int c, .int m, .int top] d ∧ ∃ vs, d = intsL vs ∧ vs.length = m ∧ ∀ v ∈ vs, 0 ≤ v ∧ v < top := by
    refine toldQ rfl <| rq_seq es_nil <| rq_seq (es_set ev_var) <| rq_for (ds := rngD 0 m) (fun i δ => ∃ (vs : List Int) (x : Int) (z1 z2 : Option OT), δ = [some (.fz (.int c)), some (.fz (.int m)), some (.fz (.int top)), some (.nd (vs.map fun v => .fz (.int v))), some (.fz (.int x)), z1, z2] ∧ vs.length = i ∧ ∀ v ∈ vs, 0 ≤ v ∧ v < top)
      (ei_ra (ea_cons ev_var ea_nil) (by omega)) ⟨[], c, none, none, rfl, rfl, fun _ m => nomatch m⟩ (fun i d δ hd q => ?_) fun δ' q => ?_
    · obtain ⟨vs, x, z1, z2, rfl, hl, hv⟩ := q
      obtain ⟨hi, rfl⟩ := rngD_get hd
      have snoc : ∀ w : Int, ∀ v ∈ vs ++ [w.fmod top], 0 ≤ v ∧ v < top := fun w v hv' => by
        rcases List.mem_append.mp hv' with h | h
        · exact hv v h
        · rw [List.mem_singleton.mp h]; exact ⟨fmod_nn h0, fmod_lt h0⟩
      have s0 := fmod_nn (i := (c + 977 * (0 + (i : Int)) + 1) * 48271) (j := 2147483647) (by decide)
      have s1 := fmod_lt (i := (c + 977 * (0 + (i : Int)) + 1) * 48271) (j := 2147483647) (by decide)
      have st1 := es_set (i := 6) (δ := [some (.fz (.int c)), some (.fz (.int m)), some (.fz (.int top)), some (.nd (vs.map fun v => .fz (.int v))), some (.fz (.int x)), some (.fz (.int (0 + (i : Int)))), z2]) (ev_mod (ev_mulR (ev_add (ev_add (ev_var (i := 0) (d := .int c)) (ev_mulL (ev_c (d := .int 977)) (ev_var (i := 5) (d := .int (0 + (i : Int)))))) (ev_c (d := .int 1))) (ev_c (d := .int 48271))) (ev_c (d := .int 2147483647)) (by decide))
      generalize ((c + 977 * (0 + (i : Int)) + 1) * 48271).fmod 2147483647 = s at s0 s1 st1
      by_cases q : 1000000000000000000 ≤ c
      · exact ⟨_, _, rfl, .inl (es_seq st1 (es_seq (es_set (ev_mod (ev_mulL ev_var ev_var (by omega)) ev_c (by decide))) (es_seq (es_set (ev_fdiv (ev_mod (ev_mulR (ev_add ev_var (ev_mulL ev_c (ev_add ev_var ev_c))) ev_c) ev_c (by decide)) ev_c)) (es_seq (es_if_t (et_V (ev_ge ev_var (ev_binS ev_c ev_c gP18) (decide_eq_true q))) (es_set ev_var)) (es_seq (app_ints (vs := vs) (ev_mod ev_var ev_var (by omega)) rfl (by omega)) (es_set (ev_fdiv ev_var ev_var big))))))), _, _, _, _, rfl, by rw [List.length_append, hl]; rfl, snoc _⟩
      · exact ⟨_, _, rfl, .inl (es_seq st1 (es_seq (es_set (ev_mod (ev_mulL ev_var ev_var (by omega)) ev_c (by decide))) (es_seq (es_set (ev_fdiv (ev_mod (ev_mulR (ev_add ev_var (ev_mulL ev_c (ev_add ev_var ev_c))) ev_c) ev_c (by decide)) ev_c)) (es_seq (es_if_f (et_V (ev_ge ev_var (ev_binS ev_c ev_c gP18) (decide_eq_false q))) rfl) (es_seq (app_ints (vs := vs) (ev_mod ev_var ev_var (by omega)) rfl (by omega)) (es_set (ev_fdiv ev_var ev_var big))))))), _, _, _, _, rfl, by rw [List.length_append, hl]; rfl, snoc _⟩
    · obtain ⟨vs, x, z1, z2, rfl, hl, hv⟩ := q
      rw [rngD_length] at hl
      exact rq_O rfl ⟨vs, nd_ints2 vs, hl, hv⟩
  obtain ⟨d, h, vs, rfl, hl⟩ := key
  exact ⟨vs, h, hl⟩
noncomputable def cutL (p : List Int) (lo hi : Option Int) : List Int := (p.drop (HT.sIx p.length 0 lo)).take (HT.sIx p.length p.length hi - HT.sIx p.length 0 lo)
theorem cut_ints (p : List Int) (lo hi : Option Int) : cutD (p.map PyData.int) lo hi = (cutL p lo hi).map PyData.int := by
  unfold cutD cutL
  rw [List.length_map, List.map_take, List.map_drop]
theorem iv_sl {e : FE} {δ : DEnv} {r p : List Int} {lo hi : FO} {l h : Option Int} (he : EvV e δ (intsL r)) (hl : EvO lo δ l) (hh : EvO hi δ h) (hp : cutL r l h = p) : EvV (fSl e lo hi) δ (intsL p) := hp ▸ (ev_sl (ds := r.map PyData.int) he hl hh).cast (by rw [cut_ints]; rfl)
theorem cutL_len (p : List Int) (a b : Nat) : (cutL p (some (a : Int)) (some ((a + b : Nat) : Int))).length ≤ b := by
  unfold cutL
  rw [HT.sIx_nat, HT.sIx_nat, List.length_take, List.length_drop]; omega
theorem cell_ev {δ : DEnv} {ns : List Int} {i : Nat} {k c : Int} (h : δ[i]? = some (some (.fz (intsL ns)))) (e : F_law_cell_at_2443 [intsL ns, .int k] = .ok (.fz (.int c))) : EvV (fCall F_law_cell_at_2443 (aCons (fVar i) (aCons (fC (.int k)) aNil))) δ (.int c) := ev_call (ea_cons (ev_var h) (ea_cons ev_c ea_nil)) (.of e (OT.data_fz _))
theorem numbersF_ok (ns : List Int) (m : Nat) (hm : m ≤ 100) : ∃ vs : List Int, Told F_law_numbers_f145 [intsL ns, .int 3, .int m] (intsL vs) ∧ vs.length = m ∧ ∀ v ∈ vs, 0 ≤ v ∧ v < 1000000000000 := by
  obtain ⟨c1, e1⟩ := cell_at_ok ns (k := 1) (by decide)
  obtain ⟨C, hC⟩ : ∃ C, C = cutL ns (some ((3 : Nat) : Int)) (some ((3 + m : Nat) : Int)) := ⟨_, rfl⟩
  have lC : C.length ≤ m := hC ▸ cutL_len ns 3 m
  obtain ⟨vs, e2, l2, h2⟩ := digits_ok c1 (m - C.length) (by omega) (top := 1000000000000) (by decide) (by decide)
  refine ⟨C.map (fun v => v.fmod 1000000000000) ++ vs, ?_, by rw [List.length_append, List.length_map]; omega, fun v hv => ?_⟩
  · refine told_of rfl <| rt_seq (es_set (EvV.cast (ev_comp (cs := []) C PyData.int (fun v => .int (v.fmod 1000000000000)) (ei_lst (iv_sl (r := ns) ev_var (eo_I ev_var) (eo_I (ev_add ev_var ev_var)) (p := C) ?_)) (by omega) rfl fun v _ => ev_mod ev_var (ev_binS ev_c ev_c gP12) (by decide)) (y := intsL (C.map fun v => v.fmod 1000000000000)) ?_)) <| rt_ret (EvV.cast (ev_cat (ds := (C.map fun v => v.fmod 1000000000000).map PyData.int) (es := vs.map PyData.int) ev_var (ev_call (ea_cons (cell_ev rfl e1) (ea_cons (EvV.cast (ev_sub ev_var (ev_intsLen ev_var)) (y := .int ((m - C.length : Nat) : Int)) ?_) (ea_cons (ev_binS ev_c ev_c gP12) ea_nil))) e2) ?_) ?_)
    · rw [hC]; rfl
    · unfold intsL; rw [List.map_map]; rfl
    · rw [List.length_map]; exact congrArg PyData.int (by omega)
    · rw [List.length_map, List.length_map, List.length_map]; omega
    · unfold intsL; rw [List.map_append]
  · rcases List.mem_append.mp hv with h | h
    · obtain ⟨w, _, rfl⟩ := List.mem_map.mp h
      exact ⟨fmod_nn (by decide), fmod_lt (by decide)⟩
    · exact h2 v h
theorem pairsF_ok (n : Nat) (hn : n ≤ 1000) : Told F_law_pairs_377a [.int n] (.list ((pairsN n).map ptD)) := pairs_of_ok n hn
theorem tw {δ : DEnv} {a b : Int} : EvV (fTup (aCons (fC (.int a)) (aCons (fC (.int b)) aNil))) δ (.tuple [.int a, .int b]) := ev_tup (ea_cons ev_c (ea_cons ev_c ea_nil)) (show 2 ≤ 1000 by decide)
theorem zip_maps {α β : Type} (xs : List α) (ys : List β) (f : α → PyData) (g : β → PyData) : zipD (xs.map f) (ys.map g) = (xs.zip ys).map fun p => .tuple [f p.1, g p.2] := by
  unfold zipD
  rw [List.zip_map, List.map_map]; rfl
theorem zip_get {α β : Type} {L : List (α × β)} {f : α → PyData} {g : β → PyData} {k : Nat} {d : PyData} (h : (L.map fun p => PyData.tuple [f p.1, g p.2])[k]? = some d) : ∃ p, L[k]? = some p ∧ d = .tuple [f p.1, g p.2] := by
  rw [List.getElem?_map] at h
  cases e : L[k]? with
  | none => rw [e] at h; cases h
  | some p => rw [e] at h; cases h; exact ⟨p, rfl, rfl⟩
theorem gNe_fr (q r : Rat) : gNe (frD q) (frD r) = some (.bool (!decide (q = r))) := by
  have s : ∀ q, SeqAt.shaped (frD q) = true := fun q => ((sh_fr q).shp).ok
  unfold gNe
  rw [if_pos (by rw [s, s]; rfl), eqv_fr]
theorem gNe_bb (x y : Bool) : gNe (.bool x) (.bool y) = some (.bool (x != y)) := by cases x <;> cases y <;> rfl
theorem ev_if_t {t : FT} {a b : FE} {δ : DEnv} {d : PyData} (h : EvT t δ true) (k : EvV a δ d) : EvV (fIf t a b) δ d := by
  obtain ⟨o, e1, e2⟩ := k
  exact ⟨o, by unfold fIf; unfold EvT at h; rw [h]; exact e1, e2⟩
theorem is_fraction_ok (q : Rat) : Told F_is_fraction_f332 [frD q] (.bool true) := by
  have g1 : (Int.gcd q.num (q.den : Int) : Int) = 1 := by
    rw [Int.gcd_eq_natAbs_gcd_natAbs, Int.natAbs_natCast]
    exact congrArg Int.ofNat q.reduced
  have w : ∀ {δ : DEnv} {k i : Int}, EvV (fBin gIx (fVar 0) (fC (.int k))) δ (.int i) → EvT (tNo (tD (fCall F_is_whole_593d (aCons (fBin gIx (fVar 0) (fC (.int k))) aNil)))) δ false := fun h => et_no (p := true) (et_Db (ev_call (ea_cons h ea_nil) (.of (is_whole_int _) (OT.data_fz _))))
  exact told_of rfl <| rt_seq (es_if_f (et_o (et_no (p := true) (et_Db (ev_isT ev_var rfl))) (et_V (ev_ne (ev_blS (ea_cons (ev_var (d := frD q)) ea_nil) (gLen_t [.int q.num, .int (q.den : Int)])) ev_c rfl))) rfl) <|
    rt_seq (es_if_f (et_o (w (at0 rfl)) (w (at1 rfl))) rfl) <| rt_ret (ev_and_t (ev_ge (at1 rfl) ev_c (decide_eq_true (den_pos' q))) (ev_eq (ev_call (ea_cons (at0 rfl) (ea_cons (at1 rfl) ea_nil)) (.of (greatest_divisor_ok _ _) (OT.data_fz _))) ev_c (by rw [g1]; rfl)))
noncomputable def gridD (n : Nat) (f : Nat → Nat → PyData) : PyData := .list ((List.range n).map fun i => .list ((List.range n).map fun j => f i j))
noncomputable def frG (T : Nat → Nat → Rat) : Nat → Nat → PyData := fun i j => frD (T i j)
theorem gd_len {n : Nat} {f : Nat → Nat → PyData} {δ : DEnv} (h : δ[0]? = some (some (.fz (gridD n f)))) : EvV (fBlS gLen (aCons (fVar 0) aNil)) δ (.int n) := (ev_len (ds := (List.range n).map fun i => .list ((List.range n).map fun j => f i j)) (ev_var h)).cast (by rw [List.length_map, List.length_range])
noncomputable def gridO (n : Nat) (f : Nat → Nat → PyData) : OT := .nd ((List.range n).map fun i => .nd ((List.range n).map fun j => .fz (f i j)))
theorem gridO_data (n : Nat) (f : Nat → Nat → PyData) : (gridO n f).data = gridD n f := by
  unfold gridO gridD
  rw [OT.data_nd, List.map_map]
  refine congrArg PyData.list (List.map_congr_left fun i _ => ?_)
  show (OT.nd _).data = _
  rw [OT.data_nd, List.map_map]
  exact congrArg PyData.list (List.map_congr_left fun j _ => OT.data_fz _)
theorem gridO_eq {n : Nat} {f g : Nat → Nat → PyData} (h : ∀ i j, i < n → j < n → f i j = g i j) : gridO n f = gridO n g := by
  unfold gridO
  refine congrArg OT.nd (List.map_congr_left fun i hi => congrArg OT.nd (List.map_congr_left fun j hj => congrArg OT.fz (h i j (List.mem_range.mp hi) (List.mem_range.mp hj))))
noncomputable def upG (f : Nat → Nat → PyData) (a b : Nat) (d : PyData) : Nat → Nat → PyData := fun i j => if i = a ∧ j = b then d else f i j
theorem range_set {α : Type} {n a : Nat} (f : Nat → α) (x : α) : ((List.range n).map f).set a x = (List.range n).map fun i => if i = a then x else f i := by
  refine List.ext_getElem? fun i => ?_
  rw [List.getElem?_set, List.length_map, List.length_range, List.getElem?_map, List.getElem?_map]
  by_cases h : a = i
  · subst h
    by_cases c : a < n
    · rw [if_pos rfl, if_pos c, List.getElem?_range c]; simp
    · rw [if_pos rfl, if_neg c, List.getElem?_eq_none (by simp; omega)]; rfl
  · rw [if_neg h]
    by_cases c : i < n
    · rw [List.getElem?_range c]; simp [Ne.symm h]
    · rw [List.getElem?_eq_none (by simp; omega)]; rfl
theorem put2_grid {i n : Nat} {e j j2 : FE} {δ : DEnv} {d : PyData} {f : Nat → Nat → PyData} {a b : Nat} (he : EvV e δ d) (hi : δ[i]? = some (some (gridO n f))) (hj : EvV j δ (.int a)) (ha : a < n) (hk : EvV j2 δ (.int b)) (hb : b < n) :
    fPut2 i e j j2 δ = .nx (δ.set i (some (gridO n (upG f a b d)))) := by
  obtain ⟨_, e2, d2⟩ := he
  obtain ⟨_, e3, d3⟩ := hj
  obtain ⟨_, e4, d4⟩ := hk
  unfold fPut2 gridO at *
  rw [wE_ap, e2, onO_some, hi]
  dsimp only
  rw [wE_ap, e3, onO_some, d3]
  dsimp only
  rw [ixN_of (by rw [List.length_map, List.length_range]; exact ha)]
  dsimp only
  rw [List.getElem?_map, List.getElem?_range ha, Option.map_some]
  dsimp only
  rw [wE_ap, e4, onO_some, d4]
  dsimp only
  rw [ixN_of (by rw [List.length_map, List.length_range]; exact hb)]
  dsimp only
  rw [d2, range_set, range_set]
  refine congrArg RS.nx (congrArg (δ.set i) (congrArg some (congrArg OT.nd (List.map_congr_left fun k _ => ?_))))
  by_cases c : k = a
  · subst c
    rw [if_pos rfl]
    refine congrArg OT.nd (List.map_congr_left fun l _ => ?_)
    unfold upG
    by_cases c2 : l = b
    · rw [if_pos c2, if_pos ⟨rfl, c2⟩]
    · rw [if_neg c2, if_neg fun z => c2 z.2]
  · rw [if_neg c]
    refine congrArg OT.nd (List.map_congr_left fun l _ => ?_)
    unfold upG
    rw [if_neg fun z => c z.1]
theorem plain_list {ds : List PyData} (h : ∀ d ∈ ds, plainD d = true) : plainD (.list ds) = true := by
  rw [plainD]
  induction ds with
  | nil => rfl
  | cons d ds ih => rw [plainDs, h d (.head _), ih fun e he => h e (.tail _ he)]; rfl
theorem ev_flat {e : FE} {δ : DEnv} {d : PyData} (h : EvV e δ d) (hf : flatD d = true) : EvV (fFlat e) δ d := by
  obtain ⟨_, e1, d1⟩ := h
  exact ⟨_, by rw [fFlat_ap, e1, Option.bind_some, d1, if_pos hf], OT.data_fz _⟩
theorem own_grid {s n i j : Nat} {a b : FE} {δ : DEnv} {f : Nat → Nat → PyData} (hs : δ[s]? = some (some (gridO n f))) (ha : EvV a δ (.int (i : Int))) (hi : i < n) (hb : EvV b δ (.int (j : Int))) (hj : j < n) : EvV (fBin gIx (fBin gIx (fOwn s) a) b) δ (f i j) := by
  refine ev_ix (ev_ix (ev_own hs (gridO_data n f)) ha (d := .list ((List.range n).map fun j => f i j)) ?_) hb ?_
  · unfold gridD
    rw [gIx_l, atI_of, List.getElem?_map, List.getElem?_range hi]; rfl
  · rw [gIx_l, atI_of, List.getElem?_map, List.getElem?_range hj]; rfl
noncomputable def upT (T : Nat → Nat → Rat) (i j : Nat) (q : Rat) : Nat → Nat → Rat := fun x y => if x = j ∧ y = i then q else if x = i ∧ y = j then q else T x y
inductive Rch (E : Nat → Nat → Prop) (s : Nat) : Nat → Prop
  | refl : Rch E s s
  | step {k m : Nat} : Rch E s k → E k m → Rch E s m
noncomputable def dI (k : Nat) : PyData := .int (k : Int)
theorem ev_chain_t {f g : Int → Int → Bool} {a b c : FE} {δ : DEnv} {i j k : Int} (ha : EvV a δ (.int i)) (hb : EvV b δ (.int j)) (hc : EvV c δ (.int k)) (h : f i j = true) (hg : g j k = true) : EvV (fChain f g a b c) δ (.bool true) := by
  obtain ⟨_, e1, d1⟩ := ha
  obtain ⟨_, e2, d2⟩ := hb
  obtain ⟨_, e3, d3⟩ := hc
  refine ⟨.fz (.bool true), ?_, OT.data_fz _⟩
  unfold fChain
  rw [e1, Option.bind_some, e2, Option.bind_some]
  dsimp only
  rw [d1, d2]
  dsimp only
  rw [if_pos h, e3, Option.bind_some, d3]
  dsimp only
  rw [hg]
theorem es_appIx {j e : FE} {δ : DEnv} {i k : Nat} {ts us : List OT} {d : PyData} (hi : δ[i]? = some (some (.nd ts))) (hj : EvV j δ (dI k)) (ht : ts[k]? = some (.nd us)) (he : EvV e δ d) (hl : us.length ≤ 1000000) : fAppIx i j e δ = .nx (δ.set i (some (.nd (ts.set k (.nd (us ++ [.fz d])))))) := by
  obtain ⟨t1, e1, d1⟩ := hj
  obtain ⟨t2, e2, d2⟩ := he
  have hk : k < ts.length := (List.getElem?_eq_some_iff.mp ht).1
  have hx : ixN ts.length (k : Int) = some k := ixN_of hk
  unfold fAppIx
  rw [hi]
  dsimp only
  rw [wE_ap, e1, onO_some, d1]
  show (match ixN ts.length (k : Int) with | some j => _ | none => _) = _
  rw [hx]
  dsimp only
  rw [ht]
  dsimp only
  rw [wE_ap, e2, onO_some, d2, if_pos (by rw [sizeLine_eq]; omega)]
theorem comp_nd {α : Type} {caps : List Nat} {it : FI} {me : FE} {cs : DEnv} {δ : DEnv} (xs : List α) (mk f : α → PyData) (hi : EvI it δ (xs.map mk)) (hz : xs.length ≤ 1000000) (hb : blk 1 caps δ = none :: cs) (h : ∀ x ∈ xs, EvV me (some (.fz (mk x)) :: cs) (f x)) : ∃ rs, fComp 1 caps it (gNm 0) tYes me δ = some (.nd rs, δ) ∧ OT.datas rs = xs.map f := by
  obtain ⟨t, e1, e2⟩ := ev_comp xs mk f hi hz hb h
  cases t with
  | fz d =>
    unfold fComp at e1
    unfold EvI at hi
    rw [hi, Option.bind_some] at e1
    split at e1
    · obtain ⟨z, h1, h2⟩ := bs e1
      cases h2
    · cases e1
  | tp ts => rw [OT.data_tp] at e2; cases e2
  | dc _ _ _ => rw [OT.data_dc] at e2; cases e2
  | nd rs =>
    rw [OT.data_nd, ← datas_map] at e2
    injection e2 with e2
    exact ⟨rs, e1, e2⟩
noncomputable def mkS (l : List Nat) : Str := ⟨l.toArray⟩
noncomputable def dg (n : Nat) : List Nat := (Nat.toDigits 10 n).map Char.toNat
noncomputable def sgn (i : Int) : List Nat := if i < 0 then [45] else []
noncomputable def tx (i : Int) : List Nat := sgn i ++ dg i.natAbs
noncomputable def Cp (l : List Nat) : Prop := ∀ c ∈ l, c < 128
theorem mkS_app (a b : List Nat) : mkS a ++ mkS b = mkS (a ++ b) := by
  show Str.mk (a.toArray ++ b.toArray) = Str.mk (a ++ b).toArray
  rw [List.append_toArray]
theorem mkS_len (a : List Nat) : (mkS a).length = a.length := List.size_toArray ..
theorem mkS_inj {a b : List Nat} (h : mkS a = mkS b) : a = b := by
  have := congrArg (fun s : Str => s.cps.toList) h
  exact this
theorem str_tx (i : Int) : Str.ofString (toString i) = mkS (tx i) := by
  rw [Str.ofString_eq_toList]
  refine congrArg (fun l : List Nat => Str.mk l.toArray) ?_
  unfold tx sgn
  cases i with
  | ofNat n =>
    rw [if_neg (by exact Int.not_lt.mpr (Int.natCast_nonneg n))]
    show (String.ofList (Nat.toDigits 10 n)).toList.map Char.toNat = _
    rw [String.toList_ofList]; rfl
  | negSucc n =>
    rw [if_pos (Int.negSucc_lt_zero n)]
    show ("-" ++ String.ofList (Nat.toDigits 10 (n + 1))).toList.map Char.toNat = _
    rw [String.toList_append, List.map_append, String.toList_ofList (l := Nat.toDigits 10 (n + 1))]; rfl
theorem dgc : ∀ d : Fin 10, (Nat.digitChar d).toNat = 48 + d := by decide
theorem dg_lt {n : Nat} (h : n < 10) : dg n = [48 + n] := by
  unfold dg
  rw [Nat.toDigits_of_lt_base h]
  exact congrArg (fun x => [x]) (dgc ⟨n, h⟩)
theorem dg_ge {n : Nat} (h : 10 ≤ n) : dg n = dg (n / 10) ++ [48 + n % 10] := by
  unfold dg
  rw [Nat.toDigits_of_base_le (by decide) h, List.map_append]
  exact congrArg (fun x => _ ++ [x]) (dgc ⟨n % 10, Nat.mod_lt _ (by decide)⟩)
theorem dg_mem {n c : Nat} (h : c ∈ dg n) : 48 ≤ c ∧ c ≤ 57 := by
  induction n using Nat.strongRecOn with
  | ind n ih =>
    by_cases k : n < 10
    · rw [dg_lt k] at h
      have := List.mem_singleton.mp h
      omega
    · rw [dg_ge (by omega)] at h
      rcases List.mem_append.mp h with h | h
      · exact ih (n / 10) (by omega) h
      · have := List.mem_singleton.mp h
        omega
theorem dg_ne (n : Nat) : dg n ≠ [] := by
  by_cases k : n < 10
  · rw [dg_lt k]; intro z; cases z
  · rw [dg_ge (by omega)]; intro z
    exact List.append_ne_nil_of_right_ne_nil _ (List.cons_ne_nil _ _) z
theorem dg_len {n : Nat} (h : n < 2 ^ 400) : (dg n).length ≤ 400 := by
  unfold dg
  rw [List.length_map]
  exact (Nat.length_toDigits_le_iff (by decide) (by decide)).mpr (Nat.lt_of_lt_of_le h (Nat.pow_le_pow_left (by decide) 400))
theorem tx_len {i : Int} (h : Bt 400 i) : (tx i).length ≤ 401 := by
  unfold tx sgn
  rw [List.length_append]
  have := dg_len h
  split
  · rw [List.length_singleton]; omega
  · rw [List.length_nil]; omega
theorem gStr_ok {i : Int} (h : Bt 400 i) : gStr [.int i] = some (.str (mkS (tx i))) := by
  have c : i.natAbs.log2 < 1920 := by
    by_cases z : i.natAbs = 0
    · rw [z]; decide
    · exact (Nat.log2_lt z).mpr (Nat.lt_of_lt_of_le h (Nat.pow_le_pow_right (by decide) (by decide)))
  show (if i.natAbs.log2 < 1920 then some (PyData.str (Str.ofString (toString i))) else none) = _
  rw [if_pos c, str_tx]
theorem gCatS_ok {a b : List Nat} (h : a.length + b.length ≤ 1000000) : gCatS (.str (mkS a)) (.str (mkS b)) = some (.str (mkS (a ++ b))) := by
  show (if (mkS a).length + (mkS b).length ≤ sizeLine then some (PyData.str (mkS a ++ mkS b)) else none) = _
  rw [mkS_len, mkS_len, if_pos (by rw [sizeLine_eq]; omega), mkS_app]
theorem sh_str {a : List Nat} (h : Cp a) : SeqAt.shaped (.str (mkS a)) = true := by
  unfold SeqAt.shaped
  rw [PyData.canLay0]
  have : PyData.strOk (mkS a) = true := by
    unfold PyData.strOk
    rw [Array.all_eq_true_iff_forall_mem]
    intro c m
    have := h c (List.mem_toArray.mp m)
    exact decide_eq_true (by omega)
  rw [this]; rfl
theorem gEq_str {a b : List Nat} (ha : Cp a) (hb : Cp b) : gEq (.str (mkS a)) (.str (mkS b)) = some (.bool (decide (a = b))) := by
  unfold gEq
  rw [if_pos (by rw [sh_str ha, sh_str hb]; rfl)]
  refine congrArg (fun z => some (PyData.bool z)) ?_
  rw [PyData.eqv]
  rw [Bool.eq_iff_iff, beq_iff_eq, decide_eq_true_eq]
  exact ⟨mkS_inj, congrArg mkS⟩
theorem gNe_str {a b : List Nat} (ha : Cp a) (hb : Cp b) : gNe (.str (mkS a)) (.str (mkS b)) = some (.bool (!decide (a = b))) := by
  unfold gNe
  rw [if_pos (by rw [sh_str ha, sh_str hb]; rfl)]
  refine congrArg (fun z => some (PyData.bool (!z))) ?_
  rw [PyData.eqv]
  rw [Bool.eq_iff_iff, beq_iff_eq, decide_eq_true_eq]
  exact ⟨mkS_inj, congrArg mkS⟩
theorem s_sl : Str.ofString "/" = mkS [47] := by rw [Str.ofString_eq_toList]; rfl
theorem s_0 : Str.ofString "0" = mkS [48] := by rw [Str.ofString_eq_toList]; rfl
noncomputable def en (i : Int) (s : List Nat) (n : Nat) : DEnv := [some (.fz (.int i)), some (.fz (.str (mkS s))), some (.fz (.int n))]
noncomputable def shw (p : Int × Int) : List Nat := tx p.1 ++ (if p.2 = 1 then [] else 47 :: tx p.2)
theorem shw_ne {p : Int × Int} (h : p.2 ≠ 1) : shw p = tx p.1 ++ [47] ++ tx p.2 := by
  unfold shw
  rw [if_neg h, List.append_assoc]; rfl
theorem show_ok {p : Int × Int} (h1 : Bt 400 p.1) (h2 : Bt 400 p.2) : Told F_show_fraction_50aa [prD p] (.str (mkS (shw p))) := by
  have l1 := tx_len h1
  have l2 := tx_len h2
  refine told_of rfl <| rt_seq (es_set (ev_blS (ea_cons (ev_ix (d := .int p.1) ev_var ev_c rfl) ea_nil) (gStr_ok h1))) ?_
  by_cases c : p.2 = 1
  · have : shw p = tx p.1 := by unfold shw; rw [if_pos c, List.append_nil]
    rw [this]
    exact rt_first (rt_if_t (et_V (ev_eq (ev_ix (d := .int p.2) ev_var ev_c rfl) ev_c (decide_eq_true c))) (rt_ret ev_var))
  · rw [shw_ne c]
    refine rt_seq (es_if_f (et_V (ev_eq (ev_ix (d := .int p.2) ev_var ev_c rfl) ev_c (decide_eq_false c))) rfl) (rt_ret ?_)
    exact ev_binS (ev_binS ev_var ev_c (by rw [s_sl]; exact gCatS_ok (by rw [List.length_singleton]; omega))) (ev_blS (ea_cons (ev_ix (d := .int p.2) ev_var ev_c rfl) ea_nil) (gStr_ok h2)) (gCatS_ok (by rw [List.length_append, List.length_singleton]; omega))
theorem es_setS {e : FE} {δ : DEnv} {i : Nat} {d : PyData} (h : EvV e δ d) (hf : flatD d = true) : wE e (kSetS i) δ = .nx (δ.set i (some (.fz d))) := by
  obtain ⟨o, e1, rfl⟩ := h
  rw [wE_ap, e1, onO_some, kSetS_ap, if_pos hf]
theorem es_appO {e : FE} {δ : DEnv} {i : Nat} {o : OT} {ts : List OT} (h : e δ = some (o, δ)) (hi : δ[i]? = some (some (.nd ts))) (hl : ts.length ≤ 1000000) : fAppendO i e δ = .nx (δ.set i (some (.nd (ts ++ [o])))) := by
  rw [fAppendO_ap, hi, onN_t, h, onO_some, hi, onN_t, app_if hl]
theorem es_put {δ : DEnv} {i n : Nat} {e j : FE} {ts : List OT} {d : PyData} {k : Int} (h : EvV e δ d) (hi : δ[i]? = some (some (.nd ts))) (hj : EvV j δ (.int k)) (hx : ixN ts.length k = some n) : fPut i e j δ = .nx (δ.set i (some (.nd (ts.set n (.fz d))))) := by
  obtain ⟨t, e1, e2⟩ := h
  obtain ⟨u, e3, e4⟩ := hj
  rw [fPut_ap, e1, onO_some, hi]
  show onO (j δ) _ = _
  rw [e3, onO_some, e4]
  show onX (ixN ts.length k) _ = _
  rw [hx, e2]; rfl
theorem callO {F : FD} {as : FA} {δ : DEnv} {ds : List PyData} {o : OT} (h : EvA as δ ds) (k : F ds = .ok o) : fCall F as δ = some (o, δ) := by
  obtain ⟨ts, e1, e2⟩ := h
  rw [fCall_ap, e1]
  show okO (F (OT.datas ts)) δ = _
  rw [e2, k]; rfl
noncomputable def jn (c : Nat) : List (List Nat) → List Nat
  | [] => []
  | [x] => x
  | x :: y :: r => x ++ c :: jn c (y :: r)
theorem mkS_eta (x : Str) : x = mkS x.cps.toList := by
  unfold mkS
  rw [Array.toArray_toList]
theorem join_mk (c : Nat) : ∀ ps : List (List Nat), Str.join (mkS [c]) (ps.map mkS) = mkS (jn c ps)
  | [] => rfl
  | [x] => rfl
  | x :: y :: r => by
    show mkS x ++ mkS [c] ++ Str.join (mkS [c]) ((y :: r).map mkS) = _
    rw [join_mk c (y :: r), mkS_app, mkS_app, List.append_assoc]; rfl
theorem cut_uniq {c : Nat} : ∀ {x y a b : List Nat}, c ∉ x → c ∉ y → x ++ c :: a = y ++ c :: b → x = y ∧ a = b
  | [], [], a, b, _, _, h => ⟨rfl, (List.cons.inj h).2⟩
  | [], z :: y, a, b, _, hy, h => absurd (show c ∈ z :: y by rw [(List.cons.inj h).1]; exact .head _) hy
  | z :: x, [], a, b, hx, _, h => absurd (show c ∈ z :: x by rw [← (List.cons.inj h).1]; exact .head _) hx
  | z :: x, w :: y, a, b, hx, hy, h => by
    obtain ⟨h1, h2⟩ := List.cons.inj h
    obtain ⟨e1, e2⟩ := cut_uniq (fun m => hx (.tail _ m)) (fun m => hy (.tail _ m)) h2
    exact ⟨by rw [h1, e1], e2⟩
theorem jn_inj {c : Nat} : ∀ {P Q : List (List Nat)}, P ≠ [] → Q ≠ [] → (∀ p ∈ P, c ∉ p) → (∀ q ∈ Q, c ∉ q) → jn c P = jn c Q → P = Q
  | [], _, h, _, _, _, _ => absurd rfl h
  | _, [], _, h, _, _, _ => absurd rfl h
  | [x], [y], _, _, _, _, h => by rw [show x = y from h]
  | [x], y :: z :: r, _, _, hp, _, h => by
    have h : x = y ++ c :: jn c (z :: r) := h
    exact absurd (show c ∈ x by rw [h]; exact List.mem_append_right _ (.head _)) (hp x (.head _))
  | x :: z :: r, [y], _, _, _, hq, h => by
    have h : x ++ c :: jn c (z :: r) = y := h
    exact absurd (show c ∈ y by rw [← h]; exact List.mem_append_right _ (.head _)) (hq y (.head _))
  | x :: z :: r, y :: w :: s, _, _, hp, hq, h => by
    obtain ⟨e1, e2⟩ := cut_uniq (hp x (.head _)) (hq y (.head _)) (show x ++ c :: jn c (z :: r) = y ++ c :: jn c (w :: s) from h)
    rw [e1, jn_inj (List.cons_ne_nil _ _) (List.cons_ne_nil _ _) (fun p m => hp p (.tail _ m)) (fun q m => hq q (.tail _ m)) e2]
theorem split_mk {c : Nat} {ps : List (List Nat)} (h : ∀ p ∈ ps, c ∉ p) (hn : ps ≠ []) : PySem.Txt.split (mkS (jn c ps)) (mkS [c]) = ps.map mkS := by
  have e1 := StrLaws.join_split (mkS (jn c ps)) (mkS [c])
  have e2 := StrLaws.split_free (mkS (jn c ps)) c
  have e3 : 1 ≤ (PySem.Txt.split (mkS (jn c ps)) (mkS [c])).length := PyProof.Rows.split_pos _ _
  rw [show mkS [c] = (⟨#[c]⟩ : Str) from rfl] at *
  generalize PySem.Txt.split (mkS (jn c ps)) ⟨#[c]⟩ = P at *
  have eP : P = (P.map fun x => x.cps.toList).map mkS := by
    rw [List.map_map]
    exact ((List.map_congr_left fun x _ => (mkS_eta x).symm).trans (List.map_id _)).symm
  have ej := join_mk c (P.map fun x => x.cps.toList)
  rw [← eP, show mkS [c] = (⟨#[c]⟩ : Str) from rfl, e1] at ej
  rw [eP, ← jn_inj (c := c) hn (fun z => by rw [List.map_eq_nil_iff.mp z] at e3; exact absurd e3 (by decide)) h (fun q m => by
    obtain ⟨x, hx, rfl⟩ := List.mem_map.mp m
    exact e2 x hx) (mkS_inj ej)]
theorem jn_len (c : Nat) : ∀ ps : List (List Nat), (jn c ps).length ≤ (ps.map fun p => p.length + 1).sum
  | [] => Nat.le_refl _
  | [x] => by show x.length ≤ x.length + 1 + 0; omega
  | x :: y :: r => by
    have := jn_len c (y :: r)
    show (x ++ c :: jn c (y :: r)).length ≤ _
    rw [List.length_append, List.length_cons, List.map_cons, List.sum_cons]; omega
theorem sum_le {α : Type} (f : α → Nat) (k : Nat) : ∀ l : List α, (∀ x ∈ l, f x ≤ k) → (l.map f).sum ≤ l.length * k
  | [], _ => Nat.zero_le _
  | x :: l, h => by
    have := sum_le f k l fun y m => h y (.tail _ m)
    have := h x (.head _)
    rw [List.map_cons, List.sum_cons, List.length_cons, Nat.succ_mul]; omega
theorem jn_mem {c d : Nat} : ∀ {ps : List (List Nat)}, d ∈ jn c ps → d = c ∨ ∃ p ∈ ps, d ∈ p
  | [], h => nomatch h
  | [x], h => .inr ⟨x, .head _, h⟩
  | x :: y :: r, h => by
    rcases List.mem_append.mp (show d ∈ x ++ c :: jn c (y :: r) from h) with h | h
    · exact .inr ⟨x, .head _, h⟩
    · rcases List.mem_cons.mp h with h | h
      · exact .inl h
      · exact (jn_mem h).imp id fun ⟨p, m, q⟩ => ⟨p, .tail _ m, q⟩
theorem joinOk_mk {c : Nat} {ps : List (List Nat)} (h : (ps.map fun p => p.length + 1).sum ≤ 1000000) : JoinOk (mkS [c]) (ps.map mkS) = true := by
  refine PyProof.Rows.joinOk_of ?_
  have e : ∀ ps : List (List Nat), ((ps.map mkS).map (·.length)).sum + ps.length = (ps.map fun p => p.length + 1).sum := fun ps => by
    induction ps with
    | nil => rfl
    | cons p ps ih =>
      rw [List.map_cons, List.map_cons, List.map_cons, List.sum_cons, List.sum_cons, List.length_cons, ← ih, mkS_len]; omega
  have := e ps
  rw [List.length_map]
  show _ + ps.length * 1 ≤ _
  omega
theorem gJoin_mk {c : Nat} {ps : List (List Nat)} (h : (ps.map fun p => p.length + 1).sum ≤ 1000000) : gJoin (mkS [c]) [.list (ps.map fun p => .str (mkS p))] = some (.str (mkS (jn c ps))) := by
  show ((strsD (ps.map fun p => PyData.str (mkS p))).bind fun ts => if JoinOk (mkS [c]) ts = true then some (PyData.str (PySem.Txt.join (mkS [c]) ts)) else none) = _
  have e : strsD (ps.map fun p => PyData.str (mkS p)) = some (ps.map mkS) := by
    have := strsD_map (ps.map mkS)
    rwa [List.map_map] at this
  rw [e, Option.bind_some, if_pos (joinOk_mk h)]
  unfold PySem.Txt.join
  rw [StrLaws.glued_eq_join, join_mk]
theorem gSplit_mk {c : Nat} {ps : List (List Nat)} (h : ∀ p ∈ ps, c ∉ p) (hn : ps ≠ []) (hl : (jn c ps).length ≤ 1000000) (hk : ps.length ≤ 1000000) : gSplit (mkS (jn c ps)) [.str (mkS [c])] = some (.nd ((ps.map fun p => PyData.str (mkS p)).map OT.fz)) := by
  show (if splitOk (mkS (jn c ps)) (mkS [c]) = true then some (OT.nd (((PySem.Txt.split (mkS (jn c ps)) (mkS [c])).map PyData.str).map OT.fz)) else none) = _
  have s := split_mk h hn
  rw [if_pos (by unfold splitOk; rw [s, mkS_len, List.length_map, sizeLine_eq, decide_eq_true (by omega), decide_eq_true (by omega)]; rfl), s, List.map_map, List.map_map, List.map_map]
  rfl
theorem ev_mtS {g : Str → List PyData → Option PyData} {o : FE} {a : FA} {δ : DEnv} {z : Str} {ds : List PyData} {d : PyData} (ho : EvV o δ (.str z)) (ha : EvA a δ ds) (h : g z ds = some d) : EvV (fMtS g o a) δ d := by
  obtain ⟨t, e1, e2⟩ := ho
  obtain ⟨ts, e3, e4⟩ := ha
  refine ⟨.fz d, ?_, OT.data_fz d⟩
  unfold fMtS
  rw [e1, Option.bind_some]
  dsimp only
  rw [e2]
  show ((a δ).bind fun q => (g z (OT.datas q.1)).bind fun d => some (OT.fz d, q.2)) = _
  rw [e3, Option.bind_some]
  dsimp only
  rw [e4, h]; rfl
theorem ev_mtO {g : Str → List PyData → Option OT} {o : FE} {a : FA} {δ : DEnv} {z : Str} {ds : List PyData} {t0 : OT} {d : PyData} (ho : EvV o δ (.str z)) (ha : EvA a δ ds) (h : g z ds = some t0) (hd : t0.data = d) : EvV (fMtO g o a) δ d := by
  obtain ⟨t, e1, e2⟩ := ho
  obtain ⟨ts, e3, e4⟩ := ha
  refine ⟨t0, ?_, hd⟩
  unfold fMtO
  rw [e1, Option.bind_some]
  dsimp only
  rw [e2]
  show ((a δ).bind fun q => (g z (OT.datas q.1)).bind fun d => some (d, q.2)) = _
  rw [e3, Option.bind_some]
  dsimp only
  rw [e4, h]; rfl
theorem ev_split {c : Nat} {o a : FE} {δ : DEnv} {ps : List (List Nat)} (ho : EvV o δ (.str (mkS (jn c ps)))) (ha : EvV a δ (.str (mkS [c]))) (h : ∀ p ∈ ps, c ∉ p) (hn : ps ≠ []) (hl : (jn c ps).length ≤ 1000000) (hk : ps.length ≤ 1000000) : EvV (fMtO gSplit o (aCons a aNil)) δ (.list (ps.map fun p => .str (mkS p))) :=
  ev_mtO ho (ea_cons ha ea_nil) (gSplit_mk h hn hl hk) (by rw [OT.data_nd, OT.map_fz])
theorem ev_join {c : Nat} {o a : FE} {δ : DEnv} {ps : List (List Nat)} (ho : EvV o δ (.str (mkS [c]))) (ha : EvV a δ (.list (ps.map fun p => .str (mkS p)))) (h : (ps.map fun p => p.length + 1).sum ≤ 1000000) : EvV (fMtS gJoin o (aCons a aNil)) δ (.str (mkS (jn c ps))) :=
  ev_mtS ho (ea_cons ha ea_nil) (gJoin_mk h)
theorem ch_1 : Str.ofString "\n" = mkS [10] := by rw [Str.ofString_eq_toList]; rfl
theorem ch_2 : Str.ofString " " = mkS [32] := by rw [Str.ofString_eq_toList]; rfl
theorem ev_ch {c : Nat} {z : Str} {δ : DEnv} (h : z = mkS [c]) : EvV (fC (.str z)) δ (.str (mkS [c])) := h ▸ ev_c
theorem dg_len40 : ∀ (k : Nat) {n : Nat}, n < 10 ^ (k + 1) → (dg n).length ≤ k + 1
  | 0, n, h => by rw [dg_lt (by simpa using h)]; exact Nat.le_refl _
  | k + 1, n, h => by
    by_cases c : n < 10
    · rw [dg_lt c]; show 1 ≤ k + 1 + 1; omega
    · rw [dg_ge (by omega), List.length_append]
      have := dg_len40 k (n := n / 10) (by rw [Nat.pow_succ] at h; omega)
      show _ + 1 ≤ _
      omega
theorem dg_head {n : Nat} (h : n ≠ 0) : ∃ d r, dg n = d :: r ∧ 49 ≤ d ∧ d ≤ 57 := by
  induction n using Nat.strongRecOn with
  | _ n ih =>
    by_cases c : n < 10
    · exact ⟨48 + n, [], dg_lt c, by omega, by omega⟩
    · obtain ⟨d, r, e, h1, h2⟩ := ih (n / 10) (by omega) (by omega)
      exact ⟨d, r ++ [48 + n % 10], by rw [dg_ge (by omega), e]; rfl, h1, h2⟩
theorem tx_nat (n : Nat) : tx (n : Int) = dg n := by
  unfold tx sgn
  rw [if_neg (by omega)]; rfl
theorem intT_dg {n : Nat} (h : (dg n).length ≤ 640) : gIntT [.str (mkS (dg n))] = some (.int n) := by
  show (if (mkS (dg n)).length ≤ 640 then (intText? (mkS (dg n))).bind fun n => some (PyData.int n) else none) = _
  rw [if_pos (by rw [mkS_len]; exact h), intText_digits (x := mkS (dg n)) (fun c m => dg_mem m) (dg_ne n) (by rw [mkS_len]; omega)]
  show some (PyData.int ((PySem.NumText.digitsVal (dg n) : Nat) : Int)) = _
  unfold dg
  rw [PySem.W.KIN.val_back]
theorem fig_in' : ∀ d : Fin 10, (!(!(Builtin.Str.occurrences ("0123456789" : Str) ⟨#[48 + (d : Nat)]⟩ 0 ("0123456789" : Str).length 1).isEmpty)) = false := by decide +kernel
theorem fig_in (d : Fin 10) : gInS true (.str ⟨#[48 + (d : Nat)]⟩) (.str "0123456789") = some (.bool false) := (show gInS true (.str ⟨#[48 + (d : Nat)]⟩) (.str "0123456789") = some (.bool _) from rfl).trans (congrArg (fun b => some (PyData.bool b)) (fig_in' d))
theorem atI_zero {α : Type} (d : α) (r : List α) : atI (d :: r) 0 = some d := by
  unfold atI ixN
  rw [if_pos (by decide), if_pos (by simp)]; rfl
theorem is_number_dg {n : Nat} (h : (dg n).length ≤ 40) : Told F_is_number_df88 [.str (mkS (dg n))] (.bool true) := by
  have l1 : 1 ≤ (dg n).length := List.length_pos_iff.mpr (dg_ne n)
  have el : ∀ {δ : DEnv}, δ[0]? = some (some (.fz (.str (mkS (dg n))))) → EvV (fBlS gLenS (aCons (fVar 0) aNil)) δ (.int ((dg n).length : Int)) := fun hδ => ev_blS (ea_cons (ev_var hδ) ea_nil) (by
    show (if (mkS (dg n)).length ≤ sizeLine then some (PyData.int ((mkS (dg n)).length : Int)) else none) = _
    rw [mkS_len, if_pos (by rw [sizeLine_eq]; omega)])
  refine told_of rfl <| rt_seq (es_if_f (et_no (p := true) (et_V (ev_chain_t ev_c (el rfl) ev_c (decide_eq_true (by omega)) (decide_eq_true (by omega))))) rfl) ?_
  refine rt_for (ds := (dg n).map fun c => .str ⟨#[c]⟩) (fun _ δ => ∃ z, δ = [some (.fz (.str (mkS (dg n)))), z]) (by
    unfold EvI iStr
    rw [show fVar 0 (startN 2 [PyData.str (mkS (dg n))]) = some (.fz (.str (mkS (dg n))), startN 2 [PyData.str (mkS (dg n))]) from rfl, Option.bind_some]
    dsimp only
    rw [OT.data_fz]; rfl) ⟨none, rfl⟩ (fun k d δ hd q => ?_) fun δ' q => ?_
  · obtain ⟨z, rfl⟩ := q
    obtain ⟨c, hc, rfl⟩ := List.mem_map.mp (List.mem_of_getElem? hd)
    have hm := dg_mem hc
    have := fig_in ⟨c - 48, by omega⟩
    rw [show 48 + (c - 48) = c by omega] at this
    exact ⟨_, _, rfl, .inl (es_if_f (et_V (ev_binS (ev_var (i := 1) rfl) ev_c this)) rfl), _, rfl⟩
  · obtain ⟨z, rfl⟩ := q
    have cp : Cp (dg n) := fun c m => by have := dg_mem m; omega
    by_cases c : n = 0
    · subst c
      exact rt_ret (ev_or_t (ev_binS (ev_var (i := 0) rfl) ev_c (by rw [s_0, dg_lt (by decide), gEq_str (fun c m => by rw [List.mem_singleton.mp m]; decide) (fun c m => by rw [List.mem_singleton.mp m]; decide)]; rfl)))
    · obtain ⟨d, r, e, h1, h2⟩ := dg_head c
      refine rt_ret (ev_or_f (ev_binS (ev_var (i := 0) rfl) ev_c (d := .bool false) ?_) (ev_binS (ev_bin (o := .fz (.str (mkS [d]))) (ev_var (i := 0) rfl) ev_c ?_ (OT.data_fz _)) ev_c ?_))
      · rw [s_0, gEq_str cp (fun c m => by rw [List.mem_singleton.mp m]; decide), decide_eq_false (by rw [e]; intro z; have := (List.cons.inj z).1; omega)]
      · show (if (mkS (dg n)).length ≤ sizeLine then (atI (mkS (dg n)).cps.toList 0).map fun c => OT.fz (.str ⟨#[c]⟩) else none) = _
        rw [if_pos (by rw [mkS_len, sizeLine_eq]; omega), e, show atI (mkS (d :: r)).cps.toList 0 = some d from atI_zero d r]; rfl
      · rw [s_0, gNe_str (fun c m => by rw [List.mem_singleton.mp m]; omega) (fun c m => by rw [List.mem_singleton.mp m]; decide), decide_eq_false (by intro z; have := (List.cons.inj z).1; omega)]; rfl
theorem read_number_dg {n : Nat} (h : (dg n).length ≤ 40) : Told F_read_number_f024 [.str (mkS (dg n))] (.int n) :=
  told_of rfl <| rt_ret (ev_if_t (et_Db (ev_call (ea_cons ev_var ea_nil) (is_number_dg h))) (ev_blS (ea_cons ev_var ea_nil) (intT_dg (by omega))))
structure Dst (q : Rat) : Prop where
  n0 : 0 ≤ q.num
  n1 : q.num < 10 ^ 40
  d1 : q.den < 10 ^ 40
set_option exponentiation.threshold 500
noncomputable def qtx (q : Rat) : List Nat := shw (q.num, (q.den : Int))
theorem Dst.top {q : Rat} (h : Dst q) : ∃ n : Nat, q.num = (n : Int) ∧ (dg n).length ≤ 40 := by
  obtain ⟨n, e⟩ := Int.eq_ofNat_of_zero_le h.n0
  refine ⟨n, e, dg_len40 39 ?_⟩
  have := h.n1
  rw [e] at this
  exact Int.ofNat_lt.mp (by simpa using this)
theorem Dst.bot {q : Rat} (h : Dst q) : (dg q.den).length ≤ 40 := dg_len40 39 h.d1
theorem Dst.bn {q : Rat} (h : Dst q) : Bt 400 q.num := Bt.of_lt (Int.lt_of_lt_of_le (by decide) h.n0) (Int.lt_trans h.n1 (by decide +kernel))
theorem Dst.bd {q : Rat} (h : Dst q) : Bt 400 (q.den : Int) := Bt.of_lt (Int.lt_of_lt_of_le (by decide) (Int.natCast_nonneg _)) (Int.lt_trans (b := 10 ^ 40) (by have := Int.ofNat_lt.mpr h.d1; simpa using this) (by decide +kernel))
theorem show_q {q : Rat} (h : Dst q) : Told F_show_fraction_50aa [frD q] (.str (mkS (qtx q))) := show_ok (p := (q.num, (q.den : Int))) h.bn h.bd
theorem qtx_mem {q : Rat} (h : Dst q) : ∀ c ∈ qtx q, 47 ≤ c ∧ c ≤ 57 := fun c m => by
  obtain ⟨n, e, _⟩ := h.top
  unfold qtx shw at m
  rw [e, tx_nat] at m
  rcases List.mem_append.mp m with m | m
  · have := dg_mem m; omega
  · split at m
    · exact nomatch m
    · rcases List.mem_cons.mp m with m | m
      · omega
      · rw [tx_nat] at m; have := dg_mem m; omega
theorem qtx_len {q : Rat} (h : Dst q) : (qtx q).length ≤ 81 := by
  obtain ⟨n, e, l⟩ := h.top
  have l2 := h.bot
  unfold qtx shw
  rw [e, tx_nat, tx_nat]
  split
  · rw [List.append_nil]; omega
  · rw [List.length_append, List.length_cons]; omega
theorem read_fraction_q {q : Rat} (h : Dst q) : Told F_read_fraction_9056 [.str (mkS (qtx q))] (frD q) := by
  obtain ⟨n, en, ln⟩ := h.top
  have ld := h.bot
  have cpq : Cp (qtx q) := fun c m => by have := qtx_mem h c m; omega
  have no : ∀ m : Nat, 47 ∉ dg m := fun m z => by have := dg_mem z; omega
  have fin : ∀ {o : OT}, o.data = .list [.int q.num, .int (q.den : Int)] → Rets (fSeq (wE (fBl gTupL (aCons (fOwn 1) aNil)) (kSetS 2))
    (wE (fIf (tAn (tD (fCall F_is_fraction_f332 (aCons (fVar 2) aNil))) (tV (fBinS gEq (fCall F_show_fraction_50aa (aCons (fVar 2) aNil)) (fVar 0)))) (fVar 2) (fC .none)) kRet)) [some (.fz (.str (mkS (qtx q)))), some o, none] (frD q) := fun e1 => by
    refine rt_seq (es_setS (d := frD q) (ev_bl (o := .fz (frD q)) (ea_cons (ev_own (i := 1) rfl e1) ea_nil) rfl (OT.data_fz _)) rfl) ?_
    exact rt_ret (ev_if_t (et_an (et_Db (ev_call (ea_cons (ev_var (i := 2) rfl) ea_nil) (is_fraction_ok q))) (et_V (ev_binS (ev_call (ea_cons (ev_var (i := 2) rfl) ea_nil) (show_q h)) (ev_var (i := 0) rfl) (by rw [gEq_str cpq cpq, decide_eq_true rfl])))) (ev_var (i := 2) rfl))
  by_cases c : q.den = 1
  · have eq : qtx q = jn 47 [dg n] := by
      unfold qtx shw
      rw [en, tx_nat, if_pos (by rw [c]; rfl), List.append_nil]; rfl
    obtain ⟨rs, e4, e5⟩ := comp_nd (δ := [some (.fz (.str (mkS (qtx q)))), none, none]) (caps := []) (cs := []) (me := fCall F_read_number_f024 (aCons (fVar 0) aNil)) [dg n] (fun p => .str (mkS p)) (fun _ => .int q.num) (it := iLst (fMtO gSplit (fVar 0) (aCons (fC (.str "/")) aNil)))
      (ei_lst (ev_split (c := 47) (ev_var (i := 0) (by rw [eq]; rfl)) (ev_ch s_sl) (fun p m => by rw [List.mem_singleton.mp m]; exact no n) (by simp) (by rw [← eq]; have := qtx_len h; omega) (Nat.le_of_ble_eq_true rfl))) (Nat.le_of_ble_eq_true rfl) rfl fun p m => by
        rw [List.mem_singleton.mp m, en]
        exact ev_call (ea_cons ev_var ea_nil) (read_number_dg ln)
    have d1 : (OT.nd rs).data = .list [.int q.num] := by rw [OT.data_nd, ← datas_map, e5]; rfl
    have lr : rs.length = 1 := by have := congrArg List.length e5; rwa [datas_len] at this
    refine told_of rfl <| rt_seq (es_setO e4) <| rt_seq (es_if_t (et_V (ev_eq (i := 1) (j := 1) (ev_len (ds := [.int q.num]) (ev_own (i := 1) rfl d1)) ev_c rfl)) (es_app ev_c rfl (by omega))) (fin ?_)
    rw [OT.data_nd, List.map_append, ← datas_map, e5, c]
    show PyData.list ([.int q.num] ++ [(OT.fz (.int 1)).data]) = _
    rw [OT.data_fz]; rfl
  · have eq : qtx q = jn 47 [dg n, dg q.den] := by
      unfold qtx shw
      rw [en, tx_nat, if_neg (by intro z; exact c (Int.ofNat_inj.mp z)), tx_nat]; rfl
    obtain ⟨rs, e4, e5⟩ := comp_nd (δ := [some (.fz (.str (mkS (qtx q)))), none, none]) (caps := []) (cs := []) (me := fCall F_read_number_f024 (aCons (fVar 0) aNil)) [n, q.den] (fun p => .str (mkS (dg p))) (fun p => .int p) (it := iLst (fMtO gSplit (fVar 0) (aCons (fC (.str "/")) aNil)))
      (ei_lst (ev_split (c := 47) (ps := [dg n, dg q.den]) (ev_var (i := 0) (by rw [eq]; rfl)) (ev_ch s_sl) (fun p m => by
        rcases List.mem_cons.mp m with rfl | m
        · exact no n
        · rw [List.mem_singleton.mp m]; exact no _) (by simp) (by rw [← eq]; have := qtx_len h; omega) (Nat.le_of_ble_eq_true rfl))) (Nat.le_of_ble_eq_true rfl) rfl fun p m => by
        refine ev_call (ea_cons ev_var ea_nil) (read_number_dg ?_)
        rcases List.mem_cons.mp m with rfl | m
        · exact ln
        · rw [List.mem_singleton.mp m]; exact ld
    have d1 : (OT.nd rs).data = .list [.int q.num, .int (q.den : Int)] := by rw [OT.data_nd, ← datas_map, e5, en]; rfl
    exact told_of rfl <| rt_seq (es_setO e4) <| rt_seq (es_if_f (et_V (ev_eq (i := 2) (j := 1) (ev_len (ds := [.int q.num, .int (q.den : Int)]) (ev_own (i := 1) rfl d1)) ev_c rfl)) rfl) (fin d1)
theorem runD_rt {np n : Nat} {S : FS} {xs : List PyData} {o : OT} {δ' : DEnv} (hl : xs.length = np) (k : S (startN n xs) = .rt o δ') : runD np n S xs = .ok o := by rw [runD_ap hl, k, told_rt]
structure GT (n : Nat) (T : Nat → Nat → Rat) : Prop where
  sy : ∀ i j, i < n → j < n → T i j = T j i
  zd : ∀ i, i < n → T i i = 0
  ds : ∀ i j, i < n → j < n → Dst (T i j)
noncomputable def rwT (n : Nat) (T : Nat → Nat → Rat) (i : Nat) : PyData := .list ((List.range n).map fun j => frD (T i j))
theorem ev_row {n i : Nat} {T : Nat → Nat → Rat} {a b : FE} {δ : DEnv} (ha : EvV a δ (gridD n (frG T))) (hb : EvV b δ (.int (i : Int))) (hi : i < n) : EvV (fBin gIx a b) δ (rwT n T i) :=
  ev_ix ha hb (by unfold gridD; rw [gIx_l, atI_of, List.getElem?_map, List.getElem?_range hi]; rfl)
theorem ev_at {n i j : Nat} {T : Nat → Nat → Rat} {a b c : FE} {δ : DEnv} (ha : EvV a δ (gridD n (frG T))) (hb : EvV b δ (.int (i : Int))) (hi : i < n) (hc : EvV c δ (.int (j : Int))) (hj : j < n) : EvV (fBin gIx (fBin gIx a b) c) δ (frD (T i j)) :=
  ev_ix (ev_row ha hb hi) hc (by unfold rwT; rw [gIx_l, atI_of, List.getElem?_map, List.getElem?_range hj]; rfl)
theorem alike_both_ok {n : Nat} (hn : n ≤ 10) {T : Nat → Nat → Rat} (G : GT n T) : Told F_is_alike_both_ways_13b3 [gridD n (frG T)] (.bool true) := by
  have gl : ∀ {δ : DEnv}, δ[0]? = some (some (.fz (gridD n (frG T)))) → EvV (fBlS gLen (aCons (fVar 0) aNil)) δ (.int n) := fun h => gd_len h
  refine told_of rfl <| rt_for (ds := rngD 0 n) (fun _ δ => ∃ z1 z2, δ = [some (.fz (gridD n (frG T))), z1, z2]) (ei_ra (ea_cons (gl rfl) ea_nil) (by omega)) ⟨none, none, rfl⟩ (fun k d δ hd q => ?_) fun δ' q => ?_
  · obtain ⟨z1, z2, rfl⟩ := q
    obtain ⟨hk, rfl⟩ := rngD_get hd
    rw [Int.zero_add]
    obtain ⟨δ', e, z, rfl⟩ := es_forI (it := iRa (aCons (fVar 1) aNil)) (g := gNm 2) (S := fIfS (tV (fBinS gNe (fBin gIx (fBin gIx (fVar 0) (fVar 1)) (fVar 2)) (fBin gIx (fBin gIx (fVar 0) (fVar 2)) (fVar 1)))) (wE (fC (.bool false)) kRet) fNx) (δ := [some (.fz (gridD n (frG T))), some (.fz (.int (k : Int))), z2]) (ds := rngD 0 k)
      (fun _ δ => ∃ z, δ = [some (.fz (gridD n (frG T))), some (.fz (.int (k : Int))), z]) (ei_ra (ea_cons (ev_var (i := 1) rfl) ea_nil) (by omega)) ⟨_, rfl⟩ (fun j d δ hd q => by
        obtain ⟨z, rfl⟩ := q
        obtain ⟨hj, rfl⟩ := rngD_get hd
        rw [Int.zero_add]
        exact ⟨_, _, rfl, .inl (es_if_f (et_V (ev_binS (ev_at (ev_var (i := 0) rfl) (ev_var (i := 1) rfl) hk (ev_var (i := 2) rfl) (by omega)) (ev_at (ev_var (i := 0) rfl) (ev_var (i := 2) rfl) (by omega) (ev_var (i := 1) rfl) hk) (by rw [gNe_fr, decide_eq_true (G.sy k j hk (by omega))]; rfl))) rfl), _, rfl⟩)
    refine ⟨_, _, rfl, .inl (es_seq (es_if_f (et_V (ev_binS (ev_at (ev_var (i := 0) rfl) (ev_var (i := 1) rfl) hk (ev_var (i := 1) rfl) hk) (tw (a := 0) (b := 1)) ?_)) rfl) e), _, _, rfl⟩
    rw [show PyData.tuple [.int 0, .int 1] = frD 0 from rfl, gNe_fr, decide_eq_true (G.zd k hk)]; rfl
  · obtain ⟨z1, z2, rfl⟩ := q
    exact rt_ret ev_c
theorem is_distance_ok {q : Rat} (h : Dst q) : Told F_is_distance_f7e2 [frD q] (.bool true) :=
  told_of rfl <| rt_ret (ev_and_t (ev_call (ea_cons ev_var ea_nil) (is_fraction_ok q)) (ev_ge (at0 rfl) ev_c (decide_eq_true h.n0)))
theorem is_row_ok {n : Nat} (hn : n ≤ 10) {T : Nat → Nat → Rat} (G : GT n T) {i : Nat} (hi : i < n) : Told F_is_row_582b [rwT n T i, .int n] (.bool true) := by
  refine told_of rfl <| rt_seq (es_if_f (et_o (et_no (p := true) (et_Db (ev_isi (ev_var (d := rwT n T i)) rfl))) (et_V (ev_ne (i := n) (j := n) ((ev_len (ds := (List.range n).map fun j => frD (T i j)) (ev_var (i := 0) rfl)).cast (by rw [List.length_map, List.length_range])) (ev_var (i := 1) rfl) (by rw [decide_eq_true rfl]; rfl)))) rfl) ?_
  refine rt_for (ds := (List.range n).map fun j => frD (T i j)) (fun _ δ => ∃ z, δ = [some (.fz (rwT n T i)), some (.fz (.int n)), z]) (ei_lst (ev_var (i := 0) rfl)) ⟨none, rfl⟩ (fun k d δ hd q => ?_) fun δ' q => ?_
  · obtain ⟨z, rfl⟩ := q
    obtain ⟨j, hj, rfl⟩ := List.mem_map.mp (List.mem_of_getElem? hd)
    exact ⟨_, _, rfl, .inl (es_if_f (et_no (p := true) (et_Db (ev_call (ea_cons (ev_var (i := 2) rfl) ea_nil) (is_distance_ok (G.ds i j hi (List.mem_range.mp hj)))))) rfl), _, rfl⟩
  · obtain ⟨z, rfl⟩ := q
    exact rt_ret ev_c
theorem is_table_ok {n : Nat} (h0 : 1 ≤ n) (hn : n ≤ 10) {T : Nat → Nat → Rat} (G : GT n T) : Told F_is_table_201f [gridD n (frG T)] (.bool true) := by
  refine told_of rfl <| rt_seq (es_if_f (et_o (et_no (p := true) (et_Db (ev_isi (ev_var (d := gridD n (frG T))) rfl))) (et_V (ev_eq (i := n) (j := 0) (gd_len rfl) ev_c (decide_eq_false (by omega))))) rfl) ?_
  refine rt_for (ds := (List.range n).map (rwT n T)) (fun _ δ => ∃ z, δ = [some (.fz (gridD n (frG T))), z]) (ei_lst (ev_var (i := 0) rfl)) ⟨none, rfl⟩ (fun k d δ hd q => ?_) fun δ' q => ?_
  · obtain ⟨z, rfl⟩ := q
    obtain ⟨i, hi, rfl⟩ := List.mem_map.mp (List.mem_of_getElem? hd)
    exact ⟨_, _, rfl, .inl (es_if_f (et_no (p := true) (et_Db (ev_call (ea_cons (ev_var (i := 1) rfl) (ea_cons (gd_len rfl) ea_nil)) (is_row_ok hn G (List.mem_range.mp hi))))) rfl), _, rfl⟩
  · obtain ⟨z, rfl⟩ := q
    exact rt_ret (ev_call (ea_cons (ev_var (i := 0) rfl) ea_nil) (alike_both_ok hn G))
noncomputable def rtx (n : Nat) (T : Nat → Nat → Rat) (i : Nat) : List Nat := jn 32 ((List.range n).map fun j => qtx (T i j))
noncomputable def ttx (n : Nat) (T : Nat → Nat → Rat) : List Nat := jn 10 ((List.range n).map (rtx n T))
theorem rtx_mem {n : Nat} {T : Nat → Nat → Rat} (G : GT n T) {i : Nat} (hi : i < n) : ∀ c ∈ rtx n T i, c = 32 ∨ (47 ≤ c ∧ c ≤ 57) := fun c m => by
  rcases jn_mem m with m | ⟨p, hp, m⟩
  · exact .inl m
  · obtain ⟨j, hj, rfl⟩ := List.mem_map.mp hp
    exact .inr (qtx_mem (G.ds i j hi (List.mem_range.mp hj)) c m)
theorem row_sum {n : Nat} (hn : n ≤ 10) {T : Nat → Nat → Rat} (G : GT n T) {i : Nat} (hi : i < n) : (((List.range n).map fun j => qtx (T i j)).map fun p => p.length + 1).sum ≤ 820 := by
  refine Nat.le_trans (sum_le _ 82 _ fun p hp => ?_) ?_
  · obtain ⟨j, hj, rfl⟩ := List.mem_map.mp hp
    have := qtx_len (G.ds i j hi (List.mem_range.mp hj)); omega
  · rw [List.length_map, List.length_range]; omega
theorem rtx_len {n : Nat} (hn : n ≤ 10) {T : Nat → Nat → Rat} (G : GT n T) {i : Nat} (hi : i < n) : (rtx n T i).length ≤ 820 := Nat.le_trans (jn_len ..) (row_sum hn G hi)
theorem tab_sum {n : Nat} (hn : n ≤ 10) {T : Nat → Nat → Rat} (G : GT n T) : (((List.range n).map (rtx n T)).map fun p => p.length + 1).sum ≤ 8210 := by
  refine Nat.le_trans (sum_le _ 821 _ fun p hp => ?_) ?_
  · obtain ⟨j, hj, rfl⟩ := List.mem_map.mp hp
    have := rtx_len hn G (List.mem_range.mp hj); omega
  · rw [List.length_map, List.length_range]; omega
theorem ttx_len {n : Nat} (hn : n ≤ 10) {T : Nat → Nat → Rat} (G : GT n T) : (ttx n T).length ≤ 8210 := Nat.le_trans (jn_len ..) (tab_sum hn G)
theorem ttx_cp {n : Nat} {T : Nat → Nat → Rat} (G : GT n T) : Cp (ttx n T) := fun c m => by
  rcases jn_mem m with m | ⟨p, hp, m⟩
  · omega
  · obtain ⟨j, hj, rfl⟩ := List.mem_map.mp hp
    have := rtx_mem G (List.mem_range.mp hj) c m; omega
theorem ev_rowtx {n : Nat} (hn : n ≤ 10) {T : Nat → Nat → Rat} (G : GT n T) {i : Nat} (hi : i < n) {F : FD} (hF : ∀ {q : Rat}, Dst q → Told F [frD q] (.str (mkS (qtx q)))) {e : FE} {δ : DEnv} (he : EvV e δ (rwT n T i)) :
    EvV (fMtS gJoin (fC (.str " ")) (aCons (fComp 1 [] (iLst e) (gNm 0) tYes (fCall F (aCons (fVar 0) aNil))) aNil)) δ (.str (mkS (rtx n T i))) := by
  refine ev_join (ev_ch ch_2) ((ev_comp (cs := []) (List.range n) (fun j => frD (T i j)) (fun j => .str (mkS (qtx (T i j)))) (ei_lst he) (by rw [List.length_range]; omega) rfl fun j hj => ev_call (ea_cons (ev_var (i := 0) rfl) ea_nil) (hF (G.ds i j hi (List.mem_range.mp hj)))).cast ?_) (Nat.le_trans (row_sum hn G hi) (by decide))
  rw [List.map_map]; rfl
theorem show_table_ok {n : Nat} (hn : n ≤ 10) {T : Nat → Nat → Rat} (G : GT n T) : Told F_show_table_8ecb [gridD n (frG T)] (.str (mkS (ttx n T))) := by
  refine told_of rfl <| rt_seq es_nil <| rt_for (ds := (List.range n).map (rwT n T)) (fun k δ => ∃ z, δ = [some (.fz (gridD n (frG T))), some (.nd ((((List.range k).map (rtx n T)).map fun p => PyData.str (mkS p)).map OT.fz)), z]) (ei_lst (ev_var (i := 0) rfl)) ⟨none, rfl⟩ (fun k d δ hd q => ?_) fun δ' q => ?_
  · obtain ⟨z, rfl⟩ := q
    have hk : k < n := by have := (List.getElem?_eq_some_iff.mp hd).1; rwa [List.length_map, List.length_range] at this
    rw [List.getElem?_map, List.getElem?_range hk] at hd
    cases hd
    refine ⟨_, _, rfl, .inl (es_app (ev_rowtx hn G hk (fun h => show_q h) (ev_var (i := 2) rfl)) rfl (by rw [List.length_map, List.length_map, List.length_map, List.length_range]; omega)), some (.fz (rwT n T k)), ?_⟩
    rw [List.range_succ, List.map_append, List.map_append, List.map_append]; rfl
  · obtain ⟨z, rfl⟩ := q
    rw [List.length_map, List.length_range]
    exact rt_ret (ev_join (ps := (List.range n).map (rtx n T)) (ev_ch ch_1) (ev_own (i := 1) rfl (by rw [OT.data_nd, OT.map_fz])) (Nat.le_trans (tab_sum hn G) (by decide)))
theorem check_text_ok (z : Str) : Told F_check_text_76e8 [.str z] .none := told_none rfl (es_if_f (et_no (p := true) (et_Db (ev_isi (ev_var (d := .str z)) rfl))) rfl)
noncomputable def Rws (n : Nat) (T : Nat → Nat → Rat) (rows : List OT) (k : Nat) : Prop := rows.length = k ∧ ∀ i, i < k → ∃ rs, rows[i]? = some (.nd rs) ∧ OT.datas rs = (List.range n).map fun j => frD (T i j)
theorem Rws.data {n k : Nat} {T : Nat → Nat → Rat} {rows : List OT} (h : Rws n T rows k) : rows.map OT.data = (List.range k).map (rwT n T) := by
  refine List.ext_getElem? fun i => ?_
  rw [List.getElem?_map, List.getElem?_map]
  by_cases c : i < k
  · obtain ⟨rs, e1, e2⟩ := h.2 i c
    rw [e1, List.getElem?_range c, Option.map_some, Option.map_some, OT.data_nd, ← datas_map, e2]; rfl
  · rw [List.getElem?_eq_none (by rw [h.1]; omega), List.getElem?_eq_none (by rw [List.length_range]; omega)]; rfl
theorem read_table_ok {n : Nat} (h0 : 1 ≤ n) (hn : n ≤ 10) {T : Nat → Nat → Rat} (G : GT n T) : ∃ rows, F_read_table_4013 [.str (mkS (ttx n T))] = .ok (.nd rows) ∧ Rws n T rows n := by
  have ne : ∀ {α : Type} (f : Nat → α), (List.range n).map f ≠ [] := fun f z => by
    have := congrArg List.length z
    rw [List.length_map, List.length_range] at this
    exact absurd this (by show n ≠ 0; omega)
  refine Exists.elim (es_forI (it := iLst (fMtO gSplit (fVar 0) (aCons (fC (.str "\n")) aNil))) (g := gNm 2) (S := fAppendO 1 (fComp 1 [] (iLst (fMtO gSplit (fVar 2) (aCons (fC (.str " ")) aNil))) (gNm 0) tYes (fCall F_read_fraction_9056 (aCons (fVar 0) aNil))))
    (δ := [some (.fz (.str (mkS (ttx n T)))), some (.nd []), none]) (ds := ((List.range n).map (rtx n T)).map fun p => .str (mkS p)) (fun k δ => ∃ rows z, δ = [some (.fz (.str (mkS (ttx n T)))), some (.nd rows), z] ∧ Rws n T rows k)
    (ei_lst (ev_split (ev_var (i := 0) rfl) (ev_ch ch_1) (fun p hp m => by
      obtain ⟨j, hj, rfl⟩ := List.mem_map.mp hp
      have := rtx_mem G (List.mem_range.mp hj) _ m; omega) (ne _) (by have := ttx_len hn G; show (ttx n T).length ≤ _; omega) (by rw [List.length_map, List.length_range]; omega)))
    ⟨[], none, rfl, rfl, fun i h => nomatch h⟩ fun k d δ hd q => ?turn) fun δ' h => ?fin
  case turn =>
    obtain ⟨rows, z, rfl, R⟩ := q
    have hk : k < n := by have := (List.getElem?_eq_some_iff.mp hd).1; rwa [List.length_map, List.length_map, List.length_range] at this
    rw [List.getElem?_map, List.getElem?_map, List.getElem?_range hk] at hd
    cases hd
    obtain ⟨rs, e4, e5⟩ := comp_nd (δ := [some (.fz (.str (mkS (ttx n T)))), some (.nd rows), some (.fz (.str (mkS (rtx n T k))))]) (caps := []) (cs := []) (me := fCall F_read_fraction_9056 (aCons (fVar 0) aNil)) (List.range n) (fun j => .str (mkS (qtx (T k j)))) (fun j => frD (T k j)) (it := iLst (fMtO gSplit (fVar 2) (aCons (fC (.str " ")) aNil)))
      (ei_lst ((ev_split (ps := (List.range n).map fun j => qtx (T k j)) (ev_var (i := 2) rfl) (ev_ch ch_2) (fun p hp m => by
        obtain ⟨j, hj, rfl⟩ := List.mem_map.mp hp
        have := qtx_mem (G.ds k j hk (List.mem_range.mp hj)) _ m; omega) (ne _) (by have := rtx_len hn G hk; show (rtx n T k).length ≤ _; omega) (by rw [List.length_map, List.length_range]; omega)).cast (by rw [List.map_map]; rfl))) (by rw [List.length_range]; omega) rfl fun j hj => ev_call (ea_cons (ev_var (i := 0) rfl) ea_nil) (read_fraction_q (G.ds k j hk (List.mem_range.mp hj)))
    refine ⟨_, _, rfl, .inl (es_appO e4 rfl (by rw [R.1]; omega)), rows ++ [.nd rs], _, rfl, by rw [List.length_append, R.1]; rfl, fun i hi => ?_⟩
    by_cases c : i < k
    · obtain ⟨r, e1, e2⟩ := R.2 i c
      exact ⟨r, by rw [List.getElem?_append_left (by rw [R.1]; exact c)]; exact e1, e2⟩
    · obtain rfl : i = k := by omega
      exact ⟨rs, by rw [List.getElem?_append_right (by rw [R.1]; omega), R.1, Nat.sub_self]; rfl, e5⟩
  case fin =>
    obtain ⟨e, rows, z, rfl, R⟩ := h
    rw [List.length_map, List.length_map, List.length_range] at R
    have dt : (OT.nd rows).data = gridD n (frG T) := by rw [OT.data_nd, R.data]; rfl
    have gl : ∀ {δ : DEnv}, δ[1]? = some (some (.nd rows)) → EvV (fBlS gLen (aCons (fOwn 1) aNil)) δ (.int n) := fun h => (ev_len (ds := (List.range n).map (rwT n T)) (ev_own h dt)).cast (by rw [List.length_map, List.length_range])
    refine ⟨rows, runD_rt (δ' := [some (.fz (.str (mkS (ttx n T)))), none, z]) rfl (es_seq (es_drop (ev_call (ea_cons (ev_var (i := 0) rfl) ea_nil) (check_text_ok _))) (es_seq es_nil (es_seq e (es_seq (es_if_f (et_o (et_no (p := true) (et_Db (ev_call (ea_cons (gl rfl) ea_nil) ?_))) (et_no (p := true) (et_Db (ev_call (ea_cons (ev_own (i := 1) rfl dt) ea_nil) (is_table_ok h0 hn G))))) rfl) ?_)))), R⟩
    · exact told_of rfl (rt_ret (ev_chain_t ev_c ev_var ev_c (decide_eq_true (by omega)) (decide_eq_true (by omega))))
    · rw [fRetO_ap]; rfl
theorem ev_isN {e : FE} {δ : DEnv} {d : PyData} (h : EvV e δ d) (hd : isNoneD d = false) : EvV (fBinS gIs e (fC .none)) δ (.bool false) := ev_binS h ev_c (by rw [gIs_n, hd])
theorem alike_int (k : Nat) (i : Int) : Told (F_law_alike_592f (k + 1)) [.int i, .int i] (.bool true) :=
  show Told (runD 2 4 (S_law_alike_592f (F_law_alike_592f k))) [.int i, .int i] (.bool true) from told_of rfl <| rt_seq (es_if_f (et_Db (ev_isi (ev_var (d := .int i)) rfl)) rfl) <| rt_first <| rt_if_t (et_Db (ev_isi (ev_var (d := .int i)) rfl)) <|
    rt_ret (ev_and_t (ev_call (ea_cons (ev_var (d := .int i)) ea_nil) (told_of rfl (rt_ret (ev_and_t (ev_isi (ev_var (d := .int i)) rfl) (ev_un (ev_isi (ev_var (d := .int i)) rfl) rfl))))) (ev_binS ev_var ev_var ((gEq_i i i).trans (by rw [decide_eq_true rfl]))))
theorem alike_seq {k : Nat} {x : PyData} {ds : List PyData} (hx : x = .list ds ∨ x = .tuple ds) (h : ∀ d ∈ ds, Told (F_law_alike_592f k) [d, d] (.bool true)) : Told (F_law_alike_592f (k + 1)) [x, x] (.bool true) := by
  have key : isTy "bool" x = false → isTy "int" x = false → isTy "str" x = false → isNoneD x = false → isFnD x = false → gLen [x] = some (.int ds.length) → zipA [x, x] = some (zipD ds ds) → Told (F_law_alike_592f (k + 1)) [x, x] (.bool true) := fun h0 h1 h2 h3 hf hl hz =>
    show Told (runD 2 4 (S_law_alike_592f (F_law_alike_592f k))) [x, x] (.bool true) from told_of rfl <| rt_seq (es_if_f (et_Db (ev_isT ev_var h0 hf)) rfl) <| rt_seq (es_if_f (et_Db (ev_isT ev_var h1 hf)) rfl) <| rt_seq (es_if_f (et_Db (ev_isT ev_var h2 hf)) rfl) <| rt_seq (es_if_f (et_V (ev_isN ev_var h3)) rfl) <|
      rt_seq (es_if_f (et_o (et_V (ev_binS (ev_isi ev_var hf) (ev_isi ev_var hf) ((gNe_bb _ _).trans (by rw [bne_self_eq_false])))) (et_V (ev_binS (ev_isi ev_var hf) (ev_isi ev_var hf) ((gNe_bb _ _).trans (by rw [bne_self_eq_false]))))) rfl) <|
      rt_seq (es_if_f (et_V (ev_ne (ev_blS (ea_cons ev_var ea_nil) hl) (ev_blS (ea_cons ev_var ea_nil) hl) (by rw [decide_eq_true rfl]; rfl))) rfl) <|
      rt_for (ds := zipD ds ds) (fun i δ => ∃ z1 z2, δ = [some (.fz x), some (.fz x), z1, z2]) (ei_zipA (ea_cons ev_var (ea_cons ev_var ea_nil)) hz) ⟨none, none, rfl⟩ (fun i d δ hd q => by
        obtain ⟨z1, z2, rfl⟩ := q
        obtain ⟨a, b, ha, hb, rfl⟩ := zipD_get hd
        rw [ha] at hb
        cases hb
        exact ⟨_, _, rfl, .inl (es_if_f (et_no (p := true) (et_Db (ev_call (ea_cons ev_var (ea_cons ev_var ea_nil)) (h a (List.mem_of_getElem? ha))))) rfl), _, _, rfl⟩) fun δ' _ => rt_ret ev_c
  rcases hx with rfl | rfl
  · exact key rfl rfl rfl rfl rfl (gLen_l ds) rfl
  · exact key rfl rfl rfl rfl rfl (gLen_t ds) rfl
theorem alike_fr (k : Nat) (q : Rat) : Told (F_law_alike_592f (k + 2)) [frD q, frD q] (.bool true) := alike_seq (ds := [.int q.num, .int (q.den : Int)]) (.inr rfl) fun d m => by
  rcases List.mem_cons.mp m with rfl | m
  · exact alike_int k _
  · rw [List.mem_singleton.mp m]; exact alike_int k _
theorem alike_tab (n : Nat) (T : Nat → Nat → Rat) : Told (F_law_alike_592f 6) [gridD n (frG T), gridD n (frG T)] (.bool true) := alike_seq (ds := (List.range n).map (rwT n T)) (.inl rfl) fun d m => by
  obtain ⟨i, _, rfl⟩ := List.mem_map.mp m
  refine alike_seq (k := 4) (ds := (List.range n).map fun j => frD (T i j)) (.inl rfl) fun d m => ?_
  obtain ⟨j, _, rfl⟩ := List.mem_map.mp m
  exact alike_fr 2 _
theorem num_le {t b : Int} (ht : 0 ≤ t) (hb : 0 < b) : 0 ≤ (Rat.divInt t b).num ∧ (Rat.divInt t b).num ≤ t := by
  have e : (Rat.divInt t b).num = t / (Int.gcd b t : Int) := by
    rw [Rat.num_divInt, Int.sign_eq_one_of_pos hb, Int.one_mul]
  rw [e]
  exact ⟨Int.ediv_nonneg ht (Int.natCast_nonneg _), Int.ediv_le_self _ ht⟩
theorem den_le {t b : Int} (hb : 0 < b) : ((Rat.divInt t b).den : Int) ≤ b := Int.le_of_dvd hb (den_dvd (by omega))
theorem dst_div {t b : Int} (ht : 0 ≤ t) (h1 : t < 10 ^ 40) (hb : 0 < b) (h2 : b < 10 ^ 40) : Dst (Rat.divInt t b) := by
  obtain ⟨a, c⟩ := num_le ht hb
  refine ⟨a, Int.lt_of_le_of_lt c h1, ?_⟩
  have := Int.lt_of_le_of_lt (den_le (t := t) hb) h2
  exact Int.ofNat_lt.mp (by simpa using this)
theorem dst_int {t : Int} (ht : 0 ≤ t) (h1 : t < 10 ^ 40) : Dst (t : Rat) := ⟨ht, h1, by show 1 < 10 ^ 40; decide +kernel⟩
theorem ev_i1 {e : FE} {δ : DEnv} {t : Int} (h : EvV e δ (.int t)) : EvV (fTup (aCons e (aCons (fC (.int 1)) aNil))) δ (frD (t : Rat)) := ev_tup (ea_cons h (ea_cons ev_c ea_nil)) (show 2 ≤ 1000 by decide)
theorem gP40 : gPow (.int 10) (.int 40) = some (.int 10000000000000000000000000000000000000000) := rfl
theorem wide_ok {v : Int} (h0 : 0 ≤ v) (h1 : v < 1000000000000) : ∃ q, Told F_law_wide_fc13 [.int v] (frD q) ∧ Dst q := by
  have n0 : 0 ≤ v.fdiv 8 := by rw [Int.fdiv_eq_ediv_of_nonneg _ (by decide)]; omega
  have n1 : v.fdiv 8 < 1000000000000 := by rw [Int.fdiv_eq_ediv_of_nonneg _ (by decide)]; omega
  have big : (10000000000000000000000000000000000000000 : Int) = 10 ^ 40 := by decide +kernel
  have fin : ∀ {q : Rat}, Dst q → Rets _ [some (.fz (.int (v.fdiv 8))), some (.fz (.int (v.fmod 8)))] (frD q) → ∃ q, Told F_law_wide_fc13 [.int v] (frD q) ∧ Dst q := fun hd h =>
    ⟨_, told_of rfl (rt_seq (es_set (ev_mod ev_var ev_c (by decide))) (rt_seq (es_set (ev_fdiv (ev_var (i := 0) rfl) ev_c)) h)), hd⟩
  have w0 := fmod_nn (i := v) (j := 8) (by decide)
  have w1 := fmod_lt (i := v) (j := 8) (by decide)
  generalize v.fdiv 8 = u at n0 n1 fin
  generalize v.fmod 8 = w at w0 w1 fin
  have ep : gPow (.int u) (.int 4) = some (.int (u ^ 4)) := gPow_i (i := u) (j := 4) (by unfold powB; exact decide_eq_true ⟨by decide, by decide, by omega⟩)
  have ev4 : ∀ {z : Option OT}, EvV (fBinS gPow (fVar 0) (fC (.int 4))) [some (.fz (.int u)), z] (.int (u ^ 4)) := ev_binS (ev_var (i := 0) rfl) ev_c ep
  have m40 : ∀ {z : Option OT}, EvV (fBinS gMod (fBinS gPow (fVar 0) (fC (.int 4))) (fBinS gPow (fC (.int 10)) (fC (.int 40)))) [some (.fz (.int u)), z] (.int ((u ^ 4).fmod 10000000000000000000000000000000000000000)) := ev_mod ev4 (ev_binS ev_c ev_c gP40) (by decide)
  have t0 := fmod_nn (i := u ^ 4) (j := 10000000000000000000000000000000000000000) (by decide)
  have t1 := fmod_lt (i := u ^ 4) (j := 10000000000000000000000000000000000000000) (by decide)
  by_cases c0 : w = 0
  · subst c0
    exact fin (q := 0) ⟨by decide, by decide +kernel, by decide +kernel⟩ (rt_first (rt_if_t (et_V (ev_eq (ev_var (i := 1) rfl) ev_c (decide_eq_true rfl))) (rt_ret (tw (a := 0) (b := 1)))))
  by_cases c1 : w < 4
  · refine fin (q := ((u.fmod 31 : Int) : Rat)) (dst_int (fmod_nn (by decide)) (Int.lt_trans (fmod_lt (i := u) (j := 31) (by decide)) (by decide +kernel))) (rt_seq (es_if_f (et_V (ev_eq (ev_var (i := 1) rfl) ev_c (decide_eq_false c0))) rfl) (rt_first (rt_if_t (et_V (ev_lt (ev_var (i := 1) rfl) ev_c (decide_eq_true c1))) (rt_ret ?_))))
    exact ev_i1 (ev_mod (ev_var (i := 0) rfl) ev_c (by decide))
  by_cases c2 : w < 6
  · have a0 := fmod_nn (i := u) (j := 41) (by decide)
    have a1 := fmod_lt (i := u) (j := 41) (by decide)
    have b0 := fmod_nn (i := u.fdiv 41) (j := 12) (by decide)
    have b1 := fmod_lt (i := u.fdiv 41) (j := 12) (by decide)
    refine fin (dst_div (t := u.fmod 41) (b := 1 + (u.fdiv 41).fmod 12) a0 (Int.lt_trans a1 (by decide +kernel)) (by omega) (Int.lt_of_le_of_lt (b := 12) (by omega) (by decide +kernel))) (rt_seq (es_if_f (et_V (ev_eq (ev_var (i := 1) rfl) ev_c (decide_eq_false c0))) rfl) (rt_seq (es_if_f (et_V (ev_lt (ev_var (i := 1) rfl) ev_c (decide_eq_false c1))) rfl) (rt_first (rt_if_t (et_V (ev_lt (ev_var (i := 1) rfl) ev_c (decide_eq_true c2))) (rt_ret ?_)))))
    exact ev_call (ea_cons (ev_mod (ev_var (i := 0) rfl) ev_c (by decide)) (ea_cons (ev_add ev_c (ev_mod (ev_fdiv (ev_var (i := 0) rfl) ev_c) ev_c (by decide))) ea_nil)) (law_fraction_ok (n := 10) (by omega) (Bt.of_lt (by omega) (by omega)))
  by_cases c3 : w = 6
  · refine fin (q := (((u ^ 4).fmod 10000000000000000000000000000000000000000 : Int) : Rat)) (dst_int t0 (big ▸ t1)) (rt_seq (es_if_f (et_V (ev_eq (ev_var (i := 1) rfl) ev_c (decide_eq_false c0))) rfl) (rt_seq (es_if_f (et_V (ev_lt (ev_var (i := 1) rfl) ev_c (decide_eq_false c1))) rfl) (rt_seq (es_if_f (et_V (ev_lt (ev_var (i := 1) rfl) ev_c (decide_eq_false c2))) rfl) (rt_first (rt_if_t (et_V (ev_eq (ev_var (i := 1) rfl) ev_c (decide_eq_true c3))) (rt_ret (ev_i1 m40)))))))
  · have b0 := fmod_nn (i := (u ^ 4).fdiv 7) (j := 10000000000000000000000000000000000000000 - 1) (by decide)
    have b1 := fmod_lt (i := (u ^ 4).fdiv 7) (j := 10000000000000000000000000000000000000000 - 1) (by decide)
    refine fin (dst_div (t := (u ^ 4).fmod 10000000000000000000000000000000000000000) (b := 1 + ((u ^ 4).fdiv 7).fmod (10000000000000000000000000000000000000000 - 1)) t0 (big ▸ t1) (by omega) (Int.lt_of_lt_of_le (b := 10000000000000000000000000000000000000000) (by omega) (Int.le_of_eq big))) (rt_seq (es_if_f (et_V (ev_eq (ev_var (i := 1) rfl) ev_c (decide_eq_false c0))) rfl) (rt_seq (es_if_f (et_V (ev_lt (ev_var (i := 1) rfl) ev_c (decide_eq_false c1))) rfl) (rt_seq (es_if_f (et_V (ev_lt (ev_var (i := 1) rfl) ev_c (decide_eq_false c2))) rfl) (rt_seq (es_if_f (et_V (ev_eq (ev_var (i := 1) rfl) ev_c (decide_eq_false c3))) rfl) (rt_ret ?_)))))
    exact ev_call (ea_cons m40 (ea_cons (ev_add ev_c (ev_mod (ev_fdiv ev4 ev_c) (ev_sub (ev_binS ev_c ev_c gP40) ev_c) (by decide))) ea_nil)) (law_fraction_ok (n := 200) (by omega) (Bt.of_lt (Int.lt_of_lt_of_le (b := 0) (by decide +kernel) (by omega)) (Int.lt_of_lt_of_le (b := 10000000000000000000000000000000000000001) (by omega) (by decide +kernel))))
theorem half10 : ∀ n : Fin 11, Int.fdiv (((n : Nat) : Int) * (((n : Nat) : Int) - 1)) 2 = (((n : Nat) * ((n : Nat) - 1) / 2 : Nat) : Int) := by decide
theorem zeros_ok {n : Nat} (hn : n ≤ 10) {δ : DEnv} (h0 : δ[0]? = some (some (.fz (.int n)))) (hb : blk 1 [0] δ = [none, some (.fz (.int n))]) : fComp 1 [0] (iRa (aCons (fVar 0) aNil)) (gNm 0) tYes (fComp 1 [] (iRa (aCons (fVar 1) aNil)) (gNm 0) tYes (fTup (aCons (fC (.int 0)) (aCons (fC (.int 1)) aNil)))) δ = some (gridO n (frG fun _ _ => 0), δ) := by
  refine (fComp_nm (cs := [some (.fz (.int n))]) (List.range n) (fun i : Nat => PyData.int (0 + (i : Int))) (fun i => .nd ((List.range n).map fun j => .fz (frD 0))) (ei_ra (n := n) (ea_cons (ev_var h0) ea_nil) (by omega)) (by rw [List.length_range, sizeLine_eq]; omega) hb fun x _ => ?_).trans rfl
  exact fComp_nm (cs := []) (List.range n) (fun i : Nat => PyData.int (0 + (i : Int))) (fun _ => .fz (frD 0)) (ei_ra (n := n) (ea_cons (ev_var (i := 1) rfl) ea_nil) (by omega)) (by rw [List.length_range, sizeLine_eq]; omega) rfl fun x _ => rfl
theorem rows_ok {n : Nat} (hn : n ≤ 10) {d : List Rat} (hd : ∀ q ∈ d, Dst q) : ∃ T, Told F_law_rows_44b9 [.int n, rowD d] (gridD n (frG T)) ∧ GT n T := by
  have key : RetQ S_law_rows_44b9 (startN 6 [.int n, rowD d]) fun r => ∃ T, r = gridD n (frG T) ∧ GT n T := by
    refine rq_seq (es_setO (zeros_ok hn rfl rfl)) (rq_for (ds := (d.zip (pairsN n)).map fun p => .tuple [frD p.1, ptD p.2]) (fun _ δ => ∃ T z3 z4 z5, δ = [some (.fz (.int n)), some (.fz (rowD d)), some (gridO n (frG T)), z3, z4, z5] ∧ GT n T) (ei_zipA (ea_cons (ev_var (i := 1) rfl) (ea_cons (ev_call (ea_cons (ev_var (i := 0) rfl) ea_nil) (pairsF_ok n (by omega))) ea_nil)) ?_) ⟨_, none, none, none, rfl, fun _ _ _ _ => rfl, fun _ _ => rfl, fun _ _ _ _ => ⟨by decide, by decide +kernel, by decide +kernel⟩⟩ (fun k dd δ hk q => ?_) fun δ' q => ?_)
    · exact congrArg some (zip_maps d (pairsN n) frD ptD)
    · obtain ⟨T, z3, z4, z5, rfl, G⟩ := q
      obtain ⟨⟨q, i, j⟩, hp, rfl⟩ := zip_get (f := frD) (g := ptD) hk
      have mp := List.of_mem_zip (List.mem_of_getElem? hp)
      obtain ⟨hij, hj⟩ := pairsN_mem mp.2
      have hq := hd q mp.1
      dsimp only at hij hj
      have p1 := put2_grid (i := 2) (δ := [some (.fz (.int n)), some (.fz (rowD d)), some (gridO n (frG T)), some (.fz (frD q)), some (.fz (.int i)), some (.fz (.int j))]) (ev_var (i := 3) rfl) rfl (ev_var (i := 4) rfl) (show i < n by omega) (ev_var (i := 5) rfl) hj
      have p2 := put2_grid (i := 2) (δ := [some (.fz (.int n)), some (.fz (rowD d)), some (gridO n (upG (frG T) i j (frD q))), some (.fz (frD q)), some (.fz (.int i)), some (.fz (.int j))]) (ev_var (i := 3) rfl) rfl (ev_var (i := 5) rfl) hj (ev_var (i := 4) rfl) (show i < n by omega)
      refine ⟨_, _, rfl, .inl (es_seq p1 p2), upT T i j q, some (.fz (frD q)), some (.fz (.int i)), some (.fz (.int j)), ?_, ⟨fun x y hx hy => ?_, fun x hx => ?_, fun x y hx hy => ?_⟩⟩
      · show [_, _, some (gridO n (upG (upG (frG T) i j (frD q)) j i (frD q))), _, _, _] = _
        rw [show gridO n (upG (upG (frG T) i j (frD q)) j i (frD q)) = gridO n (frG (upT T i j q)) from gridO_eq fun x y _ _ => by
          unfold upG frG upT
          split
          · rfl
          · split <;> rfl]
      · unfold upT
        have := G.sy x y hx hy
        by_cases a : x = j ∧ y = i
        · rw [if_pos a, if_neg (by omega), if_pos ⟨a.2, a.1⟩]
        · rw [if_neg a]
          by_cases b : x = i ∧ y = j
          · rw [if_pos b, if_pos ⟨b.2, b.1⟩]
          · rw [if_neg b, if_neg (by omega), if_neg (by omega)]; exact this
      · unfold upT
        rw [if_neg (by omega), if_neg (by omega)]; exact G.zd x hx
      · unfold upT
        split
        · exact hq
        · split
          · exact hq
          · exact G.ds x y hx hy
    · obtain ⟨T, z3, z4, z5, rfl, G⟩ := q
      exact rq_O rfl ⟨T, gridO_data _ _, G⟩
  obtain ⟨r, h, T, rfl, G⟩ := toldQ (np := 2) rfl key
  exact ⟨T, h, G⟩
noncomputable def tw0 (l i : Nat) : Nat := if i = l then 0 else i
theorem copy_ok {n : Nat} (hn : n ≤ 10) {T : Nat → Nat → Rat} {δ : DEnv} {e : FE} {caps : List Nat} (he : EvV e δ (gridD n (frG T))) (hb : blk 1 caps δ = [none]) : fComp 1 caps (iLst e) (gNm 0) tYes (fBl gList (aCons (fVar 0) aNil)) δ = some (gridO n (frG T), δ) := by
  refine (fComp_nm (cs := []) (List.range n) (rwT n T) (fun i => .nd ((List.range n).map fun j => .fz (frD (T i j)))) (ei_lst he) (by rw [List.length_range, sizeLine_eq]; omega) hb fun i _ => ?_).trans rfl
  have e2 : aCons (fVar 0) aNil [some (.fz (rwT n T i))] = some ([.fz (rwT n T i)], [some (.fz (rwT n T i))]) := rfl
  unfold fBl
  rw [e2, Option.bind_some]
  dsimp only
  rw [show OT.datas [OT.fz (rwT n T i)] = [rwT n T i] from by rw [datas_map]; show [(OT.fz _).data] = _; rw [OT.data_fz]]
  unfold rwT
  rw [gList_l, Option.bind_some, List.map_map]; rfl
theorem gl_own {n : Nat} {f : Nat → Nat → PyData} {δ : DEnv} {i : Nat} (h : δ[i]? = some (some (gridO n f))) : EvV (fBlS gLen (aCons (fOwn i) aNil)) δ (.int n) := (ev_len (ds := (List.range n).map fun i => .list ((List.range n).map fun j => f i j)) (ev_own h (gridO_data n f))).cast (by rw [List.length_map, List.length_range])
theorem forM_rows {n l : Nat} (hl : l < n) (f : Nat → Nat → PyData) (hf : ∀ i, i < n → flatD (f i 0) = true) {tb z3 : Option OT} : ∀ (m k : Nat) (z : Option OT), k + m = n →
    forLoopM 1 4 (fPut 4 (fFlat (fBin gIx (fOwn 4) (fC (.int 0)))) (fVar 2)) ((List.range k).map fun i => .nd ((List.range n).map fun j => .fz (if j = l then f i 0 else f i j))) ((List.range' k m).map fun i => .nd ((List.range n).map fun j => .fz (f i j))) [tb, none, some (.fz (.int l)), z3, z]
      = .nx [tb, some (gridO n fun i j => if j = l then f i 0 else f i j), some (.fz (.int l)), z3, if m = 0 then z else none]
  | 0, k, z, h => by
    obtain rfl : k = n := by omega
    rfl
  | m + 1, k, z, h => by
    rw [List.range'_succ, List.map_cons, forLoopM_cons]
    refine (if_pos (show (4 : Nat) < 5 by decide)).trans ?_
    have hk : k < n := by omega
    have d4 : (OT.nd ((List.range n).map fun j => OT.fz (f k j))).data = .list ((List.range n).map fun j => f k j) := by
      rw [OT.data_nd, List.map_map]
      exact congrArg PyData.list (List.map_congr_left fun j _ => OT.data_fz _)
    have e1 : EvV (fFlat (fBin gIx (fOwn 4) (fC (.int 0)))) [tb, none, some (.fz (.int l)), z3, some (.nd ((List.range n).map fun j => .fz (f k j)))] (f k 0) :=
      ev_flat (ev_ix (ev_own (i := 4) rfl d4) ev_c (by rw [gIx_l, show (0 : Int) = ((0 : Nat) : Int) from rfl, atI_of, List.getElem?_map, List.getElem?_range (by omega)]; rfl)) (hf k hk)
    have e2 := es_put (n := l) e1 (i := 4) (ts := (List.range n).map fun j => OT.fz (f k j)) rfl (ev_var (i := 2) (d := .int l) rfl) (by
      rw [List.length_map, List.length_range]
      unfold ixN
      rw [if_pos (by omega), if_pos (by omega)]; rfl)
    rw [show ([tb, none, some (OT.fz (.int l)), z3, z] : DEnv).set 4 (some (.nd ((List.range n).map fun j => .fz (f k j)))) = [tb, none, some (.fz (.int l)), z3, some (.nd ((List.range n).map fun j => .fz (f k j)))] from rfl, e2]
    rw [range_set]
    show forLoopM 1 4 _ (((List.range k).map fun i => OT.nd ((List.range n).map fun j => OT.fz (if j = l then f i 0 else f i j))) ++ [OT.nd ((List.range n).map fun i => if i = l then OT.fz (f k 0) else OT.fz (f k i))]) _ [tb, none, some (.fz (.int l)), z3, none] = _
    have := forM_rows hl f hf (tb := tb) (z3 := z3) m (k + 1) none (by omega)
    rw [List.range_succ, List.map_append] at this
    rw [show ((List.range n).map fun i => if i = l then OT.fz (f k 0) else OT.fz (f k i)) = (List.range n).map fun j => OT.fz (if j = l then f k 0 else f k j) from List.map_congr_left fun j _ => by split <;> rfl]
    refine this.trans ?_
    rw [if_neg (Nat.succ_ne_zero m)]
    split <;> rfl
theorem twinned_ok {n : Nat} (h0 : 1 ≤ n) (hn : n ≤ 10) {T : Nat → Nat → Rat} (G : GT n T) : ∃ T', Told F_law_twinned_1c55 [gridD n (frG T)] (gridD n (frG T')) ∧ GT n T' := by
  refine ⟨fun i j => T (tw0 (n - 1) i) (tw0 (n - 1) j), ?_, ?_⟩
  · refine told_of rfl <| rt_seq (es_setO (copy_ok hn (ev_var (i := 0) rfl) rfl)) <| rt_seq (es_set ((ev_sub (gl_own (i := 1) rfl) ev_c).cast (congrArg PyData.int (show (n : Int) - 1 = ((n - 1 : Nat) : Int) by omega)))) ?_
    refine rt_for (ds := rngD 0 n) (fun k δ => ∃ z, δ = [some (.fz (gridD n (frG T))), some (gridO n fun i j => if i = n - 1 ∧ j < k then frD (T 0 j) else frD (T i j)), some (.fz (.int ((n - 1 : Nat) : Int))), z, none]) (ei_ra (ea_cons (gl_own (i := 1) rfl) ea_nil) (by omega)) ⟨none, ?_⟩ (fun k d δ hd q => ?_) fun δ' q => ?_
    · show [_, some (gridO n (frG T)), _, _, _] = _
      rw [show gridO n (frG T) = gridO n (fun i j => if i = n - 1 ∧ j < 0 then frD (T 0 j) else frD (T i j)) from gridO_eq fun i j _ _ => by rw [if_neg (by omega)]; rfl]
    · obtain ⟨z, rfl⟩ := q
      obtain ⟨hk, rfl⟩ := rngD_get hd
      rw [Int.zero_add]
      have e1 : EvV (fFlat (fBin gIx (fBin gIx (fOwn 1) (fC (.int 0))) (fVar 3))) [some (.fz (gridD n (frG T))), some (gridO n fun i j => if i = n - 1 ∧ j < k then frD (T 0 j) else frD (T i j)), some (.fz (.int ((n - 1 : Nat) : Int))), some (.fz (.int (k : Int))), none] (frD (T 0 k)) := by
        refine ev_flat ((own_grid (s := 1) (i := 0) (j := k) rfl ev_c (by omega) (ev_var (i := 3) rfl) hk).cast ?_) rfl
        rw [if_neg (by omega)]
      refine ⟨_, _, rfl, .inl (put2_grid (i := 1) (a := n - 1) (b := k) e1 rfl (ev_var (i := 2) rfl) (by omega) (ev_var (i := 3) rfl) hk), some (.fz (.int (k : Int))), ?_⟩
      show [_, some (gridO n (upG _ (n - 1) k (frD (T 0 k)))), _, _, _] = _
      rw [show gridO n (upG (fun i j => if i = n - 1 ∧ j < k then frD (T 0 j) else frD (T i j)) (n - 1) k (frD (T 0 k))) = gridO n (fun i j => if i = n - 1 ∧ j < k + 1 then frD (T 0 j) else frD (T i j)) from gridO_eq fun i j _ _ => by
        unfold upG
        by_cases a : i = n - 1 ∧ j = k
        · rw [if_pos a, if_pos ⟨a.1, by omega⟩, a.2]
        · rw [if_neg a]
          dsimp only
          by_cases b : i = n - 1 ∧ j < k
          · rw [if_pos b, if_pos ⟨b.1, by omega⟩]
          · rw [if_neg b, if_neg (by omega)]]
    · obtain ⟨z, rfl⟩ := q
      rw [rngD_length]
      rw [show gridO n (fun i j => if i = n - 1 ∧ j < n then frD (T 0 j) else frD (T i j)) = gridO n (fun i j => frD (T (tw0 (n - 1) i) j)) from gridO_eq fun i j _ hj => by
        unfold tw0
        by_cases a : i = n - 1
        · rw [if_pos ⟨a, hj⟩, if_pos a]
        · rw [if_neg (fun z => a z.1), if_neg a]]
      have fm := forM_rows (n := n) (l := n - 1) (by omega) (fun i j => frD (T (tw0 (n - 1) i) j)) (fun _ _ => rfl) (tb := some (.fz (gridD n (frG T)))) (z3 := z) n 0 none (by omega)
      have e3 : fForM 1 4 (fPut 4 (fFlat (fBin gIx (fOwn 4) (fC (.int 0)))) (fVar 2)) [some (.fz (gridD n (frG T))), some (gridO n (fun i j => frD (T (tw0 (n - 1) i) j))), some (.fz (.int ((n - 1 : Nat) : Int))), z, none] = .nx [some (.fz (gridD n (frG T))), some (gridO n fun i j => if j = n - 1 then frD (T (tw0 (n - 1) i) 0) else frD (T (tw0 (n - 1) i) j)), some (.fz (.int ((n - 1 : Nat) : Int))), z, none] := by
        rw [List.range_eq_range'.symm] at fm
        refine Eq.trans ?_ (fm.trans ?_)
        · rfl
        · split <;> rfl
      refine rt_seq e3 (rt_O rfl ((gridO_data _ _).trans ?_))
      unfold gridD frG
      refine congrArg PyData.list (List.map_congr_left fun i _ => congrArg PyData.list (List.map_congr_left fun j _ => ?_))
      dsimp only
      unfold tw0
      split <;> rfl
  · have t : ∀ i, i < n → tw0 (n - 1) i < n := fun i hi => by unfold tw0; split <;> omega
    exact ⟨fun i j hi hj => G.sy _ _ (t i hi) (t j hj), fun i hi => G.zd _ (t i hi), fun i j hi hj => G.ds _ _ (t i hi) (t j hj)⟩
theorem es_put2 {i k k' : Nat} {e j j2 : FE} {δ : DEnv} {d : PyData} {ts us : List OT} (he : EvV e δ d) (hi : δ[i]? = some (some (.nd ts))) (hj : EvV j δ (.int (k : Int))) (hu : ts[k]? = some (.nd us)) (hk : EvV j2 δ (.int (k' : Int))) (hl : k' < us.length) :
    fPut2 i e j j2 δ = .nx (δ.set i (some (.nd (ts.set k (.nd (us.set k' (.fz d))))))) := by
  obtain ⟨_, e2, d2⟩ := he
  obtain ⟨_, e3, d3⟩ := hj
  obtain ⟨_, e4, d4⟩ := hk
  have ha : k < ts.length := (List.getElem?_eq_some_iff.mp hu).1
  unfold fPut2
  rw [wE_ap, e2, onO_some, hi]
  dsimp only
  rw [wE_ap, e3, onO_some, d3]
  dsimp only
  rw [ixN_of ha]
  dsimp only
  rw [hu]
  dsimp only
  rw [wE_ap, e4, onO_some, d4]
  dsimp only
  rw [ixN_of hl]
  dsimp only
  rw [d2]
theorem ne_nat {a b : FE} {δ : DEnv} {x y : Nat} {p : Bool} (ha : EvV a δ (.int x)) (hb : EvV b δ (.int y)) (h : (!decide (x = y)) = p) : EvT (tV (fBinS gNe a b)) δ p := et_V (ev_ne ha hb ((congrArg not (decide_eq_decide.mpr (by omega))).trans h))
noncomputable abbrev f71 : OT := .fz (.tuple [.int 7, .int 1])
theorem law_q_ok {q : Rat} (h : Dst q) : Told F_law_q_faf4 [frD q] (.str (mkS (qtx q))) := by
  have s : EvV (fBlS gStr (aCons (fBin gIx (fVar 0) (fC (.int 0))) aNil)) (startN 1 [frD q]) (.str (mkS (tx q.num))) := ev_blS (ea_cons (at0 rfl) ea_nil) (gStr_ok h.bn)
  by_cases c : q.den = 1
  · refine told_of rfl <| rt_first <| rt_if_t (et_V (ev_eq (at1 rfl) ev_c (decide_eq_true (by omega)))) (rt_ret (s.cast ?_))
    unfold qtx shw
    rw [if_pos (by rw [c]; rfl), List.append_nil]
  · have c' : ((q.den : Int)) ≠ 1 := fun z => c (Int.ofNat_inj.mp z)
    have l1 := qtx_len h
    unfold qtx shw at l1
    rw [if_neg c', List.length_append, List.length_cons] at l1
    dsimp only at l1
    refine told_of rfl <| rt_seq (es_if_f (et_V (ev_eq (at1 rfl) ev_c (decide_eq_false c'))) rfl) (rt_ret ((ev_binS (ev_binS s (ev_ch s_sl) (gCatS_ok (by show _ + 1 ≤ _; omega))) (ev_blS (ea_cons (at1 rfl) ea_nil) (gStr_ok h.bd)) (gCatS_ok (by rw [List.length_append]; show _ + 1 + _ ≤ _; omega))).cast ?_))
    unfold qtx
    rw [shw_ne c']
theorem written_ok {n : Nat} (hn : n ≤ 10) {T : Nat → Nat → Rat} (G : GT n T) : Told F_law_written_7103 [gridD n (frG T)] (.str (mkS (ttx n T))) := by
  refine told_of rfl <| rt_ret (ev_join (ps := (List.range n).map (rtx n T)) (ev_ch ch_1) ((ev_comp (cs := []) (List.range n) (rwT n T) (fun i => .str (mkS (rtx n T i))) (ei_lst (ev_var (i := 0) (d := gridD n (frG T)) rfl)) (by rw [List.length_range]; omega) rfl fun i hi => ev_rowtx hn G (List.mem_range.mp hi) law_q_ok (ev_var (i := 0) rfl)).cast (by rw [List.map_map]; rfl)) (Nat.le_trans (tab_sum hn G) (by decide)))
noncomputable def lw (ns : List Int) (n : Nat) (T : Nat → Nat → Rat) (z2 z4 z5 z6 z7 z8 : Option OT) : DEnv := [some (.fz (intsL ns)), some (.fz (.int n)), z2, some (.fz (gridD n (frG T))), z4, z5, z6, z7, z8]
theorem sh_fr (q : Rat) : Sh 1 (frD q) := layT_ints [q.num, (q.den : Int)]
theorem sh_rw (n : Nat) (T : Nat → Nat → Rat) (i : Nat) : Sh 2 (rwT n T i) := sh_list fun d m => by
  obtain ⟨j, _, rfl⟩ := List.mem_map.mp m
  exact sh_fr _
theorem sh_gr (n : Nat) (T : Nat → Nat → Rat) : Sh 3 (gridD n (frG T)) := sh_list fun d m => by
  obtain ⟨j, _, rfl⟩ := List.mem_map.mp m
  exact sh_rw n T j
theorem plain_fr (q : Rat) : plainD (frD q) = true := by unfold frD; rfl
theorem plain_rw (n : Nat) (T : Nat → Nat → Rat) (i : Nat) : plainD (rwT n T i) = true := plain_list fun d m => by
  obtain ⟨j, _, rfl⟩ := List.mem_map.mp m
  exact plain_fr _
theorem plain_gr (n : Nat) (T : Nat → Nat → Rat) : plainD (gridD n (frG T)) = true := plain_list fun d m => by
  obtain ⟨j, _, rfl⟩ := List.mem_map.mp m
  exact plain_rw n T j
theorem tail_ok (ns : List Int) {n : Nat} (h0 : 1 ≤ n) (hn : n ≤ 10) {T : Nat → Nat → Rat} (G : GT n T) {c : Int} (hc : F_law_cell_at_2443 [intsL ns, .int 2] = .ok (.fz (.int c))) {z2 : Option OT} :
    Rets (fSeq (wE (fCall F_law_written_7103 (aCons (fVar 3) aNil)) (kSet 4))
    (fSeq (wE (fComp 1 [] (iLst (fVar 3)) (gNm 0) tYes (fBl gList (aCons (fVar 0) aNil))) (kSet 5))
    (fSeq (wE (fCall F_show_table_8ecb (aCons (fVar 5) aNil)) (kSet 6))
    (fSeq (fIfS (tO (tNo (tD (fIsi "str" (fVar 6)))) (tO (tV (fBinS gNe (fVar 6) (fVar 4))) (tV (fBinS gNe (fVar 5) (fVar 3)))))
    (wE (fC (.bool false)) kRet)
    fNx)
    (fSeq (wE (fCall F_read_table_4013 (aCons (fVar 4) aNil)) (kSetO 7))
    (fSeq (fIfS (tNo (tD (fCall (F_law_alike_592f 6) (aCons (fOwn 7) (aCons (fVar 3) aNil)))))
    (wE (fC (.bool false)) kRet)
    fNx)
    (fSeq (wE (fBinS gMod (fCall F_law_cell_at_2443 (aCons (fVar 0) (aCons (fC (.int 2)) aNil))) (fVar 1)) (kSet 8))
    (fSeq (fAppIx 7 (fVar 8) (fTup (aCons (fC (.int 7)) (aCons (fC (.int 1)) aNil))))
    (fSeq (fPut2 7 (fTup (aCons (fC (.int 7)) (aCons (fC (.int 1)) aNil))) (fVar 8) (fC (.int 0)))
    (fSeq (fIfS (tV (fBinS gNe (fComp 1 [8, 7, 3] (iRa (aCons (fVar 1) aNil)) (gNm 0) (tAn (tV (fBinS gNe (fVar 0) (fVar 1))) (tV (fBinS gNe (fBin gIx (fOwn 2) (fVar 0)) (fBin gIx (fVar 3) (fVar 0))))) (fVar 0)) (fLst aNil)))
    (wE (fC (.bool false)) kRet)
    fNx)
    (fSeq (fAppend 7 (fLst aNil))
    (wE (fAnd (fCall (F_law_alike_592f 6) (aCons (fCall F_read_table_4013 (aCons (fVar 4) aNil)) (aCons (fVar 3) aNil))) (fBinS gEq (fCall F_show_table_8ecb (aCons (fVar 5) aNil)) (fVar 4))) kRet)))))))))))) (lw ns n T z2 none none none none none) (.bool true) := by
  have cp := ttx_cp G
  obtain ⟨rows, eR, R⟩ := read_table_ok h0 hn G
  have dt : (OT.nd rows).data = gridD n (frG T) := by rw [OT.data_nd, R.data]; rfl
  refine rt_seq (es_set (ev_call (ea_cons (ev_var (i := 3) rfl) ea_nil) (written_ok hn G))) ?_
  refine rt_seq (es_set ⟨_, copy_ok hn (ev_var (i := 3) rfl) rfl, gridO_data _ _⟩) ?_
  refine rt_seq (es_set (ev_call (ea_cons (ev_var (i := 5) rfl) ea_nil) (show_table_ok hn G))) ?_
  refine rt_seq (es_if_f (et_o (et_no (p := true) (et_Db (ev_isi (ev_var (i := 6) (d := .str (mkS (ttx n T))) rfl) rfl))) (et_o (et_V (ev_binS (ev_var (i := 6) rfl) (ev_var (i := 4) rfl) ((gNe_str cp cp).trans (by rw [decide_eq_true rfl]; rfl)))) (et_V (ev_binS (ev_var (i := 5) rfl) (ev_var (i := 3) rfl) (gNe_self (sh_gr n T) (plain_gr n T) (by decide)))))) rfl) ?_
  refine rt_seq (es_setO (o := .nd rows) (callO (ea_cons (ev_var (i := 4) rfl) ea_nil) eR)) ?_
  refine rt_seq (es_if_f (et_no (p := true) (et_Db (ev_call (ea_cons (ev_own (i := 7) rfl dt) (ea_cons (ev_var (i := 3) rfl) ea_nil)) (alike_tab n T)))) rfl) ?_
  refine rt_seq (es_set (ev_mod (cell_ev (i := 0) rfl hc) (ev_var (i := 1) rfl) (by omega))) ?_
  have a0 := fmod_nn (i := c) (j := (n : Int)) (by omega)
  have a1 := fmod_lt (i := c) (j := (n : Int)) (by omega)
  obtain ⟨a, ea⟩ := Int.eq_ofNat_of_zero_le a0
  rw [ea] at a1 ⊢
  have ha : a < n := by omega
  obtain ⟨us, eu, du⟩ := R.2 a ha
  have lu : us.length = n := by
    have := congrArg List.length du
    rwa [datas_len, List.length_map, List.length_range] at this
  refine rt_seq (es_appIx (k := a) rfl (ev_var (i := 8) rfl) eu (tw (a := 7) (b := 1)) (by omega)) ?_
  have al : a < rows.length := by rw [R.1]; exact ha
  refine rt_seq (δ' := lw ns n T z2 (some (.fz (.str (mkS (ttx n T))))) (some (.fz (gridD n (frG T)))) (some (.fz (.str (mkS (ttx n T))))) (some (.nd (rows.set a (.nd ((us ++ [f71]).set 0 f71))))) (some (.fz (.int (a : Int))))) ?_ ?_
  · refine (es_put2 (k := a) (k' := 0) (us := us ++ [f71]) (ts := rows.set a (.nd (us ++ [f71]))) (tw (a := 7) (b := 1)) rfl (ev_var (i := 8) rfl) (List.getElem?_set_self al) ev_c (by rw [List.length_append]; exact Nat.succ_pos _)).trans ?_
    rw [List.set_set, List.set_set]; rfl
  have kept : ∀ k, k < n → k ≠ a → ∃ x, atI ((rows.set a (.nd ((us ++ [f71]).set 0 f71))).map OT.data) (k : Int) = some x ∧ x = rwT n T k := fun k hk ne => by
    obtain ⟨r, e1, e2⟩ := R.2 k hk
    refine ⟨(OT.nd r).data, ?_, ?_⟩
    · rw [atI_of, List.getElem?_map, List.getElem?_set_ne (Ne.symm ne), e1]; rfl
    · rw [OT.data_nd, ← datas_map, e2]; rfl
  refine rt_seq (es_if_f (et_V (ev_binS (d := .bool false) (x := .list []) (y := .list []) ?_ (ev_lst ea_nil (by decide)) rfl)) rfl) ?_
  · refine (ev_compF (cs := [some (.fz (.int (a : Int))), some (.nd (rows.set a (.nd ((us ++ [f71]).set 0 f71)))), some (.fz (gridD n (frG T)))]) (List.range n) (fun i : Nat => PyData.int (0 + (i : Int))) (fun _ => false) (ei_ra (n := n) (ea_cons (ev_var (i := 1) rfl) ea_nil) (by omega)) (by rw [List.length_range]; omega) rfl (fun k hk => ?_) fun x _ z => nomatch z).cast ?_
    · rw [Int.zero_add]
      have hk := List.mem_range.mp hk
      by_cases e : k = a
      · exact et_an_f (ne_nat (x := k) (y := a) (ev_var (i := 0) rfl) (ev_var (i := 1) rfl) (by rw [decide_eq_true e]; rfl))
      · obtain ⟨x, e1, e2⟩ := kept k hk e
        subst e2
        refine et_an (ne_nat (x := k) (y := a) (ev_var (i := 0) rfl) (ev_var (i := 1) rfl) (by rw [decide_eq_false e]; rfl)) (et_V (ev_binS (ev_ix (ev_own (i := 2) rfl (OT.data_nd _)) (ev_var (i := 0) rfl) (by rw [gIx_l, e1]; rfl)) (ev_row (ev_var (i := 3) rfl) (ev_var (i := 0) rfl) hk) ?_))
        exact gNe_self (sh_rw n T k) (plain_rw n T k) (by decide)
    · rw [show ((List.range n).filter fun _ => false) = [] from List.filter_eq_nil_iff.mpr fun _ _ z => nomatch z]; rfl
  refine rt_seq (es_app (d := .list []) (ev_lst ea_nil (by decide)) rfl (by rw [List.length_set, R.1]; omega)) ?_
  exact rt_ret (ev_and_t (ev_call (ea_cons (ev_call (ea_cons (ev_var (i := 4) rfl) ea_nil) (.of eR dt)) (ea_cons (ev_var (i := 3) rfl) ea_nil)) (alike_tab n T)) (ev_binS (ev_call (ea_cons (ev_var (i := 5) rfl) ea_nil) (show_table_ok hn G)) (ev_var (i := 4) rfl) ((gEq_str cp cp).trans (by rw [decide_eq_true rfl]))))
theorem law_true (ns : List Int) (hl : ns.length ≤ 63) : F_law_6c47 [.list (ns.map PyData.int)] = .ok (.fz (.bool true)) := by
  show F_law_6c47 [intsL ns] = _
  obtain ⟨c0, e0⟩ := cell_at_ok ns (k := 0) (by decide)
  obtain ⟨c2, e2⟩ := cell_at_ok ns (k := 2) (by decide)
  have a0 := fmod_nn (i := c0) (j := 10) (by decide)
  have a1 := fmod_lt (i := c0) (j := 10) (by decide)
  obtain ⟨n, en⟩ := Int.eq_ofNat_of_zero_le (show 0 ≤ 1 + c0.fmod 10 by omega)
  have h0 : 1 ≤ n := by omega
  have hn : n ≤ 10 := by omega
  have hm : n * (n - 1) / 2 ≤ 45 := by
    have : n * (n - 1) ≤ 10 * 9 := Nat.mul_le_mul hn (by omega)
    omega
  obtain ⟨vs, eV, lV, hV⟩ := numbersF_ok ns (n * (n - 1) / 2) (by omega)
  have hw : ∀ v : Int, ∃ q : Rat, (v ∈ vs → Told F_law_wide_fc13 [.int v] (frD q) ∧ Dst q) := fun v => by
    by_cases m : v ∈ vs
    · obtain ⟨q, h⟩ := wide_ok (hV v m).1 (hV v m).2
      exact ⟨q, fun _ => h⟩
    · exact ⟨0, fun z => absurd z m⟩
  obtain ⟨f, hf⟩ := Classical.axiomOfChoice hw
  obtain ⟨T, eT, G⟩ := rows_ok hn (d := vs.map f) fun q m => by
    obtain ⟨v, hv, rfl⟩ := List.mem_map.mp m
    exact (hf v hv).2
  refine Told.ok (told_of rfl <| rt_seq (es_set ((ev_add ev_c (ev_mod (cell_ev (i := 0) rfl e0) ev_c (by decide))).cast (congrArg PyData.int en))) <| rt_seq (es_set ((ev_comp (cs := []) vs PyData.int (fun v => frD (f v)) (ei_lst (ev_call (ea_cons (ev_var (i := 0) rfl) (ea_cons ev_c (ea_cons ((ev_fdiv (ev_mulL (ev_var (i := 1) rfl) (ev_sub (ev_var (i := 1) rfl) ev_c) (by omega)) ev_c).cast (congrArg PyData.int ?_)) ea_nil))) eV)) (by omega) rfl fun v hv => ev_call (ea_cons (ev_var (i := 0) rfl) ea_nil) (hf v hv).1).cast (show _ = rowD (vs.map f) by unfold rowD; rw [List.map_map]; rfl))) <| rt_seq (es_set (ev_call (ea_cons (ev_var (i := 1) rfl) (ea_cons (ev_var (i := 2) rfl) ea_nil)) eT)) ?_)
  · exact half10 ⟨n, by omega⟩
  · by_cases c : (c0.fdiv 10).fmod 4 = 1
    · obtain ⟨T', eT', G'⟩ := twinned_ok h0 hn G
      exact rt_seq (es_if_t (et_V (ev_eq (ev_mod (ev_fdiv (cell_ev (i := 0) rfl e0) ev_c) ev_c (by decide)) ev_c (decide_eq_true c))) (es_set (ev_call (ea_cons (ev_var (i := 3) rfl) ea_nil) eT'))) (tail_ok ns h0 hn G' e2)
    · exact rt_seq (es_if_f (et_V (ev_eq (ev_mod (ev_fdiv (cell_ev (i := 0) rfl e0) ev_c) ev_c (by decide)) ev_c (decide_eq_false c))) rfl) (tail_ok ns h0 hn G e2)
end My
namespace L2
open PySem PySem.Spec PyProof.Rows
structure Ei (K : PySem.W.Frag) (x : Str) (st : Stmt) (f : Addr) (fd : FuncData) : Prop where
  a : PySem.W.nsIn K mainGlobals x = some (some (.ref f))
  F : Fun K x x st f fd
structure En (K : PySem.W.Frag) (mg : Str → Option Value) (x : Str) (st : Stmt) (ps : List Str) (f : Addr) (fd : FuncData) : Prop where
  F : Fun K x x st f fd
  b : Binds K fd ps []
  m : mg x = some (.ref f)
structure Ec (K : PySem.W.Frag) (mg : Str → Option Value) (x : Str) (f : Addr) : Prop where
  m : mg x = some (.ref f)
  a : ClsAt K x f
section
variable {K : PySem.W.Frag} {h : Heap} {mg : Str → Option Value} {x : Str} {st : Stmt} {f : Addr} {fd : FuncData}
theorem en0 (X : K.In h) (G : h.Ns mainGlobals mg) (q : Ei K x st f fd) {ps : List Str} (hb : ∀ (kV doc pm : Value) (an : Option Addr) (cdv ct : Value) (us : List Value), us.length = ps.length → bindArgs (PySem.W.fnOf x x (defArgs st) (defBody st) (defScope st) .none kV doc pm an cdv ct) ⟨us, []⟩ = pure (ps.zip us)) : En K mg x st ps f fd := ⟨q.F, q.F.binds hb, PySem.W.mg_of X G q.a⟩
noncomputable abbrev Bd (x : Str) (st : Stmt) (ps : List Str) (us : List Value) : Prop := ∀ (kV doc pm : Value) (an : Option Addr) (cdv ct : Value), bindArgs (PySem.W.fnOf x x (defArgs st) (defBody st) (defScope st) .none kV doc pm an cdv ct) ⟨us, []⟩ = pure (ps.zip us)
theorem l_c {us : List Value} {n : Nat} (h : us.length = n + 1) : ∃ u vs, us = u :: vs ∧ vs.length = n := by
  cases us with
  | nil => cases h
  | cons u vs => exact ⟨u, vs, rfl, Nat.succ.inj h⟩
theorem en1 (X : K.In h) (G : h.Ns mainGlobals mg) (q : Ei K x st f fd) {p0 : Str} (hb : ∀ v0, Bd x st [p0] [v0] := by exact fun _ _ _ _ _ _ _ => rfl) : En K mg x st [p0] f fd := en0 X G q fun a b c d e g us hl => by
  have h0 : us.length = 1 := hl
  obtain ⟨u0, us0, e0, h1⟩ := l_c h0
  cases List.eq_nil_of_length_eq_zero h1
  subst e0
  exact hb u0 a b c d e g
theorem en2 (X : K.In h) (G : h.Ns mainGlobals mg) (q : Ei K x st f fd) {p0 p1 : Str} (hb : ∀ v0 v1, Bd x st [p0, p1] [v0, v1] := by exact fun _ _ _ _ _ _ _ _ => rfl) : En K mg x st [p0, p1] f fd := en0 X G q fun a b c d e g us hl => by
  have h0 : us.length = 2 := hl
  obtain ⟨u0, us0, e0, h1⟩ := l_c h0
  obtain ⟨u1, us1, e1, h2⟩ := l_c h1
  cases List.eq_nil_of_length_eq_zero h2
  subst e1
  subst e0
  exact hb u0 u1 a b c d e g
theorem en3 (X : K.In h) (G : h.Ns mainGlobals mg) (q : Ei K x st f fd) {p0 p1 p2 : Str} (hb : ∀ v0 v1 v2, Bd x st [p0, p1, p2] [v0, v1, v2] := by exact fun _ _ _ _ _ _ _ _ _ => rfl) : En K mg x st [p0, p1, p2] f fd := en0 X G q fun a b c d e g us hl => by
  have h0 : us.length = 3 := hl
  obtain ⟨u0, us0, e0, h1⟩ := l_c h0
  obtain ⟨u1, us1, e1, h2⟩ := l_c h1
  obtain ⟨u2, us2, e2, h3⟩ := l_c h2
  cases List.eq_nil_of_length_eq_zero h3
  subst e2
  subst e1
  subst e0
  exact hb u0 u1 u2 a b c d e g
theorem ec (X : K.In h) (G : h.Ns mainGlobals mg) (a : PySem.W.nsIn K mainGlobals x = some (some (.ref f))) : Ec K mg x f := ⟨PySem.W.mg_of X G a, a⟩
end
theorem fsc {N P : List Str} {sc : Scope} (h1 : sc.kind = .function := by rfl) (h2 : sc.isCoroutine = false := by rfl) (h3 : sc.isGenerator = false := by rfl) (h4 : N.Nodup := by decide +kernel) (h5 : N.take P.length = P := by rfl) (h6 : ∀ x ∈ P, sc.names.lookup x = some .local ∨ sc.names.lookup x = some .cell := by decide +kernel) (h7 : ∀ y ∈ sc.names, y.2 ≠ .free := by decide +kernel) : FnScope N P sc := ⟨h1, h2, h3, h4, h5, h6, h7⟩
end L2
namespace L2
open PySem PySem.Spec PyProof.Rows
section
variable {X : Cx} {io : List Nat} {iter tg : Expr} {body : List Stmt} {m : MXt} {pos : Pos}
end
section
variable {X : Cx} {io : List Nat} {e : Expr} {st : Stmt} {ra : FA} {F : FD} {gg : FG} {u : FS}
end
end L2
namespace L2
open PySem PySem.Spec PyProof.Rows
section
variable {X : Cx} {io : List Nat} {st : Stmt} {sts ss ss' : List Stmt} {f g : FS} {e : Expr} {es : List Expr} {p c : Bool} {ta : FT} {pos : Pos} {ra : FA}
noncomputable abbrev BS (X : Cx) (io : List Nat) (st : Stmt) (f : FS) : Prop := MS X io st (oS f) ∧ XS X io st (xS X.K f)
noncomputable abbrev BSs (X : Cx) (io : List Nat) (sts : List Stmt) (f : FS) : Prop := MSs X io sts (oS f) ∧ XSs X io sts (xS X.K f)
end
section
variable {X : Cx} {io : List Nat} {e : Expr} {es : List Expr} {p c : Bool} {ra : FA} {pos pp : Pos} {k k' : Nat} {f : Addr} {fd : FuncData} {ps : List Str} {x : Str} {F : FD} {st : Stmt}
theorem xce (G : FnOk X.prog X.w X.K X.mg X.base CX0 k f fd ps (spD X.K (sD F))) (hr : Room k' X.A) (E : En X.K X.mg x st ps f fd) (ha : MA X io p c (e :: es) (o2 ra)) (hle : k ≤ k' := by decide) (hg : Gl X x := by rfl) (h1 : (x == ("__debug__" : Str)) = false := by decide) (h2 : starEach (e :: es) X.env = (false, eval e X.env) :: starEach es X.env := by rfl) (h3 : ((backTo pos (starEach es X.env)).any fun x => x.fst) = false := by rfl) : ME X io p c (.Call (.Name x pp) (e :: es) [] pos) (o2 (fCall F ra)) := xcl G (hr.mono hle) E.m E.F.kp E.b ha hg h1 h2 h3
end
section
variable {X : Cx} {io : List Nat} {p ci pt pe : Bool} {tg iter elt : Expr} {ifs : List Expr} {sc : Scope} {pos : Pos} {mi : MIt} {g : MGt} {mt : MTt} {me : MEt}
theorem m_cpA (own : List Str) (caps : List Nat) (N' : List Str) (hi : MI X io p ci tg iter mi)
    (hg : ∀ C cells s₂ H₂ fp, MG (compCx X N' sc C cells s₂ H₂ fp) (blkIo own.length caps) ci tg g) (ht : ∀ C cells s₂ H₂ fp, MIfs (compCx X N' sc C cells s₂ H₂ fp) (blkIo own.length caps) pt ifs mt) (he : ∀ C cells s₂ H₂ fp, ME (compCx X N' sc C cells s₂ H₂ fp) (blkIo own.length caps) pe true elt me)
    (S : CompScope X own caps N' sc := by exact ⟨rfl, by decide +kernel, rfl, by decide +kernel, rfl, rfl⟩) (hc : X.calm = true := by rfl) (nd : caps.Nodup := by decide) (hp : (pt && pe) = true := by rfl) (hs : ∀ x, foldedSetIterable iter X.env x = pure x := by intro _; rfl) : ME X io p true (.ListComp elt [⟨tg, iter, ifs, 0⟩] sc pos) (mComp own.length caps mi g mt me) := m_comp S hc nd hi hg ht he hp hs
end
end L2
namespace My
open PySem L2 PySem.Spec
noncomputable def top (i : Nat) : Stmt := PySem.Challenge.pw_farcuts_k78_tables_written_and_read.main.body.getD i (.Pass ⟨0, 0, 0, 0⟩)
noncomputable abbrev s_law_whole : Stmt := top 28
noncomputable abbrev s_law_alike : Stmt := top 37
noncomputable abbrev s_law_cell_at : Stmt := top 26
noncomputable abbrev s_law_digits : Stmt := top 27
noncomputable abbrev s_law_numbers : Stmt := top 32
noncomputable abbrev s_law_pairs : Stmt := top 31
noncomputable abbrev s_law_rows : Stmt := top 34
noncomputable abbrev s_law_twinned : Stmt := top 38
noncomputable abbrev s_law_common : Stmt := top 29
noncomputable abbrev s_law_fraction : Stmt := top 30
noncomputable abbrev s_law_wide : Stmt := top 33
noncomputable abbrev s_law_q : Stmt := top 35
noncomputable abbrev s_law_written : Stmt := top 36
noncomputable abbrev s_check_text : Stmt := top 23
noncomputable abbrev s_is_point_count : Stmt := top 10
noncomputable abbrev s_is_alike_both_ways : Stmt := top 14
noncomputable abbrev s_greatest_divisor : Stmt := top 5
noncomputable abbrev s_is_whole : Stmt := top 4
noncomputable abbrev s_is_fraction : Stmt := top 6
noncomputable abbrev s_is_distance : Stmt := top 12
noncomputable abbrev s_is_row : Stmt := top 13
noncomputable abbrev s_is_table : Stmt := top 15
noncomputable abbrev s_is_number : Stmt := top 20
noncomputable abbrev s_read_number : Stmt := top 21
noncomputable abbrev s_show_fraction : Stmt := top 7
noncomputable abbrev s_read_fraction : Stmt := top 22
noncomputable abbrev s_read_table : Stmt := top 24
noncomputable abbrev s_show_table : Stmt := top 19
noncomputable abbrev s_law : Stmt := top 39
set_option genInjectivity false in
set_option genSizeOfSpec false in
structure Txt (K : PySem.W.Frag) (mg : Str → Option Value) (f : Nat → Addr) (fd : Nat → FuncData) (cls : Nat → Addr) : Prop where
  e_law_whole : En K mg "_law_whole" s_law_whole ["found"] (f 0) (fd 0)
  e_law_alike : En K mg "_law_alike" s_law_alike ["found", "due"] (f 1) (fd 1)
  e_law_cell_at : En K mg "_law_cell_at" s_law_cell_at ["script", "k"] (f 2) (fd 2)
  e_law_digits : En K mg "_law_digits" s_law_digits ["cell", "many", "top"] (f 3) (fd 3)
  e_law_numbers : En K mg "_law_numbers" s_law_numbers ["script", "at", "many"] (f 4) (fd 4)
  e_law_pairs : En K mg "_law_pairs" s_law_pairs ["n"] (f 5) (fd 5)
  e_law_rows : En K mg "_law_rows" s_law_rows ["n", "distances"] (f 6) (fd 6)
  e_law_twinned : En K mg "_law_twinned" s_law_twinned ["table"] (f 7) (fd 7)
  e_law_common : En K mg "_law_common" s_law_common ["one", "other"] (f 8) (fd 8)
  e_law_fraction : En K mg "_law_fraction" s_law_fraction ["top", "bottom"] (f 9) (fd 9)
  e_law_wide : En K mg "_law_wide" s_law_wide ["number"] (f 10) (fd 10)
  e_law_q : En K mg "_law_q" s_law_q ["q"] (f 11) (fd 11)
  e_law_written : En K mg "_law_written" s_law_written ["table"] (f 12) (fd 12)
  e_check_text : En K mg "check_text" s_check_text ["text"] (f 13) (fd 13)
  e_is_point_count : En K mg "is_point_count" s_is_point_count ["n"] (f 14) (fd 14)
  e_is_alike_both_ways : En K mg "is_alike_both_ways" s_is_alike_both_ways ["rows"] (f 15) (fd 15)
  e_greatest_divisor : En K mg "greatest_divisor" s_greatest_divisor ["a", "b"] (f 16) (fd 16)
  e_is_whole : En K mg "is_whole" s_is_whole ["thing"] (f 17) (fd 17)
  e_is_fraction : En K mg "is_fraction" s_is_fraction ["thing"] (f 18) (fd 18)
  e_is_distance : En K mg "is_distance" s_is_distance ["thing"] (f 19) (fd 19)
  e_is_row : En K mg "is_row" s_is_row ["thing", "n"] (f 20) (fd 20)
  e_is_table : En K mg "is_table" s_is_table ["thing"] (f 21) (fd 21)
  e_is_number : En K mg "is_number" s_is_number ["word"] (f 22) (fd 22)
  e_read_number : En K mg "read_number" s_read_number ["word"] (f 23) (fd 23)
  e_show_fraction : En K mg "show_fraction" s_show_fraction ["q"] (f 24) (fd 24)
  e_read_fraction : En K mg "read_fraction" s_read_fraction ["word"] (f 25) (fd 25)
  e_read_table : En K mg "read_table" s_read_table ["text"] (f 26) (fd 26)
  e_show_table : En K mg "show_table" s_show_table ["table"] (f 27) (fd 27)
  e_law : En K mg "law" s_law ["script"] (f 28) (fd 28)
  g_FIGURES : ∃ t, mg "FIGURES" = some (.str "0123456789" t)
  g_MOST_FIGURES : ∃ t, mg "MOST_FIGURES" = some (.int 40 t)
  g_MOST_POINTS : ∃ t, mg "MOST_POINTS" = some (.int 10 t)
  z_abs : mg "abs" = none
  z_bool : mg "bool" = none
  z_int : mg "int" = none
  z_isinstance : mg "isinstance" = none
  z_len : mg "len" = none
  z_list : mg "list" = none
  z_range : mg "range" = none
  z_str : mg "str" = none
  z_tuple : mg "tuple" = none
  z_zip : mg "zip" = none
  c_NoText : Ec K mg "NoText" (cls 0)
  x_NoText : ExCls K (cls 0)
  r_NoText : RsCls K (cls 0)
section
variable {P : Program} {w : World} {K : PySem.W.Frag} {mg : Str → Option Value} {base : Heap}
theorem sc_law_whole : FnScope ["found"] ["found"] (defScope s_law_whole) := fsc
theorem ok_law_whole {f : Nat → Addr} {fd : Nat → FuncData} {cls : Nat → Addr} (T : Txt K mg f fd cls) : FnOk P w K mg base CX0 1 (f 0) (fd 0) ["found"] (spD K (sD F_law_whole_13de)) := by
  refine fn_okD T.e_law_whole.F sc_law_whole (S := S_law_whole_13de) rfl rfl (fun cdv A outer s H E hr => ?_)
  exact (mss_one (xrt (fe_andV (m_and (fe_isi (m_isi (by decide) (by rfl) T.z_isinstance L2.B.boot_isinstance (by rfl) T.z_int L2.B.boot_int (xv 0))) (m_one (fe_notV (m_not (fe_isi (m_isi (by decide) (by rfl) T.z_isinstance L2.B.boot_isinstance (by rfl) T.z_bool L2.B.boot_bool (xv 0))))))))))
theorem sc_law_alike : FnScope ["found", "due", "one", "other"] ["found", "due"] (defScope s_law_alike) := fsc
theorem ok_law_alike_at {f : Nat → Addr} {fd : Nat → FuncData} {cls : Nat → Addr} (T : Txt K mg f fd cls) : ∀ k, FnOk P w K mg base CX0 (2 + k) (f 1) (fd 1) ["found", "due"] (spD K (sD (F_law_alike_592f k)))
  | 0 => fn_none fun ds k h => by obtain ⟨r, h, _⟩ := h; cases h
  | k + 1 => by
    have G_rec := ok_law_alike_at T k
    have G_law_whole := ok_law_whole (P := P) (w := w) (base := base) T
    refine fn_okD T.e_law_alike.F sc_law_alike (S := S_law_alike_592f (F_law_alike_592f k)) rfl rfl (fun cdv A outer s H E hr => ?_)
    have hu := hr.units
    exact (fs_seq (mss_cons (fs_if (ms_if (ft_tru (mt_tru (fe_isi (m_isi (by decide) (by rfl) T.z_isinstance L2.B.boot_isinstance (by rfl) T.z_bool L2.B.boot_bool (fe_var (mv 1)))) (fun _ => rfl))) (mss_one (fs_ret (ms_ret (fe_andV (m_and (fe_isi (m_isi (by decide) (by rfl) T.z_isinstance L2.B.boot_isinstance (by rfl) T.z_bool L2.B.boot_bool (fe_var (mv 0)))) (m_one (fe_binS b_eq (m_cmp (op_eqA hu) p2_eq (fe_var (mv 0)) (fe_var (mv 1)) (hm := (nomark _)))))))))) (fss_nil mss_nil)))
      (fs_seq (mss_cons (fs_if (ms_if (ft_tru (mt_tru (fe_isi (m_isi (by decide) (by rfl) T.z_isinstance L2.B.boot_isinstance (by rfl) T.z_int L2.B.boot_int (fe_var (mv 1)))) (fun _ => rfl))) (mss_one (fs_ret (ms_ret (fe_andV (m_and (fe_call (m_call G_law_whole (hr.mono (Nat.le_trans (by decide) (Nat.le_add_right 2 k))) (by rfl) T.e_law_whole.m T.e_law_whole.F.kp T.e_law_whole.b pass0 (fa_cons2 (fe_var (mv 0)) (fa_nil ma_nil)))) (m_one (fe_binS b_eq (m_cmp (op_eqA hu) p2_eq (fe_var (mv 0)) (fe_var (mv 1)) (hm := (nomark _)))))))))) (fss_nil mss_nil)))
      (fs_seq (mss_cons (fs_if (ms_if (ft_tru (mt_tru (fe_isi (m_isi (by decide) (by rfl) T.z_isinstance L2.B.boot_isinstance (by rfl) T.z_str L2.B.boot_str (fe_var (mv 1)))) (fun _ => rfl))) (mss_one (fs_ret (ms_ret (fe_andV (m_and (fe_isi (m_isi (by decide) (by rfl) T.z_isinstance L2.B.boot_isinstance (by rfl) T.z_str L2.B.boot_str (fe_var (mv 0)))) (m_one (fe_binS b_eq (m_cmp (op_eqA hu) p2_eq (fe_var (mv 0)) (fe_var (mv 1)) (hm := (nomark _)))))))))) (fss_nil mss_nil)))
      (fs_seq (mss_cons (fs_if (ms_if (ft_cmp b_is (mt_cmp op_isN p2_isN (fe_var (mv 1)) (fe_c mc_non) (hm := (nomark _)))) (mss_one (fs_ret (ms_ret (fe_binS b_is (m_cmp op_isN p2_isN (fe_var (mv 0)) (fe_c mc_non) (hm := (nomark _))))))) (fss_nil mss_nil)))
      (fs_seq (mss_cons (fs_if (ms_if (MW.mt (ft_or (mw_or (ft_cmp b_ne (mt_cmp (op_neA hu) p2_ne (fe_isi (m_isi (by decide) (by rfl) T.z_isinstance L2.B.boot_isinstance (by rfl) T.z_tuple L2.B.boot_tuple (fe_var (mv 1)))) (fe_isi (m_isi (by decide) (by rfl) T.z_isinstance L2.B.boot_isinstance (by rfl) T.z_tuple L2.B.boot_tuple (fe_var (mv 0)))) (hm := (nomark _)))) (mw_or1 (ft_cmp b_ne (mt_cmp (op_neA hu) p2_ne (fe_isi (m_isi (by decide) (by rfl) T.z_isinstance L2.B.boot_isinstance (by rfl) T.z_list L2.B.boot_list (fe_var (mv 1)))) (fe_isi (m_isi (by decide) (by rfl) T.z_isinstance L2.B.boot_isinstance (by rfl) T.z_list L2.B.boot_list (fe_var (mv 0)))) (hm := (nomark _)))))))) (mss_one (fs_ret (ms_ret (fe_c mc_bl)))) (fss_nil mss_nil)))
      (fs_seq (mss_cons (fs_if (ms_if (ft_cmp b_ne (mt_cmp (op_neA hu) p2_ne (fe_blS b_len (m_blS pn_len (call_lenK rfl) (by rfl) T.z_len L2.B.boot_len (fa_cons2 (fe_var (mv 0)) (fa_nil ma_nil)))) (fe_blS b_len (m_blS pn_len (call_lenK rfl) (by rfl) T.z_len L2.B.boot_len (fa_cons2 (fe_var (mv 1)) (fa_nil ma_nil)))) (hm := (nomark _)))) (mss_one (fs_ret (ms_ret (fe_c mc_bl)))) (fss_nil mss_nil)))
      (fs_seq (mss_cons (fs_for (ms_for PassesOwn.never rfl (fi_zipB (mi_zipB (by rfl) T.z_zip L2.B.boot_zip (fa_cons2 (fe_var (mv 0)) (fa_cons2 (fe_var (mv 1)) (fa_nil ma_nil))))) (fg_tup (mg_tup (n := 2) (by rfl) (fgs_cons (mgs_cons (fg_name (mg_name (i := 2) sc_law_alike.nd)) (fgs_cons (mgs_cons (fg_name (mg_name (i := 3) sc_law_alike.nd)) (fgs_nil mgs_nil)))))))
      (mss_one (fs_if (ms_if (ft_not (mt_not (ft_tru (mt_tru (fe_call (m_call G_rec hr (by rfl) T.e_law_alike.m T.e_law_alike.F.kp T.e_law_alike.b pass0 (fa_cons2 (fe_var (mv 2)) (fa_cons2 (fe_var (mv 3)) (fa_nil ma_nil))))) (fun _ => rfl))))) (mss_one (fs_ret (ms_ret (fe_c mc_bl)))) (fss_nil mss_nil))))))
      (mss_one (fs_ret (ms_ret (fe_c mc_bl))))))))))))))))))
theorem ok_law_alike {f : Nat → Addr} {fd : Nat → FuncData} {cls : Nat → Addr} (T : Txt K mg f fd cls) : FnOk P w K mg base CX0 8 (f 1) (fd 1) ["found", "due"] (spD K (sD (F_law_alike_592f 6))) := ok_law_alike_at T 6
theorem sc_law_cell_at : FnScope ["script", "k"] ["script", "k"] (defScope s_law_cell_at) := fsc
theorem ok_law_cell_at {f : Nat → Addr} {fd : Nat → FuncData} {cls : Nat → Addr} (T : Txt K mg f fd cls) : FnOk P w K mg base CX0 1 (f 2) (fd 2) ["script", "k"] (spD K (sD F_law_cell_at_2443)) := by
  refine fn_okD T.e_law_cell_at.F sc_law_cell_at (S := S_law_cell_at_2443) rfl rfl (fun cdv A outer s H E hr => ?_)
  exact (xsq (xif (xlt (xv 1) (xln T.z_len (xa1 (xv 0)))) (mss_one (xrt (xix (xv 0) (xv 1)))) xnl) (mss_one (xrt xci)))
theorem sc_law_digits : FnScope ["cell", "many", "top", "found", "rest", "k", "stir"] ["cell", "many", "top"] (defScope s_law_digits) := fsc
theorem ok_law_digits {f : Nat → Addr} {fd : Nat → FuncData} {cls : Nat → Addr} (T : Txt K mg f fd cls) : FnOk P w K mg base CX0 1 (f 3) (fd 3) ["cell", "many", "top"] (spD K (sD F_law_digits_a91d)) := by
  refine fn_okD T.e_law_digits.F sc_law_digits (S := S_law_digits_a91d) rfl rfl (fun cdv A outer s H E hr => ?_)
  exact (xsq (xso 3 sc_law_digits.nd (xls xa0)) (xsq (xst 4 sc_law_digits.nd (xv 0)) (xsq (xfr PassesOwn.never rfl (fi_r1 (mi_range1 (by rfl) T.z_range (xa1 (xv 1)))) (xg 5 sc_law_digits.nd) (xsq (xst 6 sc_law_digits.nd (xmod (xmul (xadd (xadd (xv 0) (xmul xci (xv 5))) xci) xci) xci)) (xsq (xst 6 sc_law_digits.nd (xmod (xmul (xv 6) (xv 6)) xci)) (xsq (xst 6 sc_law_digits.nd (xfdv (xmod (xmul (xadd (xv 6) (xmul xci (xadd (xv 5) xci))) xci) xci) xci)) (xsq (xif (xge (xv 0) (xpow xci xci)) (mss_one (xst 6 sc_law_digits.nd (xv 4))) xnl) (xsq (fs_append (ms_append 3 (xmod (xv 6) (xv 2)))) (mss_one (xst 4 sc_law_digits.nd (xfdv (xv 4) (xv 2)))))))))) (mss_one (fs_retO (ms_retO 3))))))
theorem sc_law_numbers : FnScope ["script", "at", "many", "found"] ["script", "at", "many"] (defScope s_law_numbers) := fsc
theorem ok_law_numbers {f : Nat → Addr} {fd : Nat → FuncData} {cls : Nat → Addr} (T : Txt K mg f fd cls) : FnOk P w K mg base CX0 2 (f 4) (fd 4) ["script", "at", "many"] (spD K (sD F_law_numbers_f145)) := by
  have G_law_cell_at := ok_law_cell_at (P := P) (w := w) (base := base) T
  have G_law_digits := ok_law_digits (P := P) (w := w) (base := base) T
  refine fn_okD T.e_law_numbers.F sc_law_numbers (S := S_law_numbers_f145) rfl rfl (fun cdv A outer s H E hr => ?_)
  exact (xsq (fs_setc (ms_setcomp (i := 3) (own := ["cell"]) (caps := []) (N' := ["cell"]) false sc_law_numbers.nd rfl (Or.inl rfl) (by exact ⟨rfl, by decide +kernel, rfl, by decide +kernel, rfl, rfl⟩) (by rfl) (by decide) (xil (fe_sl (m_slL (xv 0) (fo_some (mo_some (xv 1))) (fo_some (mo_some (xadd (xv 1) (xv 2))))))) (fun _ _ _ _ _ => (xg 0 (by show List.Nodup (["cell"] : List Str) ; decide +kernel))) (fun _ _ _ _ _ => (fif_nil mif_nil)) (fun _ _ _ _ _ => (xmod (xv 0) (xpow xci xci))))) (mss_one (xrt (fe_as (fe_bin b_cat (m_op (op_catR rfl) p2_cat (xv 3) (xce G_law_digits hr T.e_law_digits (fa_cons2 (xce G_law_cell_at hr T.e_law_cell_at (fa_cons2 (xv 0) (xa1 xci))) (fa_cons2 (xsub (xv 2) (xln T.z_len (xa1 (xv 3)))) (xa1 (xpow xci xci)))))))))))
theorem sc_law_pairs : FnScope ["n", "found", "one", "other"] ["n"] (defScope s_law_pairs) := fsc
theorem ok_law_pairs {f : Nat → Addr} {fd : Nat → FuncData} {cls : Nat → Addr} (T : Txt K mg f fd cls) : FnOk P w K mg base CX0 1 (f 5) (fd 5) ["n"] (spD K (sD F_law_pairs_377a)) := by
  refine fn_okD T.e_law_pairs.F sc_law_pairs (S := S_law_pairs_377a) rfl rfl (fun cdv A outer s H E hr => ?_)
  exact (xsq (xso 1 sc_law_pairs.nd (xls xa0)) (xsq (xfr PassesOwn.never rfl (fi_r1 (mi_range1 (by rfl) T.z_range (xa1 (xv 0)))) (xg 2 sc_law_pairs.nd) (mss_one (xfr PassesOwn.never rfl (fi_r2 (mi_range2 (by rfl) T.z_range (fa_cons2 (xadd (xv 2) xci) (xa1 (xv 0))))) (xg 3 sc_law_pairs.nd) (mss_one (fs_append (ms_append 1 (xtp (fa_cons2 (xv 2) (xa1 (xv 3)))))))))) (mss_one (fs_retO (ms_retO 1)))))
theorem sc_law_rows : FnScope ["n", "distances", "rows", "q", "one", "other"] ["n", "distances"] (defScope s_law_rows) := fsc
theorem ok_law_rows {f : Nat → Addr} {fd : Nat → FuncData} {cls : Nat → Addr} (T : Txt K mg f fd cls) : FnOk P w K mg base CX0 2 (f 6) (fd 6) ["n", "distances"] (spD K (sD F_law_rows_44b9)) := by
  have G_law_pairs := ok_law_pairs (P := P) (w := w) (base := base) T
  refine fn_okD T.e_law_rows.F sc_law_rows (S := S_law_rows_44b9) rfl rfl (fun cdv A outer s H E hr => ?_)
  exact (xsq (fs_setcO (ms_setcomp (i := 2) (own := ["one"]) (caps := [0]) (N' := ["one", "n"]) true sc_law_rows.nd rfl (Or.inl rfl) (by exact ⟨rfl, by decide +kernel, rfl, by decide +kernel, rfl, rfl⟩) (by rfl) (by decide) (fi_r1 (mi_range1 (by rfl) T.z_range (xa1 (xv 0)))) (fun _ _ _ _ _ => (xg 0 (by show List.Nodup (["one", "n"] : List Str) ; decide +kernel))) (fun _ _ _ _ _ => (fif_nil mif_nil)) (fun _ _ _ _ _ => (fe_comp (m_cpA ["other"] [] ["other"] (fi_r1 (mi_range1 (by rfl) T.z_range (xa1 (xv 1)))) (fun _ _ _ _ _ => (xg 0 (by show List.Nodup (["other"] : List Str) ; decide +kernel))) (fun _ _ _ _ _ => (fif_nil mif_nil)) (fun _ _ _ _ _ => (xtp (fa_cons2 xci (xa1 xci))))))))) (xsq (xfr PassesOwn.never rfl (fi_zipB (mi_zipB (by rfl) T.z_zip L2.B.boot_zip (fa_cons2 (xv 1) (xa1 (xce G_law_pairs hr T.e_law_pairs (xa1 (xv 0))))))) (xg2 rfl (xg 3 sc_law_rows.nd) (xg2 rfl (xg 4 sc_law_rows.nd) (xg 5 sc_law_rows.nd))) (xsq (fs_put2 (ms_put2 2 (xv 3) (xv 4) (xv 5) (fun _ _ => rfl))) (mss_one (fs_put2 (ms_put2 2 (xv 3) (xv 5) (xv 4) (fun _ _ => rfl)))))) (mss_one (fs_retO (ms_retO 2)))))
theorem sc_law_twinned : FnScope ["table", "found", "last", "k", "row"] ["table"] (defScope s_law_twinned) := fsc
theorem ok_law_twinned {f : Nat → Addr} {fd : Nat → FuncData} {cls : Nat → Addr} (T : Txt K mg f fd cls) : FnOk P w K mg base CX0 1 (f 7) (fd 7) ["table"] (spD K (sD F_law_twinned_1c55)) := by
  refine fn_okD T.e_law_twinned.F sc_law_twinned (S := S_law_twinned_1c55) rfl rfl (fun cdv A outer s H E hr => ?_)
  exact (xsq (fs_setcO (ms_setcomp (i := 1) (own := ["row"]) (caps := []) (N' := ["row"]) true sc_law_twinned.nd rfl (Or.inl rfl) (by exact ⟨rfl, by decide +kernel, rfl, by decide +kernel, rfl, rfl⟩) (by rfl) (by decide) (xil (xv 0)) (fun _ _ _ _ _ => (xg 0 (by show List.Nodup (["row"] : List Str) ; decide +kernel))) (fun _ _ _ _ _ => (fif_nil mif_nil)) (fun _ _ _ _ _ => (fe_bl b_list (m_ty pn_list (call_listK rfl) (by rfl) T.z_list L2.B.boot_list (xa1 (xv 0))))))) (xsq (xst 2 sc_law_twinned.nd (xsub (xln T.z_len (xa1 (xo 1))) xci)) (xsq (xfr PassesOwn.never rfl (fi_r1 (mi_range1 (by rfl) T.z_range (xa1 (xln T.z_len (xa1 (xo 1)))))) (xg 3 sc_law_twinned.nd) (mss_one (fs_put2 (ms_put2 1 (fe_flat (m_flat (xix (xix (xo 1) xci) (xv 3)))) (xv 2) (xv 3) (fun _ _ => rfl))))) (xsq (fs_forM (ms_forM 1 4 PassesOwn.never rfl sc_law_twinned.nd (mss_one (fs_put (ms_put 4 (fe_flat (m_flat (xix (xo 4) xci))) (xv 2)))) rfl rfl (by decide) (Or.inl rfl))) (mss_one (fs_retO (ms_retO 1)))))))
theorem sc_law_common : FnScope ["one", "other"] ["one", "other"] (defScope s_law_common) := fsc
theorem ok_law_common {f : Nat → Addr} {fd : Nat → FuncData} {cls : Nat → Addr} (T : Txt K mg f fd cls) : FnOk P w K mg base CX0 1 (f 8) (fd 8) ["one", "other"] (spD K (sD F_law_common_eeef)) := by
  refine fn_okD T.e_law_common.F sc_law_common (S := S_law_common_eeef) rfl rfl (fun cdv A outer s H E hr => ?_)
  have hu := hr.units
  exact (xsq (fs_while (ms_while PassesOwn.never (xne hu (xv 1) xci) (mss_one (fs_par (ms_par rfl sc_law_common.nd rfl rfl (by decide) rfl rfl (fa_cons2 (xv 1) (xa1 (xmod (xv 0) (xv 1))))))))) (mss_one (xrt (fe_blS b_abs (m_blS pn_abs call_abs (by rfl) T.z_abs L2.B.boot_abs (xa1 (xv 0)))))))
theorem sc_law_fraction : FnScope ["top", "bottom", "by"] ["top", "bottom"] (defScope s_law_fraction) := fsc
theorem ok_law_fraction {f : Nat → Addr} {fd : Nat → FuncData} {cls : Nat → Addr} (T : Txt K mg f fd cls) : FnOk P w K mg base CX0 2 (f 9) (fd 9) ["top", "bottom"] (spD K (sD F_law_fraction_419d)) := by
  have G_law_common := ok_law_common (P := P) (w := w) (base := base) T
  refine fn_okD T.e_law_fraction.F sc_law_fraction (S := S_law_fraction_419d) rfl rfl (fun cdv A outer s H E hr => ?_)
  exact (xsq (xst 2 sc_law_fraction.nd (xce G_law_common hr T.e_law_common (fa_cons2 (xv 0) (xa1 (xv 1))))) (mss_one (xrt (xtp (fa_cons2 (xfdv (xv 0) (xv 2)) (xa1 (xfdv (xv 1) (xv 2))))))))
theorem sc_law_wide : FnScope ["number", "way"] ["number"] (defScope s_law_wide) := fsc
theorem ok_law_wide {f : Nat → Addr} {fd : Nat → FuncData} {cls : Nat → Addr} (T : Txt K mg f fd cls) : FnOk P w K mg base CX0 3 (f 10) (fd 10) ["number"] (spD K (sD F_law_wide_fc13)) := by
  have G_law_fraction := ok_law_fraction (P := P) (w := w) (base := base) T
  refine fn_okD T.e_law_wide.F sc_law_wide (S := S_law_wide_fc13) rfl rfl (fun cdv A outer s H E hr => ?_)
  have hu := hr.units
  exact (xsq (xst 1 sc_law_wide.nd (xmod (xv 0) xci)) (xsq (xst 0 sc_law_wide.nd (xfdv (xv 0) xci)) (xsq (xif (xeq hu (xv 1) xci) (mss_one (xrt (xtp (fa_cons2 xci (xa1 xci))))) xnl) (xsq (xif (xlt (xv 1) xci) (mss_one (xrt (xtp (fa_cons2 (xmod (xv 0) xci) (xa1 xci))))) xnl) (xsq (xif (xlt (xv 1) xci) (mss_one (xrt (xce G_law_fraction hr T.e_law_fraction (fa_cons2 (xmod (xv 0) xci) (xa1 (xadd xci (xmod (xfdv (xv 0) xci) xci))))))) xnl) (xsq (xif (xeq hu (xv 1) xci) (mss_one (xrt (xtp (fa_cons2 (xmod (xpow (xv 0) xci) (xpow xci xci)) (xa1 xci))))) xnl) (mss_one (xrt (xce G_law_fraction hr T.e_law_fraction (fa_cons2 (xmod (xpow (xv 0) xci) (xpow xci xci)) (xa1 (xadd xci (xmod (xfdv (xpow (xv 0) xci) xci) (xsub (xpow xci xci) xci))))))))))))))
theorem sc_law_q : FnScope ["q"] ["q"] (defScope s_law_q) := fsc
theorem ok_law_q {f : Nat → Addr} {fd : Nat → FuncData} {cls : Nat → Addr} (T : Txt K mg f fd cls) : FnOk P w K mg base CX0 1 (f 11) (fd 11) ["q"] (spD K (sD F_law_q_faf4)) := by
  refine fn_okD T.e_law_q.F sc_law_q (S := S_law_q_faf4) rfl rfl (fun cdv A outer s H E hr => ?_)
  have hu := hr.units
  exact (xsq (xif (xeq hu (xix (xv 0) xci) xci) (mss_one (xrt (fe_blS b_str (m_tyS pn_str call_str_int (by rfl) T.z_str L2.B.boot_str (xa1 (xix (xv 0) xci)))))) xnl) (mss_one (xrt (fe_binS b_catS (m_opS op_add_str p2_catS (fe_binS b_catS (m_opS op_add_str p2_catS (fe_blS b_str (m_tyS pn_str call_str_int (by rfl) T.z_str L2.B.boot_str (xa1 (xix (xv 0) xci)))) (fe_c mc_str))) (fe_blS b_str (m_tyS pn_str call_str_int (by rfl) T.z_str L2.B.boot_str (xa1 (xix (xv 0) xci)))))))))
theorem sc_law_written : FnScope ["table"] ["table"] (defScope s_law_written) := fsc
theorem ok_law_written {f : Nat → Addr} {fd : Nat → FuncData} {cls : Nat → Addr} (T : Txt K mg f fd cls) : FnOk P w K mg base CX0 2 (f 12) (fd 12) ["table"] (spD K (sD F_law_written_7103)) := by
  have G_law_q := ok_law_q (P := P) (w := w) (base := base) T
  refine fn_okD T.e_law_written.F sc_law_written (S := S_law_written_7103) rfl rfl (fun cdv A outer s H E hr => ?_)
  exact (mss_one (xrt (fe_mtS (m_mtS pm_join F.slot_str_join F.type_str_join (mt_join rfl) (fe_c mc_str) (xa1 (fe_comp (m_cpA ["row"] [] ["row"] (xil (xv 0)) (fun _ _ _ _ _ => (xg 0 (by show List.Nodup (["row"] : List Str) ; decide +kernel))) (fun _ _ _ _ _ => (fif_nil mif_nil)) (fun _ _ _ _ _ => (fe_mtS (m_mtS pm_join F.slot_str_join F.type_str_join (mt_join rfl) (fe_c mc_str) (xa1 (fe_comp (m_cpA ["q"] [] ["q"] (xil (xv 0)) (fun _ _ _ _ _ => (xg 0 (by show List.Nodup (["q"] : List Str) ; decide +kernel))) (fun _ _ _ _ _ => (fif_nil mif_nil)) (fun _ _ _ _ _ => (xce G_law_q hr T.e_law_q (xa1 (xv 0)))))))))))))))))
theorem sc_check_text : FnScope ["text"] ["text"] (defScope s_check_text) := fsc
theorem ok_check_text {f : Nat → Addr} {fd : Nat → FuncData} {cls : Nat → Addr} (T : Txt K mg f fd cls) : FnOk P w K mg base CX0 1 (f 13) (fd 13) ["text"] (spD K (sD F_check_text_76e8)) := by
  refine fn_okD T.e_check_text.F sc_check_text (S := S_check_text_76e8) rfl rfl (fun cdv A outer s H E hr => ?_)
  exact (mss_one (xif (xno (ft_tru (mt_tru (fe_isi (m_isi (by decide) (by rfl) T.z_isinstance L2.B.boot_isinstance (by rfl) T.z_str L2.B.boot_str (xv 0))) (fun _ => rfl)))) (mss_one fs_raise) xnl))
theorem sc_is_point_count : FnScope ["n"] ["n"] (defScope s_is_point_count) := fsc
theorem ok_is_point_count {f : Nat → Addr} {fd : Nat → FuncData} {cls : Nat → Addr} (T : Txt K mg f fd cls) : FnOk P w K mg base CX0 1 (f 14) (fd 14) ["n"] (spD K (sD F_is_point_count_1b6f)) := by
  refine fn_okD T.e_is_point_count.F sc_is_point_count (S := S_is_point_count_1b6f) rfl rfl (fun cdv A outer s H E hr => ?_)
  exact (mss_one (xrt (fe_chain (m_chain op_le op_le xci (xv 0) (fe_c (m_gintE (by rfl) T.g_MOST_POINTS))))))
theorem sc_is_alike_both_ways : FnScope ["rows", "i", "j"] ["rows"] (defScope s_is_alike_both_ways) := fsc
theorem ok_is_alike_both_ways {f : Nat → Addr} {fd : Nat → FuncData} {cls : Nat → Addr} (T : Txt K mg f fd cls) : FnOk P w K mg base CX0 1 (f 15) (fd 15) ["rows"] (spD K (sD F_is_alike_both_ways_13b3)) := by
  refine fn_okD T.e_is_alike_both_ways.F sc_is_alike_both_ways (S := S_is_alike_both_ways_13b3) rfl rfl (fun cdv A outer s H E hr => ?_)
  have hu := hr.units
  exact (xsq (xfr PassesOwn.never rfl (fi_r1 (mi_range1 (by rfl) T.z_range (xa1 (xln T.z_len (xa1 (xv 0)))))) (xg 1 sc_is_alike_both_ways.nd) (xsq (xif (xne hu (xix (xix (xv 0) (xv 1)) (xv 1)) (xtp (fa_cons2 xci (xa1 xci)))) (mss_one (xrt (fe_c mc_bl))) xnl) (mss_one (xfr PassesOwn.never rfl (fi_r1 (mi_range1 (by rfl) T.z_range (xa1 (xv 1)))) (xg 2 sc_is_alike_both_ways.nd) (mss_one (xif (xne hu (xix (xix (xv 0) (xv 1)) (xv 2)) (xix (xix (xv 0) (xv 2)) (xv 1))) (mss_one (xrt (fe_c mc_bl))) xnl)))))) (mss_one (xrt (fe_c mc_bl))))
theorem sc_greatest_divisor : FnScope ["a", "b", "left"] ["a", "b"] (defScope s_greatest_divisor) := fsc
theorem ok_greatest_divisor {f : Nat → Addr} {fd : Nat → FuncData} {cls : Nat → Addr} (T : Txt K mg f fd cls) : FnOk P w K mg base CX0 1 (f 16) (fd 16) ["a", "b"] (spD K (sD F_greatest_divisor_46d9)) := by
  refine fn_okD T.e_greatest_divisor.F sc_greatest_divisor (S := S_greatest_divisor_46d9) rfl rfl (fun cdv A outer s H E hr => ?_)
  have hu := hr.units
  exact (xsq (xst 0 sc_greatest_divisor.nd (fe_blS b_abs (m_blS pn_abs call_abs (by rfl) T.z_abs L2.B.boot_abs (xa1 (xv 0))))) (xsq (xst 1 sc_greatest_divisor.nd (fe_blS b_abs (m_blS pn_abs call_abs (by rfl) T.z_abs L2.B.boot_abs (xa1 (xv 1))))) (xsq (fs_while (ms_while PassesOwn.never (xne hu (xv 1) xci) (xsq (xst 2 sc_greatest_divisor.nd (xmod (xv 0) (xv 1))) (xsq (xst 0 sc_greatest_divisor.nd (xv 1)) (mss_one (xst 1 sc_greatest_divisor.nd (xv 2))))))) (mss_one (xrt (xv 0))))))
theorem sc_is_whole : FnScope ["thing"] ["thing"] (defScope s_is_whole) := fsc
theorem ok_is_whole {f : Nat → Addr} {fd : Nat → FuncData} {cls : Nat → Addr} (T : Txt K mg f fd cls) : FnOk P w K mg base CX0 1 (f 17) (fd 17) ["thing"] (spD K (sD F_is_whole_593d)) := by
  refine fn_okD T.e_is_whole.F sc_is_whole (S := S_is_whole_593d) rfl rfl (fun cdv A outer s H E hr => ?_)
  exact (mss_one (xrt (fe_andV (m_and (fe_isi (m_isi (by decide) (by rfl) T.z_isinstance L2.B.boot_isinstance (by rfl) T.z_int L2.B.boot_int (xv 0))) (m_one (fe_notV (m_not (fe_isi (m_isi (by decide) (by rfl) T.z_isinstance L2.B.boot_isinstance (by rfl) T.z_bool L2.B.boot_bool (xv 0))))))))))
theorem sc_is_fraction : FnScope ["thing"] ["thing"] (defScope s_is_fraction) := fsc
theorem ok_is_fraction {f : Nat → Addr} {fd : Nat → FuncData} {cls : Nat → Addr} (T : Txt K mg f fd cls) : FnOk P w K mg base CX0 2 (f 18) (fd 18) ["thing"] (spD K (sD F_is_fraction_f332)) := by
  have G_greatest_divisor := ok_greatest_divisor (P := P) (w := w) (base := base) T
  have G_is_whole := ok_is_whole (P := P) (w := w) (base := base) T
  refine fn_okD T.e_is_fraction.F sc_is_fraction (S := S_is_fraction_f332) rfl rfl (fun cdv A outer s H E hr => ?_)
  have hu := hr.units
  exact (xsq (xif (MW.mt (ft_or (mw_or (xno (ft_tru (mt_tru (fe_isi (m_isi (by decide) (by rfl) T.z_isinstance L2.B.boot_isinstance (by rfl) T.z_tuple L2.B.boot_tuple (xv 0))) (fun _ => rfl)))) (mw_or1 (xne hu (xln T.z_len (xa1 (xv 0))) xci))))) (mss_one (xrt (fe_c mc_bl))) xnl) (xsq (xif (MW.mt (ft_or (mw_or (xno (ft_tru (mt_tru (xce G_is_whole hr T.e_is_whole (xa1 (xix (xv 0) xci))) (fun _ => rfl)))) (mw_or1 (xno (ft_tru (mt_tru (xce G_is_whole hr T.e_is_whole (xa1 (xix (xv 0) xci))) (fun _ => rfl)))))))) (mss_one (xrt (fe_c mc_bl))) xnl) (mss_one (xrt (fe_andV (m_and (fe_binS b_ge (m_cmp op_ge p2_cmp (xix (xv 0) xci) xci (hm := (nomark _)))) (m_one (fe_binS b_eq (m_cmp (op_eqA hu) p2_eq (xce G_greatest_divisor hr T.e_greatest_divisor (fa_cons2 (xix (xv 0) xci) (xa1 (xix (xv 0) xci)))) xci (hm := (nomark _)))))))))))
theorem sc_is_distance : FnScope ["thing"] ["thing"] (defScope s_is_distance) := fsc
theorem ok_is_distance {f : Nat → Addr} {fd : Nat → FuncData} {cls : Nat → Addr} (T : Txt K mg f fd cls) : FnOk P w K mg base CX0 3 (f 19) (fd 19) ["thing"] (spD K (sD F_is_distance_f7e2)) := by
  have G_is_fraction := ok_is_fraction (P := P) (w := w) (base := base) T
  refine fn_okD T.e_is_distance.F sc_is_distance (S := S_is_distance_f7e2) rfl rfl (fun cdv A outer s H E hr => ?_)
  exact (mss_one (xrt (fe_andV (m_and (xce G_is_fraction hr T.e_is_fraction (xa1 (xv 0))) (m_one (fe_binS b_ge (m_cmp op_ge p2_cmp (xix (xv 0) xci) xci (hm := (nomark _)))))))))
theorem sc_is_row : FnScope ["thing", "n", "cell"] ["thing", "n"] (defScope s_is_row) := fsc
theorem ok_is_row {f : Nat → Addr} {fd : Nat → FuncData} {cls : Nat → Addr} (T : Txt K mg f fd cls) : FnOk P w K mg base CX0 4 (f 20) (fd 20) ["thing", "n"] (spD K (sD F_is_row_582b)) := by
  have G_is_distance := ok_is_distance (P := P) (w := w) (base := base) T
  refine fn_okD T.e_is_row.F sc_is_row (S := S_is_row_582b) rfl rfl (fun cdv A outer s H E hr => ?_)
  have hu := hr.units
  exact (xsq (xif (MW.mt (ft_or (mw_or (xno (ft_tru (mt_tru (fe_isi (m_isi (by decide) (by rfl) T.z_isinstance L2.B.boot_isinstance (by rfl) T.z_list L2.B.boot_list (xv 0))) (fun _ => rfl)))) (mw_or1 (xne hu (xln T.z_len (xa1 (xv 0))) (xv 1)))))) (mss_one (xrt (fe_c mc_bl))) xnl) (xsq (xfr PassesOwn.never rfl (xil (xv 0)) (xg 2 sc_is_row.nd) (mss_one (xif (xno (ft_tru (mt_tru (xce G_is_distance hr T.e_is_distance (xa1 (xv 2))) (fun _ => rfl)))) (mss_one (xrt (fe_c mc_bl))) xnl))) (mss_one (xrt (fe_c mc_bl)))))
theorem sc_is_table : FnScope ["thing", "row"] ["thing"] (defScope s_is_table) := fsc
theorem ok_is_table {f : Nat → Addr} {fd : Nat → FuncData} {cls : Nat → Addr} (T : Txt K mg f fd cls) : FnOk P w K mg base CX0 5 (f 21) (fd 21) ["thing"] (spD K (sD F_is_table_201f)) := by
  have G_is_alike_both_ways := ok_is_alike_both_ways (P := P) (w := w) (base := base) T
  have G_is_row := ok_is_row (P := P) (w := w) (base := base) T
  refine fn_okD T.e_is_table.F sc_is_table (S := S_is_table_201f) rfl rfl (fun cdv A outer s H E hr => ?_)
  have hu := hr.units
  exact (xsq (xif (MW.mt (ft_or (mw_or (xno (ft_tru (mt_tru (fe_isi (m_isi (by decide) (by rfl) T.z_isinstance L2.B.boot_isinstance (by rfl) T.z_list L2.B.boot_list (xv 0))) (fun _ => rfl)))) (mw_or1 (xeq hu (xln T.z_len (xa1 (xv 0))) xci))))) (mss_one (xrt (fe_c mc_bl))) xnl) (xsq (xfr PassesOwn.never rfl (xil (xv 0)) (xg 1 sc_is_table.nd) (mss_one (xif (xno (ft_tru (mt_tru (xce G_is_row hr T.e_is_row (fa_cons2 (xv 1) (xa1 (xln T.z_len (xa1 (xv 0)))))) (fun _ => rfl)))) (mss_one (xrt (fe_c mc_bl))) xnl))) (mss_one (xrt (xce G_is_alike_both_ways hr T.e_is_alike_both_ways (xa1 (xv 0)))))))
theorem sc_is_number : FnScope ["word", "sign"] ["word"] (defScope s_is_number) := fsc
theorem ok_is_number {f : Nat → Addr} {fd : Nat → FuncData} {cls : Nat → Addr} (T : Txt K mg f fd cls) : FnOk P w K mg base CX0 1 (f 22) (fd 22) ["word"] (spD K (sD F_is_number_df88)) := by
  refine fn_okD T.e_is_number.F sc_is_number (S := S_is_number_df88) rfl rfl (fun cdv A outer s H E hr => ?_)
  have hu := hr.units
  exact (xsq (xif (xno (ft_chain (mt_chain op_le op_le xci (fe_blS b_lenS (m_blS pn_lenS call_len_str (by rfl) T.z_len L2.B.boot_len (xa1 (xv 0)))) (fe_c (m_gintE (by rfl) T.g_MOST_FIGURES))))) (mss_one (xrt (fe_c mc_bl))) xnl) (xsq (xfr PassesOwn.never rfl (fi_str (mi_str (xv 0))) (xg 1 sc_is_number.nd) (mss_one (xif (ft_cmp b_inS (mt_cmp op_notInS p2_inS (xv 1) (fe_c (m_gstrE (by rfl) T.g_FIGURES)) (hm := (by with_unfolding_all rfl)))) (mss_one (xrt (fe_c mc_bl))) xnl))) (mss_one (xrt (fe_orV (m_or (fe_binS b_eq (m_cmp (op_eqA hu) p2_eq (xv 0) (fe_c mc_str) (hm := (nomark _)))) (m_one (fe_binS b_ne (m_cmp (op_neA hu) p2_ne (fe_as (fe_bin b_ixS (m_ix (ix_seqK rfl) p2_ixS (xv 0) xci (hs := fun _ _ => rfl)))) (fe_c mc_str) (hm := (nomark _)))))))))))
theorem sc_read_number : FnScope ["word"] ["word"] (defScope s_read_number) := fsc
theorem ok_read_number {f : Nat → Addr} {fd : Nat → FuncData} {cls : Nat → Addr} (T : Txt K mg f fd cls) : FnOk P w K mg base CX0 2 (f 23) (fd 23) ["word"] (spD K (sD F_read_number_f024)) := by
  have G_is_number := ok_is_number (P := P) (w := w) (base := base) T
  refine fn_okD T.e_read_number.F sc_read_number (S := S_read_number_f024) rfl rfl (fun cdv A outer s H E hr => ?_)
  exact (mss_one (xrt (fe_as (fe_if (m_if (ft_tru (mt_tru (xce G_is_number hr T.e_is_number (xa1 (xv 0))) (fun _ => rfl))) (fe_blS b_intT (m_tyS pn_intT call_intT (by rfl) T.z_int L2.B.boot_int (xa1 (xv 0)))) (fe_c mc_non))))))
theorem sc_show_fraction : FnScope ["q", "top"] ["q"] (defScope s_show_fraction) := fsc
theorem ok_show_fraction {f : Nat → Addr} {fd : Nat → FuncData} {cls : Nat → Addr} (T : Txt K mg f fd cls) : FnOk P w K mg base CX0 1 (f 24) (fd 24) ["q"] (spD K (sD F_show_fraction_50aa)) := by
  refine fn_okD T.e_show_fraction.F sc_show_fraction (S := S_show_fraction_50aa) rfl rfl (fun cdv A outer s H E hr => ?_)
  have hu := hr.units
  exact (xsq (xst 1 sc_show_fraction.nd (fe_blS b_str (m_tyS pn_str call_str_int (by rfl) T.z_str L2.B.boot_str (xa1 (xix (xv 0) xci))))) (xsq (xif (xeq hu (xix (xv 0) xci) xci) (mss_one (xrt (xv 1))) xnl) (mss_one (xrt (fe_binS b_catS (m_opS op_add_str p2_catS (fe_binS b_catS (m_opS op_add_str p2_catS (xv 1) (fe_c mc_str))) (fe_blS b_str (m_tyS pn_str call_str_int (by rfl) T.z_str L2.B.boot_str (xa1 (xix (xv 0) xci))))))))))
theorem sc_read_fraction : FnScope ["word", "numbers", "q"] ["word"] (defScope s_read_fraction) := fsc
theorem ok_read_fraction {f : Nat → Addr} {fd : Nat → FuncData} {cls : Nat → Addr} (T : Txt K mg f fd cls) : FnOk P w K mg base CX0 3 (f 25) (fd 25) ["word"] (spD K (sD F_read_fraction_9056)) := by
  have G_is_fraction := ok_is_fraction (P := P) (w := w) (base := base) T
  have G_read_number := ok_read_number (P := P) (w := w) (base := base) T
  have G_show_fraction := ok_show_fraction (P := P) (w := w) (base := base) T
  refine fn_okD T.e_read_fraction.F sc_read_fraction (S := S_read_fraction_9056) rfl rfl (fun cdv A outer s H E hr => ?_)
  have hu := hr.units
  exact (xsq (fs_setcO (ms_setcomp (i := 1) (own := ["part"]) (caps := []) (N' := ["part"]) true sc_read_fraction.nd rfl (Or.inl rfl) (by exact ⟨rfl, by decide +kernel, rfl, by decide +kernel, rfl, rfl⟩) (by rfl) (by decide) (xil (fe_mtO (m_mtO pm_split F.slot_str_split F.type_str_split mt_split (xv 0) (xa1 (fe_c mc_str))))) (fun _ _ _ _ _ => (xg 0 (by show List.Nodup (["part"] : List Str) ; decide +kernel))) (fun _ _ _ _ _ => (fif_nil mif_nil)) (fun _ _ _ _ _ => (xce G_read_number hr T.e_read_number (xa1 (xv 0)))))) (xsq (xif (xeq hu (xln T.z_len (xa1 (xo 1))) xci) (mss_one (fs_append (ms_append 1 xci))) xnl) (xsq (fs_setS (ms_setS (i := 2) sc_read_fraction.nd rfl (Or.inl rfl) (fe_bl b_tupL (m_ty pn_tupL (call_tupleK rfl) (by rfl) T.z_tuple L2.B.boot_tuple (xa1 (xo 1)))))) (mss_one (xrt (fe_as (fe_if (m_if (MW.mt (ft_and (mw_and (ft_tru (mt_tru (xce G_is_fraction hr T.e_is_fraction (xa1 (xv 2))) (fun _ => rfl))) (mw_and1 (xeq hu (xce G_show_fraction hr T.e_show_fraction (xa1 (xv 2))) (xv 0)))))) (xv 2) (fe_c mc_non)))))))))
theorem sc_read_table : FnScope ["text", "table", "line"] ["text"] (defScope s_read_table) := fsc
theorem ok_read_table {f : Nat → Addr} {fd : Nat → FuncData} {cls : Nat → Addr} (T : Txt K mg f fd cls) : FnOk P w K mg base CX0 6 (f 26) (fd 26) ["text"] (spD K (sD F_read_table_4013)) := by
  have G_check_text := ok_check_text (P := P) (w := w) (base := base) T
  have G_is_point_count := ok_is_point_count (P := P) (w := w) (base := base) T
  have G_is_table := ok_is_table (P := P) (w := w) (base := base) T
  have G_read_fraction := ok_read_fraction (P := P) (w := w) (base := base) T
  refine fn_okD T.e_read_table.F sc_read_table (S := S_read_table_4013) rfl rfl (fun cdv A outer s H E hr => ?_)
  exact (xsq (fs_drop (ms_expr (xce G_check_text hr T.e_check_text (xa1 (xv 0))))) (xsq (xso 1 sc_read_table.nd (xls xa0)) (xsq (xfr PassesOwn.never rfl (xil (fe_mtO (m_mtO pm_split F.slot_str_split F.type_str_split mt_split (xv 0) (xa1 (fe_c mc_str))))) (xg 2 sc_read_table.nd) (mss_one (fs_appendO (ms_appendO 1 (fe_comp (m_cpA ["word"] [] ["word"] (xil (fe_mtO (m_mtO pm_split F.slot_str_split F.type_str_split mt_split (xv 2) (xa1 (fe_c mc_str))))) (fun _ _ _ _ _ => (xg 0 (by show List.Nodup (["word"] : List Str) ; decide +kernel))) (fun _ _ _ _ _ => (fif_nil mif_nil)) (fun _ _ _ _ _ => (xce G_read_fraction hr T.e_read_fraction (xa1 (xv 0)))))))))) (xsq (xif (MW.mt (ft_or (mw_or (xno (ft_tru (mt_tru (xce G_is_point_count hr T.e_is_point_count (xa1 (xln T.z_len (xa1 (xo 1))))) (fun _ => rfl)))) (mw_or1 (xno (ft_tru (mt_tru (xce G_is_table hr T.e_is_table (xa1 (xo 1))) (fun _ => rfl)))))))) (mss_one fs_raise) xnl) (mss_one (fs_retO (ms_retO 1)))))))
theorem sc_show_table : FnScope ["table", "lines", "row"] ["table"] (defScope s_show_table) := fsc
theorem ok_show_table {f : Nat → Addr} {fd : Nat → FuncData} {cls : Nat → Addr} (T : Txt K mg f fd cls) : FnOk P w K mg base CX0 2 (f 27) (fd 27) ["table"] (spD K (sD F_show_table_8ecb)) := by
  have G_show_fraction := ok_show_fraction (P := P) (w := w) (base := base) T
  refine fn_okD T.e_show_table.F sc_show_table (S := S_show_table_8ecb) rfl rfl (fun cdv A outer s H E hr => ?_)
  exact (xsq (xso 1 sc_show_table.nd (xls xa0)) (xsq (xfr PassesOwn.never rfl (xil (xv 0)) (xg 2 sc_show_table.nd) (mss_one (fs_append (ms_append 1 (fe_mtS (m_mtS pm_join F.slot_str_join F.type_str_join (mt_join rfl) (fe_c mc_str) (xa1 (fe_comp (m_cpA ["q"] [] ["q"] (xil (xv 2)) (fun _ _ _ _ _ => (xg 0 (by show List.Nodup (["q"] : List Str) ; decide +kernel))) (fun _ _ _ _ _ => (fif_nil mif_nil)) (fun _ _ _ _ _ => (xce G_show_fraction hr T.e_show_fraction (xa1 (xv 0))))))))))))) (mss_one (xrt (fe_mtS (m_mtS pm_join F.slot_str_join F.type_str_join (mt_join rfl) (fe_c mc_str) (xa1 (xo 1))))))))
theorem sc_law : FnScope ["script", "n", "distances", "table", "due", "handed", "found", "back", "at"] ["script"] (defScope s_law) := fsc
theorem ok_law {f : Nat → Addr} {fd : Nat → FuncData} {cls : Nat → Addr} (T : Txt K mg f fd cls) : FnOk P w K mg base CX0 9 (f 28) (fd 28) ["script"] (spD K (sD F_law_6c47)) := by
  have G_law_alike := ok_law_alike (P := P) (w := w) (base := base) T
  have G_law_cell_at := ok_law_cell_at (P := P) (w := w) (base := base) T
  have G_law_numbers := ok_law_numbers (P := P) (w := w) (base := base) T
  have G_law_rows := ok_law_rows (P := P) (w := w) (base := base) T
  have G_law_twinned := ok_law_twinned (P := P) (w := w) (base := base) T
  have G_law_wide := ok_law_wide (P := P) (w := w) (base := base) T
  have G_law_written := ok_law_written (P := P) (w := w) (base := base) T
  have G_read_table := ok_read_table (P := P) (w := w) (base := base) T
  have G_show_table := ok_show_table (P := P) (w := w) (base := base) T
  refine fn_okD T.e_law.F sc_law (S := S_law_6c47) rfl rfl (fun cdv A outer s H E hr => ?_)
  have hu := hr.units
  exact (xsq (xst 1 sc_law.nd (xadd xci (xmod (xce G_law_cell_at hr T.e_law_cell_at (fa_cons2 (xv 0) (xa1 xci))) xci))) (xsq (fs_setc (ms_setcomp (i := 2) (own := ["number"]) (caps := []) (N' := ["number"]) false sc_law.nd rfl (Or.inl rfl) (by exact ⟨rfl, by decide +kernel, rfl, by decide +kernel, rfl, rfl⟩) (by rfl) (by decide) (xil (xce G_law_numbers hr T.e_law_numbers (fa_cons2 (xv 0) (fa_cons2 xci (xa1 (xfdv (xmul (xv 1) (xsub (xv 1) xci)) xci)))))) (fun _ _ _ _ _ => (xg 0 (by show List.Nodup (["number"] : List Str) ; decide +kernel))) (fun _ _ _ _ _ => (fif_nil mif_nil)) (fun _ _ _ _ _ => (xce G_law_wide hr T.e_law_wide (xa1 (xv 0)))))) (xsq (fs_set (ms_set (i := 3) sc_law.nd rfl (Or.inr rfl) (xce G_law_rows hr T.e_law_rows (fa_cons2 (xv 1) (xa1 (xv 2)))))) (xsq (xif (xeq hu (xmod (xfdv (xce G_law_cell_at hr T.e_law_cell_at (fa_cons2 (xv 0) (xa1 xci))) xci) xci) xci) (mss_one (fs_set (ms_set (i := 3) sc_law.nd rfl (Or.inr rfl) (xce G_law_twinned hr T.e_law_twinned (xa1 (xv 3)))))) xnl) (xsq (xst 4 sc_law.nd (xce G_law_written hr T.e_law_written (xa1 (xv 3)))) (xsq (fs_setc (ms_setcomp (i := 5) (own := ["row"]) (caps := []) (N' := ["row"]) false sc_law.nd rfl (Or.inl rfl) (by exact ⟨rfl, by decide +kernel, rfl, by decide +kernel, rfl, rfl⟩) (by rfl) (by decide) (xil (xv 3)) (fun _ _ _ _ _ => (xg 0 (by show List.Nodup (["row"] : List Str) ; decide +kernel))) (fun _ _ _ _ _ => (fif_nil mif_nil)) (fun _ _ _ _ _ => (fe_bl b_list (m_ty pn_list (call_listK rfl) (by rfl) T.z_list L2.B.boot_list (xa1 (xv 0))))))) (xsq (xst 6 sc_law.nd (xce G_show_table hr T.e_show_table (xa1 (xv 5)))) (xsq (xif (MW.mt (ft_or (mw_or (xno (ft_tru (mt_tru (fe_isi (m_isi (by decide) (by rfl) T.z_isinstance L2.B.boot_isinstance (by rfl) T.z_str L2.B.boot_str (xv 6))) (fun _ => rfl)))) (ft_or (mw_or (xne hu (xv 6) (xv 4)) (mw_or1 (xne hu (xv 5) (xv 3)))))))) (mss_one (xrt (fe_c mc_bl))) xnl) (xsq (fs_setO (ms_setO (i := 7) sc_law.nd rfl (Or.inr rfl) (xce G_read_table hr T.e_read_table (xa1 (xv 4))))) (xsq (xif (xno (ft_tru (mt_tru (xce G_law_alike hr T.e_law_alike (fa_cons2 (xo 7) (xa1 (xv 3)))) (fun _ => rfl)))) (mss_one (xrt (fe_c mc_bl))) xnl) (xsq (fs_set (ms_set (i := 8) sc_law.nd rfl (Or.inr rfl) (xmod (xce G_law_cell_at hr T.e_law_cell_at (fa_cons2 (xv 0) (xa1 xci))) (xv 1)))) (xsq (fs_appIx (ms_appIx 7 (xv 8) (xtp (fa_cons2 xci (xa1 xci))))) (xsq (fs_put2 (ms_put2 7 (xtp (fa_cons2 xci (xa1 xci))) (xv 8) xci (fun _ _ => rfl))) (xsq (xif (xne hu (fe_comp (m_cpA ["k"] [8, 7, 3] ["k", "at", "back", "table"] (fi_r1 (mi_range1 (by rfl) T.z_range (xa1 (xv 1)))) (fun _ _ _ _ _ => (xg 0 (by show List.Nodup (["k", "at", "back", "table"] : List Str) ; decide +kernel))) (fun _ _ _ _ _ => (mif_one (MW.mt (ft_and (mw_and (xne hu (xv 0) (xv 1)) (mw_and1 (xne hu (xix (xo 2) (xv 0)) (xix (xv 3) (xv 0))))))))) (fun _ _ _ _ _ => (xv 0)))) (xls xa0)) (mss_one (xrt (fe_c mc_bl))) xnl) (xsq (fs_append (ms_append 7 (xls xa0))) (mss_one (xrt (fe_andV (m_and (xce G_law_alike hr T.e_law_alike (fa_cons2 (xce G_read_table hr T.e_read_table (xa1 (xv 4))) (xa1 (xv 3)))) (m_one (fe_binS b_eq (m_cmp (op_eqA hu) p2_eq (xce G_show_table hr T.e_show_table (xa1 (xv 5))) (xv 4) (hm := (nomark _))))))))))))))))))))))))
theorem ok_lawS {f : Nat → Addr} {fd : Nat → FuncData} {cls : Nat → Addr} (T : Txt K mg f fd cls) : FnOk P w K mg base CX0 9 (f 28) (fd 28) ["script"] (spD K SLaw) := (ok_law T).imp fun vs H Q E q => by
  obtain ⟨L, ds, k, h1, ⟨ns, e, hl, hk⟩, h3⟩ := q
  exact ⟨L, ds, k, h1, ⟨_, by rw [e]; exact law_true ns hl, hk⟩, h3⟩
end
theorem all_mk {l : PySem.W.OpenLaw} {w : World} {K : PySem.W.Frag} {h : Heap} {mg : Str → Option Value} {fa : Addr} (X : K.In h) (G : h.Ns mainGlobals mg) (hfa : mg "law" = some (.ref fa))
    (q1 : Ei K "_law_whole" s_law_whole f1 d1)
    (q2 : Ei K "_law_alike" s_law_alike f2 d2)
    (q3 : Ei K "_law_cell_at" s_law_cell_at f3 d3)
    (q4 : Ei K "_law_digits" s_law_digits f4 d4)
    (q5 : Ei K "_law_numbers" s_law_numbers f5 d5)
    (q6 : Ei K "_law_pairs" s_law_pairs f6 d6)
    (q7 : Ei K "_law_rows" s_law_rows f7 d7)
    (q8 : Ei K "_law_twinned" s_law_twinned f8 d8)
    (q9 : Ei K "_law_common" s_law_common f9 d9)
    (q10 : Ei K "_law_fraction" s_law_fraction f10 d10)
    (q11 : Ei K "_law_wide" s_law_wide f11 d11)
    (q12 : Ei K "_law_q" s_law_q f12 d12)
    (q13 : Ei K "_law_written" s_law_written f13 d13)
    (q14 : Ei K "check_text" s_check_text f14 d14)
    (q15 : Ei K "is_point_count" s_is_point_count f15 d15)
    (q16 : Ei K "is_alike_both_ways" s_is_alike_both_ways f16 d16)
    (q17 : Ei K "greatest_divisor" s_greatest_divisor f17 d17)
    (q18 : Ei K "is_whole" s_is_whole f18 d18)
    (q19 : Ei K "is_fraction" s_is_fraction f19 d19)
    (q20 : Ei K "is_distance" s_is_distance f20 d20)
    (q21 : Ei K "is_row" s_is_row f21 d21)
    (q22 : Ei K "is_table" s_is_table f22 d22)
    (q23 : Ei K "is_number" s_is_number f23 d23)
    (q24 : Ei K "read_number" s_read_number f24 d24)
    (q25 : Ei K "show_fraction" s_show_fraction f25 d25)
    (q26 : Ei K "read_fraction" s_read_fraction f26 d26)
    (q27 : Ei K "read_table" s_read_table f27 d27)
    (q28 : Ei K "show_table" s_show_table f28 d28)
    (q29 : Ei K "law" s_law f29 d29)
    (z0 : PySem.W.nsIn K mainGlobals "abs" = some none)
    (z1 : PySem.W.nsIn K mainGlobals "bool" = some none)
    (z2 : PySem.W.nsIn K mainGlobals "int" = some none)
    (z3 : PySem.W.nsIn K mainGlobals "isinstance" = some none)
    (z4 : PySem.W.nsIn K mainGlobals "len" = some none)
    (z5 : PySem.W.nsIn K mainGlobals "list" = some none)
    (z6 : PySem.W.nsIn K mainGlobals "range" = some none)
    (z7 : PySem.W.nsIn K mainGlobals "str" = some none)
    (z8 : PySem.W.nsIn K mainGlobals "tuple" = some none)
    (z9 : PySem.W.nsIn K mainGlobals "zip" = some none)
    (gc_FIGURES : PySem.W.nsIn K mainGlobals "FIGURES" = some (some (.str "0123456789" t_FIGURES)))
    (gc_MOST_FIGURES : PySem.W.nsIn K mainGlobals "MOST_FIGURES" = some (some (.int 40 t_MOST_FIGURES)))
    (gc_MOST_POINTS : PySem.W.nsIn K mainGlobals "MOST_POINTS" = some (some (.int 10 t_MOST_POINTS)))
    (cc_NoText : PySem.W.nsIn K mainGlobals "NoText" = some (some (.ref C_NoText)))
    (x_NoText : ExCls K C_NoText)
    (r_NoText : RsCls K C_NoText)
    : ∃ fd : FuncData, (∀ (s : Shared) (v : Value), BindsTo s fd ⟨[v], []⟩ [("script", v)]) ∧ ∀ base : Heap, K.In base → base.Ns mainGlobals mg → FnOk l.prog w K mg base CX0 9 fa fd ["script"] (spD K SLaw) := by
  have e := hfa.symm.trans (PySem.W.mg_of X G q29.a)
  cases e
  have T : Txt K mg (fun k => [f1, f2, f3, f4, f5, f6, f7, f8, f9, f10, f11, f12, f13, f14, f15, f16, f17, f18, f19, f20, f21, f22, f23, f24, f25, f26, f27, f28, f29].getD k 0) (fun k => [d1, d2, d3, d4, d5, d6, d7, d8, d9, d10, d11, d12, d13, d14, d15, d16, d17, d18, d19, d20, d21, d22, d23, d24, d25, d26, d27, d28, d29].getD k d29) (fun k => [C_NoText].getD k 0) := ⟨en1 X G q1, en2 X G q2, en2 X G q3, en3 X G q4, en3 X G q5, en1 X G q6, en2 X G q7, en1 X G q8, en2 X G q9, en2 X G q10, en1 X G q11, en1 X G q12, en1 X G q13, en1 X G q14, en1 X G q15, en1 X G q16, en2 X G q17, en1 X G q18, en1 X G q19, en1 X G q20, en2 X G q21, en1 X G q22, en1 X G q23, en1 X G q24, en1 X G q25, en1 X G q26, en1 X G q27, en1 X G q28, en1 X G q29, ⟨_, PySem.W.mg_of X G gc_FIGURES⟩, ⟨_, PySem.W.mg_of X G gc_MOST_FIGURES⟩, ⟨_, PySem.W.mg_of X G gc_MOST_POINTS⟩, PySem.W.mg_none_of X G z0, PySem.W.mg_none_of X G z1, PySem.W.mg_none_of X G z2, PySem.W.mg_none_of X G z3, PySem.W.mg_none_of X G z4, PySem.W.mg_none_of X G z5, PySem.W.mg_none_of X G z6, PySem.W.mg_none_of X G z7, PySem.W.mg_none_of X G z8, PySem.W.mg_none_of X G z9, ec X G cc_NoText, x_NoText, r_NoText⟩
  refine ⟨d29, fun s v => ?_, fun base _ _ => ok_lawS (P := l.prog) (w := w) (base := base) T⟩
  obtain ⟨_, _, _, _, _, _, _, _, _, rfl, _, _⟩ := q29.F.ex
  exact .of_eq rfl
theorem walk {l : PySem.W.OpenLaw} {q : Program} {loose : List Str} {XP : (Str → Option Value) → Heap → Prop} {YP : World → Heap → Prop} {d : DefRec} {K : Params → PySem.W.Frag} (hn : l.most = some 63) (hdf : d.params.defaults = [])
    (hY : ∀ (w : World) (h : Heap), YP w h → (K w.params).In h)
    (F : ∀ (w : World) (mg : Str → Option Value) (fa : Addr) (h : Heap), (K w.params).In h → h.Ns mainGlobals mg → mg d.name = some (.ref fa) →
      ∃ fd : FuncData, (∀ (s : Shared) (u : Value), BindsTo s fd ⟨[u], []⟩ [("script", u)]) ∧ ∀ base : Heap, (K w.params).In base → base.Ns mainGlobals mg → FnOk l.prog w (K w.params) mg base CX0 9 fa fd ["script"] (spD (K w.params) SLaw)) :
    PySem.W.WalkO q loose XP YP l.row.toRowW d [] (fun f vs => PySem.call f vs) :=
  L2.walk_of (n := 63) (k := 9) (x := "script") (CX := fun _ => CX0) (sp := fun w => spD (K w.params) SLaw) hn (by decide) hdf ⟨rfl, by decide, by decide⟩ hY F (fun _ _ a ns hl _ hS => law_sp hl hS) fun _ _ _ _ _ z => z
end My
open PySem PySem.W PyProof.Rows
theorem PySem.W.Fast.tw7812434824248433519:True:=trivial
theorem PySem.W.Fast.tw2815464913426173099:True:=trivial
theorem PySem.W.Fast.tw6345597363086659696:True:=trivial
theorem PySem.W.Fast.tw4983212651504142321:True:=trivial
theorem PySem.W.Fast.tw12637679007516555302:True:=trivial
theorem PySem.W.Fast.tw15945810381038733565:True:=trivial
theorem PySem.W.Fast.tw7226402128320214641:True:=trivial
theorem PySem.W.Fast.tw15368001802834456936:True:=trivial
theorem PySem.W.Fast.tw2870298331318978315:True:=trivial
theorem PySem.W.Fast.tw13217442052949396268:True:=trivial
theorem PySem.W.Fast.tw10132566471682972447:True:=trivial
theorem PySem.W.Fast.tw7236397131143625876:True:=trivial
theorem PySem.W.Fast.tw1300308331286468711:True:=trivial
theorem PySem.W.Fast.tw13912736528317955963:True:=trivial
theorem PySem.W.Fast.tw1141208341226369273:True:=trivial
theorem PySem.W.Fast.tw10917472828096974626:True:=trivial
theorem PySem.W.Fast.tw16442107049532074274:True:=trivial
theorem PySem.W.Fast.tw12435883891902434619:True:=trivial
theorem PySem.W.Fast.tw14796791868804052277:True:=trivial
theorem PySem.W.Fast.tw6947682491020629808:True:=trivial
theorem PySem.W.Fast.tw3428860005339493353:True:=trivial
theorem PySem.W.Fast.tw13173070980299713425:True:=trivial
theorem PySem.W.Fast.tw1961459985802115953:True:=trivial
theorem PySem.W.Fast.tw3935586645457949448:True:=trivial
theorem PySem.W.Fast.tw12864367033435267478:True:=trivial
theorem PySem.W.Fast.tw11364470952419751984:True:=trivial
theorem PySem.W.Fast.tw13738794043093892190:True:=trivial
theorem PySem.W.Fast.tw14744301465669945951:True:=trivial
theorem PySem.W.Fast.tw4766095202559170100:True:=trivial
theorem PySem.W.Fast.tw13408198769071020802:True:=trivial
theorem PySem.W.Fast.tw7670894544110049133:True:=trivial
theorem PySem.W.Fast.tw8064960977262276963:True:=trivial
theorem PySem.W.Fast.tw9390536090603571413:True:=trivial
theorem PySem.W.Fast.tw3135934548563631509:True:=trivial
theorem PySem.W.Fast.tw15646230311903816636:True:=trivial
theorem PySem.W.Fast.tw9565988481564863213:True:=trivial
theorem PySem.W.Fast.tw17820986662538790812:True:=trivial
theorem PySem.W.Fast.tw17840477017308858619:True:=trivial
theorem PySem.W.Fast.tw6932567724179053230:True:=trivial
theorem PySem.W.Fast.tw4312042592309241393:True:=trivial
set_option maxRecDepth 100000 in
set_option maxHeartbeats 0 in
theorem PySem.Challenge.cw_farcuts_k78_tables_written_and_read_holds : PySem.Challenge.rw_farcuts_k78_tables_written_and_read.Holds := by
  w_on; o_law; k_head; (case hw => w_witness2)
  k_fill
  refine My.walk (l := PySem.Challenge.rw_farcuts_k78_tables_written_and_read) rfl rfl (fun w h Y => PySem.W.kIn_of Y) ?F
  case F =>
    intro w mg fa h KX G hmg
    refine' My.all_mk KX G hmg ?_ ?_ ?_ ?_ ?_ ?_ ?_ ?_ ?_ ?_ ?_ ?_ ?_ ?_ ?_ ?_ ?_ ?_ ?_ ?_ ?_ ?_ ?_ ?_ ?_ ?_ ?_ ?_ ?_ ?_ ?_ ?_ ?_ ?_ ?_ ?_ ?_ ?_ ?_ ?_ ?_ ?_ ?_ ?_ ?_
    all_goals try (first | (refine' ⟨?a, L2.fun_mk ?l ?c ?k⟩; (case a => k_is); (case l => k_is); (case c => k_is); (case k => k_is)) | k_is | kit_is | (show PySem.W.excIn _ _ _ _ = true; k_exc) | (refine' ⟨?_, ?_, ?_, ?_, ?_, ?_, ?_, ?_, ?_, ?_, ?_⟩ <;> first | k_is | kit_is | (show PySem.W.isClsIn _ _ = true; k_is)))
#print axioms PySem.Challenge.cw_farcuts_k78_tables_written_and_read_holds
