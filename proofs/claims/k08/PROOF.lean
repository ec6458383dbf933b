import PyProof.Rows.All
import Wide.All
import OpenK.AllK
import Wide.FinOn
import PyProof.EqAt
import PyProof.EqKinds
import PyProof.TupleCall
import PyProof.P3In
import PyProof.ZipIter
import PyProof.ListRange
import PyProof.SetRoads
import PyProof.Rows.SetFrom
import PyProof.Rows.SeqMore2
import KE.RegKIsAll
import PySem.Challenge.RW_farcuts_k08_parts_of_tables
set_option Elab.async false
set_option linter.all false
set_option maxRecDepth 100000
/-! THE HAND LAYER, for ints, bools, texts, own classes, LISTS and tuples (index, slices, in, append, pop ..), calls, loops. Paste it whole ahead of your own text; what your proof does not reach may be deleted. -/
namespace L2
open PySem PySem.Spec PyProof.Rows

noncomputable abbrev Key := Sum Int Str
noncomputable def keyIs : Key → Value → Bool
  | .inl k, v => Value.isInt k v
  | .inr x, v => Value.isStrOf x v
noncomputable def keyH (w : World) : Key → Int
  | .inl k => hashInt k
  | .inr x => hashStr w x
theorem keyIs_shape : ∀ {k : Key} {v : Value}, keyIs k v = true → (∃ i t, k = Sum.inl i ∧ v = Value.int i t) ∨ (∃ x t, k = Sum.inr x ∧ v = Value.str x t)
  | .inl i, v, h => by
    obtain ⟨t, e⟩ := Value.isInt_shape (k := i) (v := v) h
    exact .inl ⟨i, t, rfl, e⟩
  | .inr x, v, h => by
    obtain ⟨t, e⟩ := Value.isStrOf_shape (x := x) (v := v) h
    exact .inr ⟨x, t, rfl, e⟩
theorem key_ll (a b : Int) : decide ((Sum.inl a : Key) = Sum.inl b) = (a == b) := by
  by_cases e : a = b
  · subst e; simp
  · have h : ¬ (Sum.inl a : Key) = Sum.inl b := fun q => e (Sum.inl.inj q)
    rw [decide_eq_false h]
    exact (beq_eq_false_iff_ne.mpr e).symm
theorem key_rr (a b : Str) : decide ((Sum.inr a : Key) = Sum.inr b) = decide (a = b) := by
  by_cases e : a = b
  · subst e; simp
  · have h : ¬ (Sum.inr a : Key) = Sum.inr b := fun q => e (Sum.inr.inj q)
    rw [decide_eq_false h, decide_eq_false e]
theorem key_lr (a : Int) (b : Str) : decide ((Sum.inl a : Key) = Sum.inr b) = false := decide_eq_false (fun q => nomatch q)
theorem key_rl (a : Str) (b : Int) : decide ((Sum.inr a : Key) = Sum.inl b) = false := decide_eq_false (fun q => nomatch q)

noncomputable def mixKind (prog : Program) (w : World) : PySem.KeyKind prog w Key where
  is := keyIs
  hash := keyH w
  inj := fun v a b ha hb => by
    rcases keyIs_shape ha with ⟨i, t, rfl, rfl⟩ | ⟨x, t, rfl, rfl⟩
    · rcases keyIs_shape hb with ⟨j, u, rfl, e⟩ | ⟨y, u, rfl, e⟩
      · injection e with e1 _; rw [e1]
      · exact nomatch e
    · rcases keyIs_shape hb with ⟨j, u, rfl, e⟩ | ⟨y, u, rfl, e⟩
      · exact nomatch e
      · injection e with e1 _; rw [e1]
  byValue := fun k v h => by
    rcases keyIs_shape h with ⟨i, t, rfl, rfl⟩ | ⟨x, t, rfl, rfl⟩ <;> rfl
  pyHash := fun hv h => by
    rcases keyIs_shape hv with ⟨i, t, rfl, rfl⟩ | ⟨x, t, rfl, rfl⟩
    · exact wpAny_pyHash_int h
    · exact wpAny_pyHash_str h
  eqBool := fun hu hv h => by
    rcases keyIs_shape hu with ⟨i, t, rfl, rfl⟩ | ⟨x, t, rfl, rfl⟩
    · rcases keyIs_shape hv with ⟨j, u, rfl, rfl⟩ | ⟨y, u, rfl, rfl⟩
      · rw [key_ll] at h; exact wpAny_eqBool_int h
      · rw [key_lr] at h; exact SeqAt.EqAt.int_str i t y u _ _ _ _ h
    · rcases keyIs_shape hv with ⟨j, u, rfl, rfl⟩ | ⟨y, u, rfl, rfl⟩
      · rw [key_rl] at h; exact SeqAt.EqAt.str_int x t j u _ _ _ _ h
      · rw [key_rr] at h; exact wpAny_eqBool_str h
  «strs» := fun k x t v h => by
    rcases keyIs_shape h with ⟨i, u, rfl, e⟩ | ⟨y, u, rfl, e⟩
    · exact nomatch e
    · injection e with e1 _
      subst e1
      cases v <;> rfl

end L2

namespace L2
open PySem PySem.Spec PyProof.Rows

inductive V where
  | non | bl (b : Bool) | int (i : Int) | str (x : Str) | byt (b : Array UInt8) | flt (b : UInt64) | ref (a : Addr) | ty (n : String)
  deriving DecidableEq

noncomputable def RelV : V → Value → Prop
  | .non, u => u = Value.none
  | .bl b, u => u = Value.bool b
  | .int i, u => ∃ t, u = Value.int i t
  | .str x, u => ∃ t, u = Value.str x t
  | .byt b, u => ∃ t, u = Value.bytes b t
  | .flt b, u => ∃ t, u = Value.float b t
  | .ref a, u => u = Value.ref a
  | .ty n, u => u = Value.type n

noncomputable abbrev Vals : List V → List Value → Prop := Paired RelV
theorem Vals.length {xs : List V} {us : List Value} (r : Vals xs us) : xs.length = us.length := Paired.length r
theorem Vals.get : ∀ {xs : List V} {us : List Value} {i : Nat} {x : V}, Vals xs us → xs[i]? = some x → ∃ u, us[i]? = some u ∧ RelV x u
  | _, _, _, _, .nil, e => by simp at e
  | _, _, 0, _, .cons r _, e => by simp at e; subst e; exact ⟨_, rfl, r⟩
  | _, _, i + 1, x, .cons _ t, e => by
    obtain ⟨u, h1, h2⟩ := Vals.get (i := i) (x := x) t (by simpa using e)
    exact ⟨u, by simpa using h1, h2⟩
theorem Vals.set {x : V} {u : Value} (r : RelV x u) : ∀ {xs : List V} {us : List Value} (i : Nat), Vals xs us → Vals (xs.set i x) (us.set i u)
  | _, _, _, .nil => .nil
  | _, _, 0, .cons _ t => .cons r t
  | _, _, i + 1, .cons q t => .cons q (Vals.set r i t)
theorem Vals.append : ∀ {xs ys : List V} {us ws : List Value}, Vals xs us → Vals ys ws → Vals (xs ++ ys) (us ++ ws)
  | _, _, _, _, .nil, s => s
  | _, _, _, _, .cons r t, s => .cons r (Vals.append t s)
theorem Vals.take : ∀ {xs : List V} {us : List Value} (n : Nat), Vals xs us → Vals (xs.take n) (us.take n)
  | _, _, 0, _ => .nil
  | _, _, _ + 1, .nil => .nil
  | _, _, n + 1, .cons r t => .cons r (Vals.take n t)
theorem Vals.drop : ∀ {xs : List V} {us : List Value} (n : Nat), Vals xs us → Vals (xs.drop n) (us.drop n)
  | _, _, 0, r => r
  | _, _, _ + 1, .nil => .nil
  | _, _, n + 1, .cons _ t => Vals.drop n t
noncomputable def RelO : Option V → Option Value → Prop
  | some v, some u => RelV v u
  | none, none => True
  | _, _ => False
noncomputable def KV {κ : Type} : List (κ × V) → List (κ × Value) → Prop := Paired fun (p : κ × V) (q : κ × Value) => p.1 = q.1 ∧ RelV p.2 q.2

noncomputable def kV : Key → V
  | .inl i => .int i
  | .inr x => .str x

inductive HO where
    | lst (xs : List V)
    | tup (xs : List V)
    | dK (kvs : List (Key × V)) | dT (kvs : List (List Key × V))
    | set (S : Int → Bool) (n : Nat)
    | ins (C dx : Addr) (fs : List (Str × V))
    | own (x : Addr)
    | xd (fs : List (Str × V))
    | met (f x : Addr)
    | rng (lo hi : Int)
    | frz (o : Obj) (u : HO)
    | tbl (ps : Array Value)
    | ext (φ : Heap → Prop)

noncomputable abbrev Hp := Addr → Option HO
noncomputable def upd (H : Hp) (a : Addr) (o : HO) : Hp := fun b => if b = a then some o else H b
theorem upd_same {H : Hp} {a : Addr} {o : HO} : upd H a o a = some o := by unfold upd; rw [if_pos rfl]
theorem upd_ne {H : Hp} {a b : Addr} {o : HO} (h : b ≠ a) : upd H a o b = H b := by unfold upd; rw [if_neg h]
theorem ne_of_none {H : Hp} {a b : Addr} {o : HO} (h : H a = some o) (h' : H b = none) : a ≠ b := by
  intro e; subst e; rw [h] at h'; cases h'

section
variable (P : Program) (w : World)
noncomputable def ObjOk (H : Hp) (h : Heap) (a : Addr) : HO → Prop
  | .lst xs => xs.length ≤ sizeLine ∧ ∃ (its : List Value) (n : Nat), Vals xs its ∧ h.get? a = some { cls := .type "list", data := .seq its.toArray n }
  | .tup xs => xs.length ≤ sizeLine ∧ ∃ its : List Value, Vals xs its ∧ IsTup h a its.toArray
  | .dK kvs => kvs.length ≤ sizeLine ∧ (a == sysModules) = false ∧ ∃ vs, KV kvs vs ∧ h.DictOf (mixKind P w) a vs
  | .dT kvs => kvs.length ≤ sizeLine ∧ (a == sysModules) = false ∧ ∃ xs : List (List Key × Addr × Value),
      Paired (fun (p : List Key × V) (q : List Key × Addr × Value) => p.1 = q.1 ∧ H q.2.1 = some (.tup (p.1.map kV)) ∧ RelV p.2 q.2.2) kvs xs ∧
      ∃ o es ep, h.get? a = some o ∧ o.ExactDict ∧ o.data = .dict es ep ∧ es.toList = xs.map (entryOfKey (tupleKind (mixKind P w))) ∧ (xs.map (·.1)).Nodup
  | .set S n => h.SetOf (intKind P w) a S n
  | .ins C dx fs => H dx = some (.own a) ∧ fs.length ≤ 1000 ∧ dx ≠ a ∧ h.get? a = some (PySem.W.instObj C dx) ∧
      ∃ mA, h.Ns1 dx mA ∧ (∀ f, RelO (fs.lookup f) (mA f)) ∧ PySem.Within mA (fs.map (·.1))
  | .own _ => ∃ o, h.get? a = some o
  | .xd fs => ∃ mA, h.Ns1 a mA ∧ ∀ f, RelO (fs.lookup f) (mA f)
  | .rng lo hi => ∃ t u v, h.get? a = some { cls := .type "range", data := .fields #[.int lo t, .int hi u, .int 1 v] }
  | .frz o u => h.get? a = some o ∧ ObjOk H h a u
  | .tbl ps => h.get? a = some { cls := .none, data := .fields ps }
  | .met f x => h.get? a = some (PySem.W.methodObj (.ref f) (.ref x))
  | .ext φ => φ h ∧ (∃ o, h.get? a = some o) ∧ ∀ h1 h2 : Heap, φ h1 → (∀ o, h1.get? a = some o → h2.get? a = some o) → φ h2
noncomputable def HOk (H : Hp) (h : Heap) : Prop := ∀ a o, H a = some o → ObjOk P w H h a o
end

section
variable {P : Program} {w : World} {H H' : Hp} {h h' : Heap} {a : Addr} {o : HO}
theorem ObjOk.lt (x : ObjOk P w H h a o) : a < h.objs.size := by
  cases o with
  | lst xs => obtain ⟨_, _, _, _, e⟩ := x; exact Heap.lt_size e
  | tup xs => obtain ⟨_, _, _, p⟩ := x; exact p.lt
  | dK kvs => obtain ⟨_, _, _, _, o, _, _, e, _⟩ := x; exact Heap.lt_size e
  | dT kvs => obtain ⟨_, _, _, _, o, _, _, e, _⟩ := x; exact Heap.lt_size e
  | set S n => obtain ⟨o, _, _, _, e, _⟩ := x; exact Heap.lt_size e
  | ins C dx fs => obtain ⟨_, _, _, e, _⟩ := x; exact Heap.lt_size e
  | own y => obtain ⟨_, e⟩ := x; exact Heap.lt_size e
  | xd fs => obtain ⟨_, ⟨_, _, _, e, _⟩, _⟩ := x; exact Heap.lt_size e
  | rng lo hi => obtain ⟨_, _, _, e⟩ := x; exact Heap.lt_size e
  | frz ob u => obtain ⟨e, _⟩ := x; exact Heap.lt_size e
  | tbl ps => exact Heap.lt_size (show h.get? a = some _ from x)
  | met f y => exact Heap.lt_size (show h.get? a = some _ from x)
  | ext φ => obtain ⟨_, ⟨_, e⟩, _⟩ := x; exact Heap.lt_size e
theorem Paired.mapP {α β : Type} {F G : α → β → Prop} : ∀ {l₁ : List α} {l₂ : List β}, Paired F l₁ l₂ → (∀ a b, F a b → G a b) → Paired G l₁ l₂
  | _, _, .nil, _ => .nil
  | _, _, .cons r t, f => .cons (f _ _ r) (Paired.mapP t f)
theorem ObjOk.stay (x : ObjOk P w H h a o) (k : ∀ b u, (b = a ∨ H b = some (.own a)) → h.get? b = some u → h'.get? b = some u)
    (ho : ∀ b, H b = some (.own a) → H' b = some (.own a)) (ht : ∀ b xs, H b = some (.tup xs) → H' b = some (.tup xs)) : ObjOk P w H' h' a o := by
  induction o with
  | lst xs => obtain ⟨z, its, n, r, e⟩ := x; exact ⟨z, its, n, r, k _ _ (.inl rfl) e⟩
  | tup xs => obtain ⟨z, its, r, ob, e, c⟩ := x; exact ⟨z, its, r, ob, k _ _ (.inl rfl) e, c⟩
  | dK kvs => obtain ⟨z, y, vs, r, ob, es, ep, e, c⟩ := x; exact ⟨z, y, vs, r, ob, es, ep, k _ _ (.inl rfl) e, c⟩
  | dT kvs =>
    obtain ⟨z, y, xs, r, ob, es, ep, e, c⟩ := x
    exact ⟨z, y, xs, Paired.mapP r fun p q z => ⟨z.1, ht _ _ z.2.1, z.2.2⟩, ob, es, ep, k _ _ (.inl rfl) e, c⟩
  | set S n => obtain ⟨ob, es, ep, t, e, c⟩ := x; exact ⟨ob, es, ep, t, k _ _ (.inl rfl) e, c⟩
  | ins C dx fs =>
    obtain ⟨d, z, ne, e, mA, ⟨od, es, ep, e2, c⟩, r⟩ := x
    exact ⟨ho _ d, z, ne, k _ _ (.inl rfl) e, mA, ⟨od, es, ep, k _ _ (.inr d) e2, c⟩, r⟩
  | own y => obtain ⟨ob, e⟩ := x; exact ⟨ob, k _ _ (.inl rfl) e⟩
  | xd fs => obtain ⟨mA, ⟨od, es, ep, e, c⟩, r⟩ := x; exact ⟨mA, ⟨od, es, ep, k _ _ (.inl rfl) e, c⟩, r⟩
  | rng lo hi => obtain ⟨t, u, v, e⟩ := x; exact ⟨t, u, v, k _ _ (.inl rfl) e⟩
  | frz ob u ih => obtain ⟨e, q⟩ := x; exact ⟨k _ _ (.inl rfl) e, ih q⟩
  | tbl ps =>
    have e : h.get? a = some { cls := .none, data := .fields ps } := x
    show h'.get? a = some { cls := .none, data := .fields ps }
    exact k a _ (.inl rfl) e
  | met f y =>
    have e : h.get? a = some (PySem.W.methodObj (.ref f) (.ref y)) := x
    show h'.get? a = some (PySem.W.methodObj (.ref f) (.ref y))
    exact k a _ (.inl rfl) e
  | ext φ => obtain ⟨p, ⟨o, e⟩, st⟩ := x; exact ⟨st _ _ p fun o q => k _ _ (.inl rfl) q, ⟨o, k _ _ (.inl rfl) e⟩, st⟩
theorem HOk.lt (x : HOk P w H h) (e : H a = some o) : a < h.objs.size := (x a o e).lt
theorem HOk.fresh (x : HOk P w H h) (e : h.objs.size ≤ a) : H a = none := by
  cases q : H a with
  | none => rfl
  | some u => exact absurd (Nat.lt_of_lt_of_le (x.lt q) e) (Nat.lt_irrefl _)
theorem HOk.kept (x : HOk P w H h) (k : ∀ b u, h.get? b = some u → h'.get? b = some u) : HOk P w H h' := fun a o e =>
  (x a o e).stay (fun b u _ q => k b u q) (fun _ q => q) fun _ _ q => q
theorem HOk.laid (x : HOk P w H h) (k : ∀ b u, h.get? b = some u → h'.get? b = some u) (hp : h.objs.size ≤ a) (new : ObjOk P w (upd H a o) h' a o) : HOk P w (upd H a o) h' := fun b u e => by
  have hn := x.fresh hp
  by_cases hb : b = a
  · subst hb; rw [upd_same] at e; cases e; exact new
  · rw [upd_ne hb] at e
    exact (x b u e).stay (fun c v _ q => k c v q) (fun c q => by rw [upd_ne (ne_of_none q hn)]; exact q) fun c xs q => by rw [upd_ne (ne_of_none q hn)]; exact q
end

noncomputable def Rd (H : Hp) (a : Addr) (u : HO) : Prop := H a = some u ∨ ∃ o, H a = some (.frz o u)
theorem Rd.of {H : Hp} {a : Addr} {u : HO} (h : H a = some u) : Rd H a u := .inl h
theorem Rd.ok {P : Program} {w : World} {H : Hp} {h : Heap} {a : Addr} {u : HO} (r : Rd H a u) (x : HOk P w H h) : ObjOk P w H h a u := by
  rcases r with r | ⟨o, r⟩
  · exact x a u r
  · obtain ⟨_, q⟩ := x a _ r
    exact q
noncomputable def Mut : Option HO → Prop
  | some (.lst _) => True
  | some (.dK _) => True
  | some (.dT _) => True
  | some (.set _ _) => True
  | some (.ins _ _ _) => True
  | some (.ext _) => True
  | _ => False
section
variable {P : Program} {w : World} {H : Hp} {h h' : Heap} {x e : Addr} {o' : HO}
theorem HOk.write (ok : HOk P w H h) (mu : Mut (H x)) (he : e = x ∨ H e = some (.own x)) (k : ∀ b u, b ≠ e → h.get? b = some u → h'.get? b = some u) (heo : ∃ u, h'.get? e = some u)
    (new : ObjOk P w (upd H x o') h' x o') : HOk P w (upd H x o') h' := fun b u q => by
  have nown : ∀ c y, H c = some (.own y) → c ≠ x := fun c y r z => by subst z; rw [r] at mu; exact mu
  have ntup : ∀ c xs, H c = some (.tup xs) → c ≠ x := fun c xs r z => by subst z; rw [r] at mu; exact mu
  by_cases hb : b = x
  · subst hb; rw [upd_same] at q; cases q; exact new
  · rw [upd_ne hb] at q
    by_cases hbe : b = e
    · have q' : H b = some (.own x) := by
        rcases he with z | z
        · exact absurd (hbe.trans z) hb
        · rw [hbe]; exact z
      rw [q] at q'; cases q'
      obtain ⟨v, hv⟩ := heo
      exact ⟨v, by rw [hbe]; exact hv⟩
    · refine (ok b u q).stay (fun c v hc r => k c v ?_ r) (fun c r => by rw [upd_ne (nown c b r)]; exact r) fun c xs r => by rw [upd_ne (ntup c xs r)]; exact r
      rcases hc with rfl | hc
      · exact hbe
      · rintro rfl
        rcases he with z | z
        · exact nown c b hc z
        · rw [hc] at z; cases z; exact hb rfl
end

structure Un (fs ex : List Addr) (H H' : Hp) (h h' : Heap) : Prop where
  keep : ∀ b o, h.get? b = some o → H b = none → b ∉ fs → b ∉ ex → h'.get? b = some o
  slot : ∀ b o, h.get? b = some o → H b = none → b ∈ fs → b ∉ ex → ∃ sl, h'.get? b = some { o with slots := sl }
  free : ∀ b o, h.get? b = some o → H b = none → b ∉ ex → H' b = none
  there : ∀ b o, h.get? b = some o → b ∉ ex → ∃ o', h'.get? b = some o'
  tups : ∀ b xs, H b = some (.tup xs) → H' b = some (.tup xs)
  frzs : ∀ b o u, H b = some (.frz o u) → H' b = some (.frz o u)
  tbls : ∀ b ps, H b = some (.tbl ps) → ∃ more, H' b = some (.tbl (ps ++ more))
section
variable {fs fs' ex ex' : List Addr} {H H1 H2 : Hp} {h h1 h2 h' : Heap} {a x e : Addr} {o : HO}
theorem Un.any (u : Un fs ex H H1 h h1) {b : Addr} {ob : Obj} (q : h.get? b = some ob) (n : H b = none) (hx : b ∉ ex) : ∃ sl, h1.get? b = some { ob with slots := sl } := by
  by_cases hb : b ∈ fs
  · exact u.slot b ob q n hb hx
  · exact ⟨ob.slots, u.keep b ob q n hb hx⟩
theorem Un.trans (a : Un fs ex H H1 h h1) (b : Un fs ex H1 H2 h1 h2) : Un fs ex H H2 h h2 where
  keep := fun c ob q n hc hx => b.keep c ob (a.keep c ob q n hc hx) (a.free c ob q n hx) hc hx
  slot := fun c ob q n hc hx => by
    obtain ⟨sl, e1⟩ := a.slot c ob q n hc hx
    obtain ⟨sl', e2⟩ := b.slot c _ e1 (a.free c ob q n hx) hc hx
    exact ⟨sl', e2⟩
  free := fun c ob q n hx => by
    obtain ⟨o', e1⟩ := a.there c ob q hx
    exact b.free c o' e1 (a.free c ob q n hx) hx
  there := fun c ob q hx => by
    obtain ⟨o', e1⟩ := a.there c ob q hx
    exact b.there c o' e1 hx
  tups := fun c xs q => b.tups c xs (a.tups c xs q)
  frzs := fun c ob xs q => b.frzs c ob xs (a.frzs c ob xs q)
  tbls := fun c ps q => by
    obtain ⟨m1, e1⟩ := a.tbls c ps q
    obtain ⟨m2, e2⟩ := b.tbls c _ e1
    exact ⟨m1 ++ m2, by rw [e2, Array.append_assoc]⟩
theorem Un.kept (k : ∀ b u, h.get? b = some u → h'.get? b = some u) : Un fs ex H H h h' :=
  ⟨fun b ob q _ _ _ => k b ob q, fun b ob q _ _ _ => ⟨ob.slots, k b ob q⟩, fun _ _ _ n _ => n, fun b ob q _ => ⟨ob, k b ob q⟩, fun _ _ q => q, fun _ _ _ q => q, fun _ ps q => ⟨#[], by rw [q]; simp⟩⟩
theorem Un.refl : Un fs ex H H h h := Un.kept fun _ _ q => q
theorem Un.laid (k : ∀ b u, h.get? b = some u → h'.get? b = some u) (hp : h.objs.size ≤ a) (hn : H a = none) : Un fs ex H (upd H a o) h h' where
  keep := fun b u q _ _ _ => k b u q
  slot := fun b u q _ _ _ => ⟨u.slots, k b u q⟩
  free := fun b u q n _ => by rw [upd_ne (Nat.ne_of_lt (Nat.lt_of_lt_of_le (Heap.lt_size q) hp))]; exact n
  there := fun b u q _ => ⟨u, k b u q⟩
  tups := fun b xs q => by rw [upd_ne (ne_of_none q hn)]; exact q
  frzs := fun b u xs q => by rw [upd_ne (ne_of_none q hn)]; exact q
  tbls := fun b ps q => ⟨#[], by rw [upd_ne (ne_of_none q hn), q]; simp⟩
theorem Un.write (mu : Mut (H x)) (he : e = x ∨ H e = some (.own x)) (k : ∀ b u, b ≠ e → h.get? b = some u → h'.get? b = some u) (heo : ∃ u, h'.get? e = some u) : Un fs ex H (upd H x o) h h' := by
  have hx : ∀ b, H b = none → b ≠ x := fun b n z => by subst z; rw [n] at mu; exact mu
  have hb : ∀ b, H b = none → b ≠ e := fun b n z => by
    subst z
    rcases he with r | r
    · exact hx b n r
    · rw [n] at r; cases r
  have hm : ∀ b u, H b = some u → ¬ Mut (some u) → b ≠ x := fun b u q nm z => by subst z; rw [q] at mu; exact nm mu
  refine ⟨fun b u q n _ _ => k b u (hb b n) q, fun b u q n _ _ => ⟨u.slots, k b u (hb b n) q⟩, fun b u q n _ => by rw [upd_ne (hx b n)]; exact n, fun b u q _ => ?_,
    fun b xs q => by rw [upd_ne (hm b _ q fun z => z)]; exact q, fun b u xs q => by rw [upd_ne (hm b _ q fun z => z)]; exact q, fun b ps q => ⟨#[], by rw [upd_ne (hm b _ q fun z => z), q]; simp⟩⟩
  by_cases hbe : b = e
  · subst hbe; exact heo
  · exact ⟨u, k b u hbe q⟩
theorem Un.mono (u : Un fs ex H H1 h h1) (hs : ∀ b ∈ fs, b ∈ fs') (hx : ∀ b ∈ ex, b ∈ ex') : Un fs' ex' H H1 h h1 :=
  ⟨fun b ob q n hb he => u.keep b ob q n (fun z => hb (hs b z)) fun z => he (hx b z), fun _ _ q n _ he => u.any q n fun z => he (hx _ z), fun b ob q n he => u.free b ob q n fun z => he (hx b z), fun b ob q he => u.there b ob q fun z => he (hx b z), u.tups, u.frzs, u.tbls⟩
end

noncomputable def trk (h : Heap) (H : Hp) : List Addr := (List.range h.objs.size).filter fun a => (H a).isSome
noncomputable def hidT (h : Heap) (H : Hp) : Heap := PySem.W.hideAll h (trk h H)
theorem hidT_size (h : Heap) (H : Hp) : (hidT h H).objs.size = h.objs.size := PySem.W.hideAll_size _ _
theorem hidT_get {h : Heap} {H : Hp} {b : Addr} {o : Obj} (e : h.get? b = some o) (n : H b = none) : (hidT h H).get? b = some o :=
  PySem.W.hideAll_get _ e fun hm => by
    have q : (H b).isSome = true := (List.mem_filter.mp hm).2
    rw [n] at q; simp at q
theorem of_hidT {h : Heap} {H : Hp} {b : Addr} {o : Obj} (e : (hidT h H).get? b = some o) : h.get? b = some o ∧ H b = none := by
  have e' : h.get? b = some o := PySem.W.of_hideAll (trk h H) e
  refine ⟨e', ?_⟩
  cases q : H b with
  | none => rfl
  | some x =>
    have hm : b ∈ trk h H := List.mem_filter.mpr ⟨List.mem_range.mpr (Heap.lt_size e'), by simp [q]⟩
    have z : (hidT h H).get? b = none := PySem.W.hideAll_none (trk h H) hm
    rw [z] at e; cases e

noncomputable def allNews (g h : Heap) (L : Addr) : List (Addr × Obj) := (List.range h.objs.size).filterMap fun a => if a = L ∨ (g.get? a).isSome = true then none else (h.get? a).map fun o => (a, o)
noncomputable def rest (g h : Heap) (L d : Addr) : List (Addr × Obj) := (allNews g h L).filter fun p => decide (p.1 ≠ d)
end L2

namespace L2
open PySem PySem.Spec PyProof.Rows

structure Mod (K : PySem.W.Frag) (mg : Str → Option Value) (base : Heap) : Prop where
  kin : K.In base
  glob : base.Ns mainGlobals mg
  blt : ∃ mb, base.Ns builtinsNs mb ∧ ∀ x : Str, x ≠ "__name__" → mb x = bootBuiltins x
  nolimit : base.NoLimit

structure Cx where
  prog : Program
  w : World
  K : PySem.W.Frag
  mg : Str → Option Value
  base : Heap
  A : Around
  N : List Str
  s₀ : Shared
  H₀ : Hp
  env : Env
  outer : List Env
  stack : List Env
  ex : List Addr
  fn : Str → Bool
  calm : Bool
  pn : List (Addr × Obj)
  xe : Value → Shared → Prop
noncomputable def frs (l : List Env) : List Addr := l.filterMap (·.frame)
noncomputable abbrev Cx.fs (X : Cx) : List Addr := frs X.outer

noncomputable def Vis (sc : Scope) (x : Str) : Prop := sc.names.lookup x = some .local ∨ sc.names.lookup x = some .cell ∨ sc.names.lookup x = some .free
noncomputable def Loc (sc : Scope) (x : Str) : Prop := sc.names.lookup x = some .local ∨ sc.names.lookup x = some .cell
noncomputable def Look (env : Env) (h : Heap) (m : Str → Option Value) (x : Str) (u : Value) : Prop :=
  (env.kindOf x = some .local ∧ m x = some u) ∨ ((env.kindOf x = some .cell ∨ env.kindOf x = some .free) ∧ ∃ c, env.cells.lookup x = some c ∧ h.IsCell c (some u))

structure Cx.Ok (X : Cx) : Prop where
  mod : Mod X.K X.mg X.base
  kind : X.env.scope.kind = .function
  glob : X.env.globals = mainGlobals
  blt : X.env.builtins = builtinsNs
  above : X.s₀.heap.objs.size ≤ X.env.locals
  inj : ∀ x y c, X.env.cells.lookup x = some c → X.env.cells.lookup y = some c → x = y
  has : ∀ x, (X.env.kindOf x = some .cell ∨ X.env.kindOf x = some .free) → ∃ c, X.env.cells.lookup x = some c
  cab : ∀ x c, X.fn x = true → X.env.cells.lookup x = some c → X.s₀.heap.objs.size ≤ c
  hd : X.calm = true → X.A.handled = none
  frames : X.A.frames = some X.stack
  stk : X.stack = X.outer ∨ (X.stack = X.env :: X.outer ∧ X.env.frame = some X.env.locals)
  exf : ∀ b ∈ X.ex, b ≠ X.env.locals ∧ ∀ x c, X.env.cells.lookup x = some c → c ≠ b
  bs : ∀ b o, X.base.get? b = some o → X.s₀.heap.get? b = some o ∧ X.H₀ b = none
  bsz : X.base.objs.size ≤ X.s₀.heap.objs.size
  noex : ∀ b o, X.base.get? b = some o → b ∉ X.ex
  exfs : ∀ b ∈ X.ex, b ∉ X.fs
  funs : X.s₀.heap.FunFrames X.base X.outer
  frf : ∀ b ∈ X.fs, X.H₀ b = none

structure Inv (X : Cx) (pins : List (Addr × Obj)) (σ : List (Option V)) (H : Hp) (s : Shared) : Prop where
  ok : X.Ok
  os : s.os = X.s₀.os
  bare : AllBare s.gens
  base : Un X.fs X.ex X.H₀ H X.s₀.heap s.heap
  loc : ∃ m, s.heap.Ns X.env.locals m ∧ ∀ (i : Nat) (x : Str) (v : V), X.N[i]? = some x → σ[i]? = some (some v) → Vis X.env.scope x → ∃ u, RelV v u ∧ Look X.env s.heap m x u
  cell : ∀ x c, X.env.cells.lookup x = some c → ∃ v, s.heap.IsCell c v
  free : H X.env.locals = none
  freeC : ∀ x c, X.env.cells.lookup x = some c → H c = none
  pin : ∀ p ∈ X.pn ++ pins, s.heap.get? p.1 = some p.2 ∧ H p.1 = none ∧ p.1 ≠ X.env.locals ∧ p.1 ∉ X.fs ∧ ∀ v, p.2.data ≠ .cell v
  hok : HOk X.prog X.w H s.heap
  len : σ.length = X.N.length

section
variable {X : Cx} {pins : List (Addr × Obj)} {σ : List (Option V)} {H H' : Hp} {s : Shared} {h' : Heap}

theorem Cx.Ok.nofr (ok : X.Ok) {b : Addr} {o : Obj} (e : X.base.get? b = some o) : b ∉ X.fs := fun hb => by
  have := (ok.funs.mem hb).1
  rw [e] at this; cases this
theorem Inv.bs (I : Inv X pins σ H s) : ∀ b o, X.base.get? b = some o → s.heap.get? b = some o ∧ H b = none := fun b o e =>
  ⟨I.base.keep b o (I.ok.bs b o e).1 (I.ok.bs b o e).2 (I.ok.nofr e) (I.ok.noex b o e), I.base.free b o (I.ok.bs b o e).1 (I.ok.bs b o e).2 (I.ok.noex b o e)⟩
theorem Inv.bk (I : Inv X pins σ H s) : ∀ b o, X.base.get? b = some o → s.heap.get? b = some o := fun b o e => (I.bs b o e).1
theorem Inv.mod (I : Inv X pins σ H s) : Mod X.K X.mg X.base := I.ok.mod
theorem Inv.kIn (I : Inv X pins σ H s) : X.K.In s.heap := I.ok.mod.kin.keeps I.bk
theorem Inv.fr (I : Inv X pins σ H s) : ∃ m, Fr X.base X.env.locals s.heap m :=
  let ⟨m, hn, _⟩ := I.loc
  ⟨m, hn, I.bk, Nat.le_trans I.ok.bsz I.ok.above⟩
theorem Inv.lt (I : Inv X pins σ H s) : X.env.locals < s.heap.objs.size := let ⟨_, hn, _⟩ := I.loc; hn.lt
theorem Inv.sz (I : Inv X pins σ H s) : X.s₀.heap.objs.size ≤ s.heap.objs.size := Nat.le_trans I.ok.above (Nat.le_of_lt I.lt)
theorem Inv.nofs (I : Inv X pins σ H s) {a : Addr} (h : s.heap.objs.size ≤ a) : a ∉ X.fs := fun hb => by
  obtain ⟨_, o, ho, _⟩ := I.ok.funs.mem hb
  exact absurd (Nat.lt_of_lt_of_le (Heap.lt_size ho) (Nat.le_trans I.sz h)) (Nat.lt_irrefl _)
theorem Inv.cne (I : Inv X pins σ H s) : ∀ x c, X.env.cells.lookup x = some c → c ≠ X.env.locals := fun x c e z => by
  obtain ⟨v, o, ho, hd⟩ := I.cell x c e
  obtain ⟨m, ⟨o', es, ep, ho', hd', _⟩, _⟩ := I.loc
  rw [z, ho'] at ho; cases ho; rw [hd'] at hd; cases hd
theorem Inv.funs (I : Inv X pins σ H s) : s.heap.FunFrames X.base X.outer := by
  have all : ∀ (l : List Env), (∀ b ∈ frs l, b ∈ X.fs) → X.s₀.heap.FunFrames X.base l → s.heap.FunFrames X.base l := by
    intro l
    induction l with
    | nil => intro _ _; trivial
    | cons env r ih =>
      intro hs hl
      obtain ⟨hk, ⟨L, o, hf, hn, ho, hd⟩, hr⟩ := hl
      have hL : L ∈ X.fs := hs L (by unfold frs; rw [List.filterMap_cons, hf]; exact List.mem_cons_self)
      obtain ⟨sl, e⟩ := I.base.slot L o ho (I.ok.frf L hL) hL fun z => I.ok.exfs L z hL
      exact ⟨hk, ⟨L, _, hf, hn, e, hd⟩, ih (fun b hb => hs b (by unfold frs; rw [List.filterMap_cons, hf]; exact List.mem_cons_of_mem _ hb)) hr⟩
  exact all X.outer (fun _ hb => hb) I.ok.funs

theorem Inv.stack (I : Inv X pins σ H s) : s.heap.FunFrames X.base X.stack := by
  rcases I.ok.stk with e | ⟨e, hf⟩
  · rw [e]; exact I.funs
  · rw [e]
    obtain ⟨m, hn, _⟩ := I.loc
    refine .cons (by rw [I.ok.kind]; decide) hf hn ?_ I.funs
    exact Heap.get?_none_of_le (Nat.le_trans I.ok.bsz I.ok.above)
theorem Inv.stkSub (I : Inv X pins σ H s) : ∀ b ∈ frs X.stack, b ∈ X.env.locals :: X.fs := fun b hb => by
  rcases I.ok.stk with e | ⟨e, hf⟩
  · rw [e] at hb; exact List.mem_cons_of_mem _ hb
  · rw [e] at hb
    unfold frs at hb
    rw [List.filterMap_cons, hf] at hb
    exact hb
theorem Inv.stkFree (I : Inv X pins σ H s) : ∀ b ∈ frs X.stack, H b = none := fun b hb => by
  rcases List.mem_cons.mp (I.stkSub b hb) with e | hb
  · rw [e]; exact I.free
  · obtain ⟨_, o, ho, _⟩ := I.ok.funs.mem hb
    exact I.base.free b o ho (I.ok.frf b hb) fun z => I.ok.exfs b z hb

theorem Inv.step {g' : Array GenState} {t' : Nat} {d' : Drawn} {ch : List Addr} (I : Inv X pins σ H s)
    (hch : ∀ b ∈ ch, (b ∈ X.ex ∨ X.s₀.heap.objs.size ≤ b) ∧ b ≠ X.env.locals ∧ (∀ x c, X.env.cells.lookup x = some c → c ≠ b) ∧ ∀ p ∈ X.pn ++ pins, p.1 ≠ b)
    (keep : ∀ b o, b ≠ X.env.locals → b ∉ X.fs → b ∉ ch → s.heap.get? b = some o → H b = none → h'.get? b = some o)
    (slot : ∀ b o, b ≠ X.env.locals → b ∈ X.fs → b ∉ ch → s.heap.get? b = some o → H b = none → ∃ sl, h'.get? b = some { o with slots := sl }) (free : ∀ b o, b ∉ ch → s.heap.get? b = some o → H b = none → H' b = none)
    (there : ∀ b o, b ∉ ch → s.heap.get? b = some o → ∃ o', h'.get? b = some o')
    (tups : ∀ b xs, H b = some (.tup xs) → H' b = some (.tup xs)) (frzs : ∀ b o u, H b = some (.frz o u) → H' b = some (.frz o u)) (tbls : ∀ b ps, H b = some (.tbl ps) → ∃ more, H' b = some (.tbl (ps ++ more)))
    (ns : ∀ m, s.heap.Ns X.env.locals m → h'.Ns X.env.locals m) (hok : HOk X.prog X.w H' h') (hg : AllBare g') :
    Inv X pins σ H' { s with heap := h', gens := g', drawn := d', toks := t' } := by
  have neL : ∀ b o, X.s₀.heap.get? b = some o → b ≠ X.env.locals := fun b o e => Nat.ne_of_lt (Nat.lt_of_lt_of_le (Heap.lt_size e) I.ok.above)
  have neC : ∀ b o, X.s₀.heap.get? b = some o → b ∉ X.ex → b ∉ ch := fun b o e hx hb => by
    rcases (hch b hb).1 with z | z
    · exact hx z
    · exact absurd (Nat.lt_of_lt_of_le (Heap.lt_size e) z) (Nat.lt_irrefl _)
  have cellK : ∀ x c, X.env.cells.lookup x = some c → ∀ v, s.heap.IsCell c v → h'.IsCell c v := fun x c e v ⟨o, ho, hd⟩ => by
    have nch : c ∉ ch := fun z => (hch c z).2.2.1 x c e rfl
    by_cases hc : c ∈ X.fs
    · obtain ⟨sl, q⟩ := slot c o (I.cne x c e) hc nch ho (I.freeC x c e)
      exact ⟨_, q, hd⟩
    · exact ⟨o, keep c o (I.cne x c e) hc nch ho (I.freeC x c e), hd⟩
  refine ⟨I.ok, I.os, hg, ⟨fun b o e n hb hx => ?_, fun b o e n hb hx => ?_, fun b o e n hx => ?_, fun b o e hx => ?_, fun b xs e => tups b xs (I.base.tups b xs e), fun b o xs e => frzs b o xs (I.base.frzs b o xs e), fun b ps e => ?_⟩, ?_, fun x c e => ?_, ?_, fun x c e => ?_, fun p hp => ?_, hok, I.len⟩
  · exact keep b o (neL b o e) hb (neC b o e hx) (I.base.keep b o e n hb hx) (I.base.free b o e n hx)
  · obtain ⟨sl, e1⟩ := I.base.slot b o e n hb hx
    obtain ⟨sl', e2⟩ := slot b _ (neL b o e) hb (neC b o e hx) e1 (I.base.free b o e n hx)
    exact ⟨sl', e2⟩
  · obtain ⟨o', e1⟩ := I.base.there b o e hx
    exact free b o' (neC b o e hx) e1 (I.base.free b o e n hx)
  · obtain ⟨o', e1⟩ := I.base.there b o e hx
    exact there b o' (neC b o e hx) e1
  · obtain ⟨m1, e1⟩ := I.base.tbls b ps e
    obtain ⟨m2, e2⟩ := tbls b _ e1
    exact ⟨m1 ++ m2, by rw [e2, Array.append_assoc]⟩
  · obtain ⟨m, hn, hl⟩ := I.loc
    refine ⟨m, ns m hn, fun i x v e1 e2 e3 => ?_⟩
    obtain ⟨u, r, l⟩ := hl i x v e1 e2 e3
    refine ⟨u, r, ?_⟩
    rcases l with l | ⟨k, c, e, z⟩
    · exact .inl l
    · exact .inr ⟨k, c, e, cellK x c e _ z⟩
  · obtain ⟨v, z⟩ := I.cell x c e
    exact ⟨v, cellK x c e v z⟩
  · obtain ⟨m, ⟨o, _, _, ho, _⟩, _⟩ := I.loc
    exact free _ o (fun z => (hch _ z).2.1 rfl) ho I.free
  · obtain ⟨v, o, ho, hd⟩ := I.cell x c e
    exact free c o (fun z => (hch c z).2.2.1 x c e rfl) ho (I.freeC x c e)
  · obtain ⟨e, n, ne, nf, d⟩ := I.pin p hp
    have nch : p.1 ∉ ch := fun z => (hch p.1 z).2.2.2 p hp rfl
    exact ⟨keep p.1 p.2 ne nf nch e n, free p.1 p.2 nch e n, ne, nf, d⟩
theorem Inv.un {t' : Nat} (I : Inv X pins σ H s) (u : Un X.fs [] H H' s.heap h') (hok : HOk X.prog X.w H' h') : Inv X pins σ H' { s with heap := h', toks := t' } := by
  obtain ⟨m, ⟨o, es, ep, ho, r⟩, _⟩ := id I.loc
  obtain ⟨sl, hL⟩ := u.any ho I.free (by simp)
  exact I.step (g' := s.gens) (d' := s.drawn) (ch := []) (fun _ z => nomatch z) (fun b o _ hb _ e n => u.keep b o e n hb (by simp)) (fun b o _ hb _ e n => u.slot b o e n hb (by simp)) (fun b o _ e n => u.free b o e n (by simp)) (fun b o _ e => u.there b o e (by simp)) u.tups u.frzs u.tbls (fun m' hm => by
    obtain ⟨o', es', ep', ho', r'⟩ := hm
    rw [ho] at ho'; cases ho'
    exact ⟨_, es', ep', hL, r'⟩) hok I.bare
theorem Inv.call {g' : Array GenState} {t' : Nat} {d' : Drawn} {ch : List Addr} (I : Inv X pins σ H s) (u : Un (frs X.stack) ch H H' s.heap h') (hok : HOk X.prog X.w H' h') (hg : AllBare g')
    (hch : ∀ b ∈ ch, (b ∈ X.ex ∨ X.s₀.heap.objs.size ≤ b) ∧ b ≠ X.env.locals ∧ (∀ x c, X.env.cells.lookup x = some c → c ≠ b) ∧ ∀ p ∈ X.pn ++ pins, p.1 ≠ b) :
    Inv X pins σ H' { s with heap := h', gens := g', drawn := d', toks := t' } := by
  obtain ⟨m, ⟨o, es, ep, ho, r⟩, _⟩ := id I.loc
  obtain ⟨sl, hL⟩ := u.any ho I.free fun z => (hch _ z).2.1 rfl
  exact I.step (ch := ch) hch (fun b o hL hb hc e n => u.keep b o e n (fun z => (List.mem_cons.mp (I.stkSub b z)).elim hL hb) hc) (fun b o _ _ hc e n => u.any e n hc) (fun b o hc e n => u.free b o e n hc) (fun b o hc e => u.there b o e hc) u.tups u.frzs u.tbls (fun m' hm => by
    obtain ⟨o', es', ep', ho', r'⟩ := hm
    rw [ho] at ho'; cases ho'
    exact ⟨_, es', ep', hL, r'⟩) hok hg
theorem Inv.turned {t' : Nat} {it : Addr} (I : Inv X pins σ H s) (k : ∀ b o, b ≠ it → s.heap.get? b = some o → h'.get? b = some o) (hn : H it = none) (hL : it ≠ X.env.locals)
    (h1 : it ∈ X.ex ∨ X.s₀.heap.objs.size ≤ it) (h2 : ∀ x c, X.env.cells.lookup x = some c → c ≠ it) (h3 : ∀ p ∈ X.pn ++ pins, p.1 ≠ it) : Inv X pins σ H { s with heap := h', toks := t' } := by
  have nit : ∀ b u, H b = some u → b ≠ it := fun b u e z => by rw [z, hn] at e; cases e
  refine I.step (g' := s.gens) (d' := s.drawn) (ch := [it]) (fun b hb => ?_) (fun b o _ _ hc e _ => k b o (fun z => hc (by simp [z])) e) (fun b o _ _ hc e _ => ⟨o.slots, k b o (fun z => hc (by simp [z])) e⟩) (fun _ _ _ _ n => n)
    (fun b o hc e => ⟨o, k b o (fun z => hc (by simp [z])) e⟩) (fun _ _ e => e) (fun _ _ _ e => e) (fun b ps e => ⟨#[], by rw [e]; simp⟩) (fun m hm => ?_) (fun b u e => ?_) I.bare
  · have e : b = it := by simpa using hb
    subst e
    exact ⟨h1, hL, h2, h3⟩
  · obtain ⟨o, es, ep, ho, r⟩ := hm
    exact ⟨o, es, ep, k _ o (Ne.symm hL) ho, r⟩
  · refine (I.hok b u e).stay (fun c v hc q => k c v ?_ q) (fun _ q => q) fun _ _ q => q
    rcases hc with z | z
    · rw [z]; exact nit b u e
    · exact nit c _ z
theorem Inv.tok (I : Inv X pins σ H s) (t : Nat) : Inv X pins σ H { s with toks := t } := I.un (h' := s.heap) (t' := t) Un.refl I.hok
theorem Inv.kept {t' : Nat} (I : Inv X pins σ H s) (k : ∀ b u, s.heap.get? b = some u → h'.get? b = some u) : Inv X pins σ H { s with heap := h', toks := t' } := I.un (Un.kept k) (I.hok.kept k)
theorem Inv.laid {a : Addr} {o : HO} {t' : Nat} (I : Inv X pins σ H s) (k : ∀ b u, s.heap.get? b = some u → h'.get? b = some u) (hp : s.heap.objs.size ≤ a) (new : ObjOk X.prog X.w (upd H a o) h' a o) :
    Inv X pins σ (upd H a o) { s with heap := h', toks := t' } := I.un (Un.laid k hp (I.hok.fresh hp)) (I.hok.laid k hp new)
theorem Inv.write {x e : Addr} {o : HO} {t' : Nat} (I : Inv X pins σ H s) (mu : Mut (H x)) (he : e = x ∨ H e = some (.own x)) (k : ∀ b u, b ≠ e → s.heap.get? b = some u → h'.get? b = some u) (heo : ∃ u, h'.get? e = some u)
    (new : ObjOk X.prog X.w (upd H x o) h' x o) : Inv X pins σ (upd H x o) { s with heap := h', toks := t' } := I.un (Un.write mu he k heo) (I.hok.write mu he k heo new)
theorem Inv.pins_of {pins' : List (Addr × Obj)} (I : Inv X pins σ H s) (h : ∀ p ∈ pins', s.heap.get? p.1 = some p.2 ∧ H p.1 = none ∧ p.1 ≠ X.env.locals ∧ p.1 ∉ X.fs ∧ ∀ v, p.2.data ≠ .cell v) : Inv X pins' σ H s :=
  ⟨I.ok, I.os, I.bare, I.base, I.loc, I.cell, I.free, I.freeC, fun p hp => (List.mem_append.mp hp).elim (fun z => I.pin p (List.mem_append_left _ z)) (h p), I.hok, I.len⟩

theorem nodup_ix {N : List Str} (hN : N.Nodup) {i j : Nat} {x : Str} (a : N[i]? = some x) (b : N[j]? = some x) : i = j := by
  obtain ⟨h1, e1⟩ := List.getElem?_eq_some_iff.mp a
  obtain ⟨h2, e2⟩ := List.getElem?_eq_some_iff.mp b
  exact (List.getElem_inj hN).mp (e1.trans e2.symm)

theorem store_ok2 {M : Model} {A : Around} {E : Value → Shared → Prop} {i : Nat} {x : Str} {v : V} {u : Value} {Q : Unit → Shared → Prop} (I : Inv X pins σ H s) (hN : X.N.Nodup) (hi : X.N[i]? = some x) (hx : Loc X.env.scope x) (r : RelV v u)
    (h : ∀ s', Inv X pins (σ.set i (some v)) H s' → (∃ a, Heap.SameBut a s.heap s'.heap ∧ (a = X.env.locals ∨ X.env.cells.lookup x = some a)) → Q () s') (hf : X.fn x = true ∨ X.env.scope.names.lookup x = some .local := by first | exact .inl rfl | exact .inr rfl | assumption) : wpAny M A (storeName X.env x u) Q E s := by
  obtain ⟨m, hn, hl⟩ := id I.loc
  have hcls : (X.env.scope.kind == .class || (X.env.scope.kind == .module && X.env.locals != X.env.globals)) = false := by rw [I.ok.kind]; rfl
  have hiσ : i < σ.length := by rw [I.len]; exact (List.getElem?_eq_some_iff.mp hi).1
  have cne := I.cne
  have tracked : ∀ {a : Addr} {h' : Heap}, (∃ o, s.heap.get? a = some o ∧ H a = none) → Heap.SameBut a s.heap h' → HOk X.prog X.w H h' := fun {a h'} ha hs b ob e => by
    obtain ⟨_, _, hfree⟩ := ha
    refine (I.hok b ob e).stay (fun c w' hc q => (hs.2 c ?_).trans q) (fun _ q => q) fun _ _ q => q
    rintro rfl
    rcases hc with rfl | hc
    · rw [hfree] at e; cases e
    · rw [hfree] at hc; cases hc
  rcases hx with hk | hk
  · refine wpAny_storeName_local hk hn (fun h' hn' hs => ?_) hcls
    obtain ⟨oL, _, _, hoL, _⟩ := id hn
    refine h _ ⟨I.ok, I.os, I.bare, ⟨fun b o e n hb hx => ?_, fun b o e n hb hx => ?_, I.base.free, fun b o e hx => ?_, I.base.tups, I.base.frzs, I.base.tbls⟩, ⟨_, hn', fun j y v' e1 e2 e3 => ?_⟩, fun y c e => ?_, I.free, I.freeC, fun p hp => ?_, tracked ⟨oL, hoL, I.free⟩ hs, by simpa using I.len⟩ ⟨_, hs, .inl rfl⟩
    · exact (hs.2 b (Nat.ne_of_lt (Nat.lt_of_lt_of_le (Heap.lt_size e) I.ok.above))).trans (I.base.keep b o e n hb hx)
    · obtain ⟨sl, e1⟩ := I.base.slot b o e n hb hx
      exact ⟨sl, (hs.2 b (Nat.ne_of_lt (Nat.lt_of_lt_of_le (Heap.lt_size e) I.ok.above))).trans e1⟩
    · obtain ⟨o', e1⟩ := I.base.there b o e hx
      exact ⟨o', (hs.2 b (Nat.ne_of_lt (Nat.lt_of_lt_of_le (Heap.lt_size e) I.ok.above))).trans e1⟩
    · by_cases hj : j = i
      · subst hj
        rw [hi] at e1; cases e1
        rw [List.getElem?_set_self hiσ] at e2
        cases e2
        exact ⟨u, r, .inl ⟨hk, by simp⟩⟩
      · rw [List.getElem?_set_ne (Ne.symm hj)] at e2
        obtain ⟨u', r', q⟩ := hl j y v' e1 e2 e3
        refine ⟨u', r', ?_⟩
        rcases q with ⟨k, e⟩ | ⟨k, c, e, z⟩
        · refine .inl ⟨k, ?_⟩
          have : y ≠ x := fun e => hj (nodup_ix hN e1 (e ▸ hi))
          simp [this, e]
        · exact .inr ⟨k, c, e, z.sameBut hs (cne y c e)⟩
    · obtain ⟨w', z⟩ := I.cell y c e
      exact ⟨w', z.sameBut hs (cne y c e)⟩
    · obtain ⟨e, n, ne, nf, d⟩ := I.pin p hp
      exact ⟨(hs.2 p.1 ne).trans e, n, ne, nf, d⟩
  · have hfn : X.fn x = true := by
      rcases hf with z | z
      · exact z
      · rw [z] at hk; cases hk
    obtain ⟨c, hc⟩ := I.ok.has x (.inl hk)
    obtain ⟨w', z⟩ := I.cell x c hc
    refine wpAny_storeName_cell I.ok.kind hk hc z (fun h' hc' hs => ?_)
    obtain ⟨oc, hoc, hocd⟩ := id z
    refine h { s with heap := h' } ⟨I.ok, I.os, I.bare, ⟨fun b o e n hb hx => ?_, fun b o e n hb hx => ?_, I.base.free, fun b o e hx => ?_, I.base.tups, I.base.frzs, I.base.tbls⟩, ⟨m, hn.sameBut hs (Ne.symm (cne x c hc)), fun j y v' e1 e2 e3 => ?_⟩, fun y c' e => ?_, I.free, I.freeC, fun p hp => ?_, tracked ⟨oc, hoc, I.freeC x c hc⟩ hs, by simpa using I.len⟩ ⟨c, hs, .inr hc⟩
    · exact (hs.2 b (Nat.ne_of_lt (Nat.lt_of_lt_of_le (Heap.lt_size e) (I.ok.cab x c hfn hc)))).trans (I.base.keep b o e n hb hx)
    · obtain ⟨sl, e1⟩ := I.base.slot b o e n hb hx
      exact ⟨sl, (hs.2 b (Nat.ne_of_lt (Nat.lt_of_lt_of_le (Heap.lt_size e) (I.ok.cab x c hfn hc)))).trans e1⟩
    · obtain ⟨o', e1⟩ := I.base.there b o e hx
      exact ⟨o', (hs.2 b (Nat.ne_of_lt (Nat.lt_of_lt_of_le (Heap.lt_size e) (I.ok.cab x c hfn hc)))).trans e1⟩
    · by_cases hj : j = i
      · subst hj
        rw [hi] at e1; cases e1
        rw [List.getElem?_set_self hiσ] at e2
        cases e2
        exact ⟨u, r, .inr ⟨.inl hk, c, hc, hc'⟩⟩
      · rw [List.getElem?_set_ne (Ne.symm hj)] at e2
        obtain ⟨u', r', q⟩ := hl j y v' e1 e2 e3
        refine ⟨u', r', ?_⟩
        rcases q with q | ⟨k, c', e, z'⟩
        · exact .inl q
        · refine .inr ⟨k, c', e, z'.sameBut hs ?_⟩
          rintro rfl
          exact hj (nodup_ix hN e1 (I.ok.inj _ _ _ e hc ▸ hi))
    · by_cases hcc : c' = c
      · subst hcc; exact ⟨_, hc'⟩
      · obtain ⟨w2, z2⟩ := I.cell y c' e
        exact ⟨w2, z2.sameBut hs hcc⟩
    · obtain ⟨e, n, ne, nf, d⟩ := I.pin p hp
      refine ⟨(hs.2 p.1 ?_).trans e, n, ne, nf, d⟩
      intro q
      rw [q, hoc] at e
      have q' : oc = p.2 := Option.some.inj e
      exact d w' (by rw [← q']; exact hocd)
theorem store_ok {M : Model} {A : Around} {E : Value → Shared → Prop} {i : Nat} {x : Str} {v : V} {u : Value} {Q : Unit → Shared → Prop} (I : Inv X pins σ H s) (hN : X.N.Nodup) (hi : X.N[i]? = some x) (hx : Loc X.env.scope x) (r : RelV v u)
    (h : ∀ s', Inv X pins (σ.set i (some v)) H s' → Q () s') (hf : X.fn x = true ∨ X.env.scope.names.lookup x = some .local := by first | exact .inl rfl | exact .inr rfl | assumption) : wpAny M A (storeName X.env x u) Q E s :=
  store_ok2 I hN hi hx r (fun s' I' _ => h s' I') hf
theorem Inv.call' {s' : Shared} {ch : List Addr} (I : Inv X pins σ H s) (ho : s'.os = s.os) (u : Un (frs X.stack) ch H H' s.heap s'.heap) (hok : HOk X.prog X.w H' s'.heap) (hg : AllBare s'.gens)
    (hch : ∀ b ∈ ch, (b ∈ X.ex ∨ X.s₀.heap.objs.size ≤ b) ∧ b ≠ X.env.locals ∧ (∀ x c, X.env.cells.lookup x = some c → c ≠ b) ∧ ∀ p ∈ X.pn ++ pins, p.1 ≠ b) : Inv X pins σ H' s' := by
  obtain ⟨h', g', d', t', o'⟩ := s'
  have e : o' = s.os := ho
  subst e
  exact I.call (g' := g') (t' := t') (d' := d') u hok hg hch
end

noncomputable abbrev XK := Value → Option Addr → Hp → Prop
noncomputable abbrev St := List (Option V)
noncomputable abbrev VK := V → Hp → Prop
noncomputable abbrev TE := St → Hp → VK → Prop
noncomputable abbrev TT := St → Hp → (Bool → Hp → Prop) → Prop
noncomputable abbrev TA := St → Hp → (List V → Hp → Prop) → Prop
structure Ends where
  nx : St → Hp → Prop
  rt : VK
  bk : St → Hp → Prop := fun _ _ => False
  ct : St → Hp → Prop := fun _ _ => False
noncomputable abbrev TS := Ends → St → Hp → Prop

noncomputable def EP (X : Cx) (pins : List (Addr × Obj)) (σ : St) (Q : VK) (u : Value) (s' : Shared) : Prop := ∃ v H', Inv X pins σ H' s' ∧ RelV v u ∧ Q v H'
noncomputable def TP (X : Cx) (pins : List (Addr × Obj)) (σ : St) (Q : Bool → Hp → Prop) (b : Bool) (s' : Shared) : Prop := ∃ H', Inv X pins σ H' s' ∧ Q b H'
noncomputable def AP (X : Cx) (pins : List (Addr × Obj)) (σ : St) (Q : List V → Hp → Prop) (us : List Value) (s' : Shared) : Prop := ∃ vs H', Inv X pins σ H' s' ∧ Vals vs us ∧ Q vs H'
noncomputable def SP (X : Cx) (pins : List (Addr × Obj)) (D : Ends) (f : Flow) (s' : Shared) : Prop :=
  match f with
  | .next => ∃ σ' H', Inv X pins σ' H' s' ∧ D.nx σ' H'
  | .brk => ∃ σ' H', Inv X pins σ' H' s' ∧ D.bk σ' H'
  | .cont => ∃ σ' H', Inv X pins σ' H' s' ∧ D.ct σ' H'
  | .ret u => ∃ v σ' H', Inv X pins σ' H' s' ∧ RelV v u ∧ D.rt v H'

noncomputable def PE (X : Cx) (e : Expr) (t : TE) : Prop :=
  ∀ (pins : List (Addr × Obj)) (s : Shared) (σ : St) (H : Hp) (Q : VK), Inv X pins σ H s → t σ H Q → wpAny (model X.prog X.w) X.A (eval e X.env) (EP X pins σ Q) X.xe s
noncomputable def PT (X : Cx) (e : Expr) (t : TT) : Prop :=
  ∀ (pins : List (Addr × Obj)) (s : Shared) (σ : St) (H : Hp) (Q : Bool → Hp → Prop), Inv X pins σ H s → t σ H Q → wpAny (model X.prog X.w) X.A (isTrue e X.env (eval e X.env)) (TP X pins σ Q) X.xe s
noncomputable def PW (X : Cx) (e : Expr) (t : TT) : Prop :=
  ∀ (whole : Sem Value) (pins : List (Addr × Obj)) (s : Shared) (σ : St) (H : Hp) (Q : Bool → Hp → Prop), Inv X pins σ H s → t σ H Q → wpAny (model X.prog X.w) X.A (isTrue e X.env whole) (TP X pins σ Q) X.xe s
theorem PW.pt {X : Cx} {e : Expr} {t : TT} (h : PW X e t) : PT X e t := h _
noncomputable def PA (X : Cx) (es : List Expr) (t : TA) : Prop :=
  ∀ (pos : Pos) (pins : List (Addr × Obj)) (s : Shared) (σ : St) (H : Hp) (Q : List V → Hp → Prop), Inv X pins σ H s → t σ H Q → wpAny (model X.prog X.w) X.A (spliced (backTo pos (starEach es X.env))) (AP X pins σ Q) X.xe s
noncomputable def PS (X : Cx) (st : Stmt) (t : TS) : Prop :=
  ∀ (pins : List (Addr × Obj)) (s : Shared) (σ : St) (H : Hp) (D : Ends), Inv X pins σ H s → t D σ H → wpAny (model X.prog X.w) X.A (exec st X.env) (SP X pins D) X.xe s
noncomputable def PSs (X : Cx) (st : List Stmt) (t : TS) : Prop :=
  ∀ (pins : List (Addr × Obj)) (s : Shared) (σ : St) (H : Hp) (D : Ends), Inv X pins σ H s → t D σ H → wpAny (model X.prog X.w) X.A (execs st X.env) (SP X pins D) X.xe s
theorem thn {α : Type} {t : Sem α} {Q Q' : α → Shared → Prop} {M : Model} {A : Around} {E : Value → Shared → Prop} {s : Shared} (h : wpAny M A t Q E s) (hQ : ∀ a s, Q a s → Q' a s) : wpAny M A t Q' E s := wpAny_mono h hQ fun _ _ x => x
end L2

namespace L2
open PySem PySem.Spec PyProof.Rows
section
variable {X : Cx}

noncomputable def tVar (i : Nat) : TE := fun σ H Q => ∃ v, σ[i]? = some (some v) ∧ Q v H
noncomputable def tC (v : V) : TE := fun _ H Q => Q v H
theorem pe_var {i : Nat} {x : Str} {pos : Pos} (hN : X.N[i]? = some x) (hv : Vis X.env.scope x) (hd : (x == ("__debug__" : Str)) = false := by decide) (hcd : (x == ("__classdict__" : Str)) = false := by decide) : PE X (.Name x pos) (tVar i) := by
  intro pins s σ H Q I h
  obtain ⟨v, e, h⟩ := h
  obtain ⟨m, hn, hl⟩ := I.loc
  obtain ⟨u, r, l⟩ := hl i x v hN e hv
  have fin : EP X pins σ Q u s := ⟨v, H, I, r, h⟩
  rcases l with ⟨hk, hm⟩ | ⟨hk, c, hc, hcell⟩
  · exact wpAny_Name (wpAny_loadName_local I.ok.kind hk hn hm fin) hd
  · rcases hk with hk | hk
    · exact wpAny_Name (wpAny_loadName_cell I.ok.kind hk hc hcell fin) hd
    · exact wpAny_Name (wpAny_loadName_free I.ok.kind hk hc hcell fin hcd) hd
theorem pe_int {i j pos} : PE X (.Constant (.int i) j pos) (tC (.int i)) := fun _ _ _ H _ I h => wpAny_Constant_int ⟨.int i, H, I.tok _, ⟨_, rfl⟩, h⟩
theorem pe_bl {b j pos} : PE X (.Constant (.bool b) j pos) (tC (.bl b)) := fun _ _ _ H _ I h => Constant_bool ⟨.bl b, H, I, rfl, h⟩
theorem pe_non {j pos} : PE X (.Constant .none j pos) (tC .non) := fun _ _ _ H _ I h => Constant_none ⟨.non, H, I, rfl, h⟩
theorem pe_str {x j pos} : PE X (.Constant (.str x) j pos) (tC (.str x)) := fun _ _ _ H _ I h => Calls.Constant_str ⟨.str x, H, I.tok _, ⟨_, rfl⟩, h⟩

noncomputable def Gl (X : Cx) (x : Str) : Prop := X.env.kindOf x = some .globalImplicit
theorem ld_glob {E : Value → Shared → Prop} {pins : List (Addr × Obj)} {s : Shared} {σ : St} {H : Hp} {x : Str} {u : Value} {pos : Pos} {Q : Value → Shared → Prop} (I : Inv X pins σ H s) (hg : Gl X x) (hm : X.mg x = some u) (h : Q u s)
    (hd : (x == ("__debug__" : Str)) = false := by decide) : wpAny (model X.prog X.w) X.A (eval (.Name x pos) X.env) Q E s :=
  Calls.Name_function_global I.ok.kind hg (Calls.loadGlobal_global (by rw [I.ok.glob]; exact I.mod.glob.keeps I.bk) hm h) hd
theorem ld_blt {E : Value → Shared → Prop} {pins : List (Addr × Obj)} {s : Shared} {σ : St} {H : Hp} {x : Str} {u : Value} {pos : Pos} {Q : Value → Shared → Prop} (I : Inv X pins σ H s) (hg : Gl X x) (hm : X.mg x = none) (hv : bootBuiltins x = some u) (h : Q u s)
    (hn : x ≠ "__name__" := by decide) (hd : (x == ("__debug__" : Str)) = false := by decide) : wpAny (model X.prog X.w) X.A (eval (.Name x pos) X.env) Q E s := by
  obtain ⟨mb, h1, h2⟩ := I.mod.blt
  exact Calls.Name_function_global I.ok.kind hg (Calls.loadGlobal_builtin (by rw [I.ok.glob]; exact I.mod.glob.keeps I.bk) hm (by rw [I.ok.blt]; exact h1.keeps I.bk) ((h2 x hn).trans hv) h) hd
theorem pe_glob {x : Str} {v : V} {u : Value} {pos : Pos} (hg : Gl X x) (hm : X.mg x = some u) (r : RelV v u) (hd : (x == ("__debug__" : Str)) = false := by decide) : PE X (.Name x pos) (tC v) :=
  fun _ _ _ H _ I h => ld_glob I hg hm ⟨v, H, I, r, h⟩ hd
theorem pe_bltn {x : Str} {v : V} {u : Value} {pos : Pos} (hg : Gl X x) (hm : X.mg x = none) (hv : bootBuiltins x = some u) (r : RelV v u) (hn : x ≠ "__name__" := by decide) (hd : (x == ("__debug__" : Str)) = false := by decide) : PE X (.Name x pos) (tC v) :=
  fun _ _ _ H _ I h => ld_blt I hg hm hv ⟨v, H, I, r, h⟩ hn hd

noncomputable def t2I (ta tb : TE) (k : Int → Int → Hp → Prop) : St → Hp → Prop := fun σ H => ta σ H fun x H1 => tb σ H1 fun y H2 => ∃ i j, x = .int i ∧ y = .int j ∧ k i j H2
variable {a b : Expr} {ta tb : TE} {pos : Pos}
noncomputable def tCmp (p : Int → Int → Bool) (ta tb : TE) : TE := fun σ H Q => t2I ta tb (fun i j H2 => Q (.bl (p i j)) H2) σ H
noncomputable abbrev tLt : TE → TE → TE := tCmp fun i j => decide (i < j)
noncomputable abbrev tLe : TE → TE → TE := tCmp fun i j => decide (i ≤ j)
noncomputable abbrev tGt : TE → TE → TE := tCmp fun i j => decide (j < i)
noncomputable abbrev tGe : TE → TE → TE := tCmp fun i j => decide (j ≤ i)
noncomputable abbrev tEqI : TE → TE → TE := tCmp fun i j => decide (i = j)
noncomputable abbrev tNeI : TE → TE → TE := tCmp fun i j => !decide (i = j)
noncomputable def tB (t : TE) : TT := fun σ H Q => t σ H fun x H1 => ∃ c, x = .bl c ∧ Q c H1
variable {tA tB' : TT} {rest : List Expr}
noncomputable def tOr (t u : TT) : TT := fun σ H Q => t σ H fun c H1 => if c = true then Q true H1 else u σ H1 Q
noncomputable def tNot (t : TT) : TT := fun σ H Q => t σ H fun c H1 => Q (!c) H1
theorem pw_or1 (ha : PT X a tA) : PW X (.BoolOp .Or [a] pos) tA := by
  intro wh pins s σ H Q I h
  refine isTrue_or (thn (ha pins s σ H Q I h) fun c s1 e => ?_)
  cases c with
  | false => exact isTrue_or_nil e
  | true => exact e
theorem pw_or (ha : PT X a tA) (hb : PW X (.BoolOp .Or (b :: rest) pos) tB') : PW X (.BoolOp .Or (a :: b :: rest) pos) (tOr tA tB') := by
  intro wh pins s σ H Q I h
  refine isTrue_or (thn (ha pins s σ H _ I h) fun c s1 ⟨H1, I1, q1⟩ => ?_)
  cases c with
  | true => exact ⟨H1, I1, q1⟩
  | false => exact hb wh pins s1 σ H1 Q I1 q1
theorem pt_not (ha : PT X a tA) : PT X (.UnaryOp .Not a pos) (tNot tA) := by
  intro pins s σ H Q I h
  exact isTrue_not (ha pins s σ H (fun c H1 => Q (!c) H1) I h)
noncomputable def tAndV (ta tb : TE) : TE := fun σ H Q => ta σ H fun x H1 => ∃ c, x = .bl c ∧ if c = true then tb σ H1 Q else Q (.bl false) H1
noncomputable def tNotV (ta : TE) : TE := fun σ H Q => ta σ H fun x H1 => ∃ c, x = .bl c ∧ Q (.bl (!c)) H1
theorem pe_one {op} {t : TE} (h : PE X a t) : PE X (.BoolOp op [a] pos) t := fun pins s σ H Q I hw => BoolOp_one (h pins s σ H Q I hw)
theorem pe_and (ha : PE X a ta) (hb : PE X (.BoolOp .And (b :: rest) pos) tb) : PE X (.BoolOp .And (a :: b :: rest) pos) (tAndV ta tb) := by
  intro pins s σ H Q I h
  refine BoolOp_and (thn (ha pins s σ H _ I h) fun v s1 ⟨x, H1, I1, r1, q1⟩ => ?_)
  obtain ⟨c, rfl, q1⟩ := q1
  cases r1
  refine wpAny_truthy_bool ?_
  cases c with
  | true => exact hb pins s1 σ H1 Q I1 q1
  | false => exact ⟨.bl false, H1, I1, rfl, q1⟩
theorem pe_not (ha : PE X a ta) : PE X (.UnaryOp .Not a pos) (tNotV ta) := by
  intro pins s σ H Q I h
  refine UnaryOp_ (thn (ha pins s σ H _ I h) fun v s1 ⟨x, H1, I1, r1, q1⟩ => ?_)
  obtain ⟨c, rfl, q1⟩ := q1
  cases r1
  exact not_of (wpAny_truthy_bool ⟨.bl (!c), H1, I1, rfl, q1⟩)
end
end L2

namespace L2
open PySem PySem.Spec PyProof.Rows

noncomputable def SqL (K : PySem.W.Frag) (H : Hp) (a : Addr) (xs : List V) : Prop :=
  Rd H a (.lst xs) ∨
    ∃ (o : Obj) (its : Array Value) (n : Nat), K.lookup a = some o ∧ o.cls = .type "list" ∧ o.dict = none ∧ o.data = .seq its n ∧ its.size ≤ sizeLine ∧ Vals xs its.toList
noncomputable def SqT (K : PySem.W.Frag) (H : Hp) (a : Addr) (xs : List V) : Prop :=
  Rd H a (.tup xs) ∨
    ∃ (o : Obj) (its : Array Value) (n : Nat), K.lookup a = some o ∧ o.cls = .type "tuple" ∧ o.data = .seq its n ∧ its.size ≤ sizeLine ∧ Vals xs its.toList
noncomputable def absV : Value → Option V
  | .none => some .non
  | .bool b => some (.bl b)
  | .int i _ => some (.int i)
  | .str x _ => some (.str x)
  | .bytes b _ => some (.byt b)
  | .float b _ => some (.flt b)
  | .ref a => some (.ref a)
  | .type n => some (.ty n)
  | _ => none
theorem RelV.abs {x : V} {u : Value} (r : RelV x u) : absV u = some x := by
  cases x with
  | non => cases r; rfl
  | bl _ => cases r; rfl
  | int _ => obtain ⟨t, rfl⟩ := r; rfl
  | str _ => obtain ⟨t, rfl⟩ := r; rfl
  | byt _ => obtain ⟨t, rfl⟩ := r; rfl
  | flt _ => obtain ⟨t, rfl⟩ := r; rfl
  | ref _ => cases r; rfl
  | ty _ => cases r; rfl
theorem RelV.inj {x y : V} {u : Value} (r : RelV x u) (q : RelV y u) : x = y := Option.some.inj (r.abs.symm.trans q.abs)
theorem Vals.inj : ∀ {xs ys : List V} {us : List Value}, Vals xs us → Vals ys us → xs = ys
  | _, _, _, .nil, .nil => rfl
  | _, _, _, .cons r t, .cons r' t' => by rw [r.inj r', Vals.inj t t']
section
variable {X : Cx} {pins : List (Addr × Obj)} {σ : St} {H : Hp} {s : Shared} {a : Addr} {xs ys : List V}
theorem SqL.of {K : PySem.W.Frag} (h : H a = some (.lst xs)) : SqL K H a xs := .inl (.inl h)
theorem SqT.of {K : PySem.W.Frag} (h : H a = some (.tup xs)) : SqT K H a xs := .inl (.inl h)
theorem Inv.list (I : Inv X pins σ H s) (h : SqL X.K H a xs) : ∃ its : List Value, Vals xs its ∧ PlainL s.heap a its.toArray ∧ xs.length ≤ sizeLine := by
  rcases h with h | ⟨o, its, n, hk, hc, hd, hs, hz, r⟩
  · obtain ⟨z, its, n, r, e⟩ := h.ok I.hok
    exact ⟨its, r, ⟨_, n, e, rfl, rfl, rfl⟩, z⟩
  · refine ⟨its.toList, r, ⟨o, n, I.kIn a o hk, hc, hd, by simpa using hs⟩, ?_⟩
    have e := r.length
    simp only [Array.length_toList] at e
    omega
theorem Inv.tuple (I : Inv X pins σ H s) (h : SqT X.K H a xs) : ∃ its : List Value, Vals xs its ∧ IsTup s.heap a its.toArray ∧ xs.length ≤ sizeLine := by
  rcases h with h | ⟨o, its, n, hk, hc, hs, hz, r⟩
  · obtain ⟨z, its, r, p⟩ := h.ok I.hok
    exact ⟨its, r, p, z⟩
  · refine ⟨its.toList, r, ⟨o, I.kIn a o hk, hc, n, by simpa using hs⟩, ?_⟩
    have e := r.length
    simp only [Array.length_toList] at e
    omega
theorem Inv.list_inj (I : Inv X pins σ H s) (h : SqL X.K H a xs) (h' : SqL X.K H a ys) : xs = ys := by
  obtain ⟨its, r, ⟨o, n, e, _, _, d⟩, _⟩ := I.list h
  obtain ⟨its', r', ⟨o', n', e', _, _, d'⟩, _⟩ := I.list h'
  rw [e] at e'; cases e'
  rw [d] at d'
  injection d' with d1 _
  have : its = its' := by simpa using congrArg Array.toList d1
  subst this
  exact r.inj r'
end

noncomputable abbrev Cx.wish (X : Cx) (E : Value → Shared → Prop) : Cx := { X with xe := E }
noncomputable abbrev Cx.nox (X : Cx) : Cx := X.wish fun _ _ => False
theorem Cx.Ok.wish {X : Cx} (ok : X.Ok) (E : Value → Shared → Prop) : (X.wish E).Ok :=
  ⟨ok.mod, ok.kind, ok.glob, ok.blt, ok.above, ok.inj, ok.has, ok.cab, ok.hd, ok.frames, ok.stk, ok.exf, ok.bs, ok.bsz, ok.noex, ok.exfs, ok.funs, ok.frf⟩
theorem Cx.Ok.unwish {X : Cx} {E : Value → Shared → Prop} (ok : (X.wish E).Ok) : X.Ok :=
  ⟨ok.mod, ok.kind, ok.glob, ok.blt, ok.above, ok.inj, ok.has, ok.cab, ok.hd, ok.frames, ok.stk, ok.exf, ok.bs, ok.bsz, ok.noex, ok.exfs, ok.funs, ok.frf⟩
section
variable {X : Cx} {pins : List (Addr × Obj)} {σ : St} {H : Hp} {s : Shared} {E : Value → Shared → Prop}
theorem Inv.wish (I : Inv X pins σ H s) (E : Value → Shared → Prop) : Inv (X.wish E) pins σ H s := ⟨I.ok.wish E, I.os, I.bare, I.base, I.loc, I.cell, I.free, I.freeC, I.pin, I.hok, I.len⟩
theorem Inv.unwish (I : Inv (X.wish E) pins σ H s) : Inv X pins σ H s := ⟨I.ok.unwish, I.os, I.bare, I.base, I.loc, I.cell, I.free, I.freeC, I.pin, I.hok, I.len⟩
theorem SP.unwish {D : Ends} {f : Flow} {s' : Shared} (h : SP (X.wish E) pins D f s') : SP X pins D f s' := by
  cases f with
  | next => obtain ⟨σ', H', I, q⟩ := h; exact ⟨σ', H', I.unwish, q⟩
  | brk => obtain ⟨σ', H', I, q⟩ := h; exact ⟨σ', H', I.unwish, q⟩
  | cont => obtain ⟨σ', H', I, q⟩ := h; exact ⟨σ', H', I.unwish, q⟩
  | ret u => obtain ⟨v, σ', H', I, r, q⟩ := h; exact ⟨v, σ', H', I.unwish, r, q⟩
theorem PSs.nox {st : List Stmt} {t : TS} (h : PSs X.nox st t) : PSs X st t := fun pins s σ H D I hw =>
  wpAny_mono (h pins s σ H D (I.wish _) hw) (fun _ _ q => q.unwish) fun _ _ z => False.elim z
end

section
variable {X : Cx} {st : Stmt} {rest : List Stmt} {t u : TS} {e : Expr} {te : TE} {pos : Pos}
noncomputable def tNext : TS := fun D σ H => D.nx σ H
noncomputable def tSeq (t u : TS) : TS := fun D σ H => t { D with nx := u D } σ H
theorem pss_nil : PSs X [] tNext := fun _ _ σ H _ I h => wpAny_execs_nil ⟨σ, H, I, h⟩
theorem pss_cons (h1 : PS X st t) (h2 : PSs X rest u) : PSs X (st :: rest) (tSeq t u) := by
  intro pins s σ H D I h
  refine wpAny_execs_cons (thn (h1 pins s σ H { D with nx := u D } I h) fun f s1 q => ?_)
  cases f with
  | next =>
    obtain ⟨σ', H', I', q⟩ := q
    exact h2 pins s1 σ' H' D I' q
  | ret v => exact q
  | brk => exact q
  | cont => exact q
theorem pss_one (h1 : PS X st t) : PSs X [st] t := by
  intro pins s σ H D I h
  refine wpAny_execs_cons (thn (h1 pins s σ H D I h) fun f s1 q => ?_)
  cases f with
  | next => exact wpAny_execs_nil q
  | ret v => exact q
  | brk => exact q
  | cont => exact q
theorem Inv.quiet {pins : List (Addr × Obj)} {σ : St} {H : Hp} {s : Shared} (I : Inv X pins σ H s) : interactive X.env = false := by simp [interactive, I.ok.kind]
noncomputable def tDrop (te : TE) : TS := fun D σ H => te σ H fun _ H1 => D.nx σ H1
theorem ps_expr (he : PE X e te) (hs : swapsWith e none pos.line X.env = pure false := by rfl) : PS X (.Expr e pos) (tDrop te) := by
  intro pins s σ H D I h
  exact wpAny_Expr_any (thn (he pins s σ H _ I h) fun v s1 ⟨x, H1, I1, r1, q1⟩ => ⟨σ, H1, I1, q1⟩) I.quiet hs
noncomputable def tRet (te : TE) : TS := fun D σ H => te σ H D.rt
theorem ps_ret (he : PE X e te) : PS X (.Return (some e) pos) (tRet te) := by
  intro pins s σ H D I h
  exact wpAny_Return_some (thn (he pins s σ H _ I h) fun v s1 ⟨x, H1, I1, r1, q1⟩ => ⟨x, σ, H1, I1, r1, q1⟩)
noncomputable def tIfS (c : TT) (t u : TS) : TS := fun D σ H => c σ H fun b H1 => if b = true then t D σ H1 else u D σ H1
theorem ps_if {c : Expr} {a b : List Stmt} {tc : TT} (hc : PT X c tc) (ha : PSs X a t) (hb : PSs X b u) : PS X (.If c a b pos) (tIfS tc t u) := by
  intro pins s σ H D I h
  refine wpAny_If (thn (hc pins s σ H _ I h) fun d s1 ⟨H1, I1, q1⟩ => ?_)
  cases d with
  | true => exact ha pins s1 σ H1 D I1 q1
  | false => exact hb pins s1 σ H1 D I1 q1
noncomputable def tNever : TS := fun _ _ _ => False
theorem ps_never : PS X st tNever := fun _ _ _ _ _ _ h => h.elim
end

noncomputable abbrev TG := V → St → Hp → (St → Hp → Prop) → Prop
noncomputable abbrev TGs := List V → St → Hp → (St → Hp → Prop) → Prop
noncomputable def PG (X : Cx) (target : Expr) (t : TG) : Prop :=
  ∀ (pins : List (Addr × Obj)) (s : Shared) (σ : St) (H : Hp) (v : V) (u : Value) (Q : St → Hp → Prop), Inv X pins σ H s → RelV v u → t v σ H Q →
    wpAny (model X.prog X.w) X.A (assign target X.env u) (fun _ s' => ∃ σ' H', Inv X pins σ' H' s' ∧ Q σ' H') X.xe s
noncomputable abbrev TSet := V → V → V → Hp → (Hp → Prop) → Prop
noncomputable def PSet (X : Cx) (t : TSet) : Prop :=
  ∀ (pins : List (Addr × Obj)) (s : Shared) (σ : St) (H : Hp) (o i v : V) (ov iv u : Value) (Q : Hp → Prop), Inv X pins σ H s → RelV o ov → RelV i iv → RelV v u → t o i v H Q →
    wpAny (model X.prog X.w) X.A (setItem ov iv u) (fun _ s' => ∃ H', Inv X pins σ H' s' ∧ Q H') X.xe s
noncomputable abbrev TIp := V → V → Hp → VK → Prop
section
variable {X : Cx} {pos : Pos}
noncomputable def gName (i : Nat) : TG := fun v σ H Q => Q (σ.set i (some v)) H
theorem pg_name {i : Nat} {x : Str} (hN : X.N.Nodup) (hi : X.N[i]? = some x) (hx : Loc X.env.scope x) (hf : X.fn x = true ∨ X.env.scope.names.lookup x = some .local := by first | exact .inl rfl | exact .inr rfl | assumption) : PG X (.Name x pos) (gName i) := by
  intro pins s σ H v u Q I r h
  exact wpAny_assign_Name (store_ok I hN hi hx r (fun s' I' => ⟨_, H, I', h⟩) hf)
noncomputable def gSub (to ti : TE) (t : TSet) : TG := fun v σ H Q => to σ H fun o H1 => ti σ H1 fun i H2 => t o i v H2 fun H3 => Q σ H3
theorem pg_sub {o i : Expr} {to ti : TE} {t : TSet} (ho : PE X o to) (hi : PE X i ti) (hs : PSet X t)
    (ha : ∀ v, assign (.Subscript o i pos) X.env v = (do
      let ov ← holding [v] (eval o X.env)
      let iv ← holding [v, ov] (eval i X.env)
      standAt pos
      holding [v, ov, iv] (setItem ov iv v)
      release [v, ov, iv] []) := by intro _; rfl) : PG X (.Subscript o i pos) (gSub to ti t) := by
  intro pins s σ H v u Q I r h
  rw [ha]
  refine wpAny_bind (wpAny_holding (thn (ho pins s σ H _ I h) fun ov s1 ⟨x, H1, I1, r1, q1⟩ => ?_))
  refine wpAny_bind (wpAny_holding (thn (hi pins s1 σ H1 _ I1 q1) fun iv s2 ⟨y, H2, I2, r2, q2⟩ => ?_))
  refine wpAny_bind (wpAny_standAt (wpAny_bind (wpAny_holding (thn (hs pins s2 σ H2 x y v ov iv u _ I2 r1 r2 r q2) fun _ s3 ⟨H3, I3, q3⟩ => ?_))))
  exact wpAny_release ⟨σ, H3, I3, q3⟩
noncomputable def tAsg (te : TE) (g : TG) : TS := fun D σ H => te σ H fun x H1 => g x σ H1 D.nx
theorem ps_asg {tg e : Expr} {te : TE} {g : TG} (he : PE X e te) (hg : PG X tg g) (hs : swapsWithSole [tg] e pos.line X.env = pure false := by rfl) (hw : swappedStores [tg] e X.env = pure none := by rfl)
    (h1 : (assignEach [tg] X.env).map (·.2) = [assign tg X.env] := by rfl) : PS X (.Assign [tg] e pos) (tAsg te g) := by
  intro pins s σ H D I h
  refine wpAny_Assign_stores (thn (he pins s σ H _ I h) fun v s1 ⟨x, H1, I1, r1, q1⟩ => ?_) hs hw
  rw [h1]
  exact thn (hg pins s1 σ H1 x v _ I1 r1 q1) fun _ s2 q => q
theorem ps_set {i : Nat} {x : Str} {e : Expr} {te : TE} {pos' : Pos} (hN : X.N.Nodup) (hi : X.N[i]? = some x) (hx : Loc X.env.scope x) (he : PE X e te) (hs : swapsWith e (some (.Name x pos')) pos.line X.env = pure false := by rfl) (hf : X.fn x = true ∨ X.env.scope.names.lookup x = some .local := by first | exact .inl rfl | exact .inr rfl | assumption) :
    PS X (.Assign [.Name x pos'] e pos) (tAsg te (gName i)) := by
  intro pins s σ H D I h
  refine wpAny_Assign_Name (thn (he pins s σ H _ I h) fun v s1 ⟨y, H1, I1, r1, q1⟩ => ?_) hs
  exact store_ok I1 hN hi hx r1 (fun s2 I2 => ⟨_, H1, I2, q1⟩) hf
noncomputable def tPar (i j : Nat) (ta : TA) : TS := fun D σ H => ta σ H fun vs H1 => ∃ v w, vs = [v, w] ∧ D.nx ((σ.set i (some v)).set j (some w)) H1
theorem ps_par {i j : Nat} {x y : Str} {a b : Expr} {ta : TA} {px py pt : Pos} {kt k2 pt2} (hc : X.calm = true) (hN : X.N.Nodup) (hi : X.N[i]? = some x) (hj : X.N[j]? = some y) (hij : i ≠ j)
    (hx : X.env.scope.names.lookup x = some .local) (hy : X.env.scope.names.lookup y = some .local) (ha : PA X [a, b] ta)
    (hw : swappedStores [.Tuple [.Name x px, .Name y py] kt pt] (.Tuple [a, b] k2 pt2) X.env = pure (some [x, y]))
    (hs : swapsWithSole [.Tuple [.Name x px, .Name y py] kt pt] (.Tuple [a, b] k2 pt2) pos.line X.env = pure false := by rfl) :
    PS X (.Assign [.Tuple [.Name x px, .Name y py] kt pt] (.Tuple [a, b] k2 pt2) pos) (tPar i j ta) := by
  intro pins s σ H D I h
  rw [exec_Assign_arm]
  refine wpAny_bind (wpAny_standAt ?_)
  rw [hs]
  refine wpAny_bind (wpAny_pure ?_)
  rw [if_neg (by decide)]
  refine wpAny_bind (Tuple_ (thn (ha _ pins s σ H _ I h) fun us s1 ⟨vs, H1, I1, r1, q1⟩ => ?_))
  obtain ⟨v, w, e1, q1⟩ := q1
  subst e1
  obtain ⟨u1, u2, rfl, rv, rw'⟩ : ∃ u1 u2, us = [u1, u2] ∧ RelV v u1 ∧ RelV w u2 := by
    cases r1 with
    | cons p q =>
      cases q with
      | cons p' q' =>
        cases q'
        exact ⟨_, _, rfl, p, p'⟩
  refine wpAny_newObj_type ?_ (by show 2 ≤ sizeLine; decide)
  have I2 : Inv X pins σ H1 { s1 with heap := s1.heap.push { cls := .type "tuple", data := .seq [u1, u2].toArray } } := I1.kept (t' := s1.toks) fun b o e => Heap.get?_push_of_some _ e
  rw [hw]
  refine wpAny_bind (wpAny_pure ?_)
  show wpAny (model X.prog X.w) X.A (do rule "assign.swapped-stores"; let items ← unpackItems (.ref s1.heap.objs.size) 2 none; assignInOrder [fun v => bindName X.env y v, fun v => bindName X.env x v] items.reverse; pure Flow.next) _ _ _
  refine wpAny_bind (wpAny_rule (wpAny_bind (unpackItems_tuple (items := #[u1, u2]) (I.ok.hd hc) (IsTup.new s1.heap _) fun h' hx' => ?_)))
  have I3 := I2.kept (h' := h') (t' := s1.toks) fun b o e => hx' b o (Nat.ne_of_lt (Heap.lt_size e)) e
  show wpAny _ _ (assignInOrder [fun v => bindName X.env y v, fun v => bindName X.env x v] [u2, u1] >>= fun _ => pure Flow.next) _ _ _
  refine wpAny_bind (assignInOrder_cons (wpAny_bindName (store_ok I3 hN hj (.inl hy) rw' (fun s2 I4 => ?_) (.inr hy))))
  refine assignInOrder_cons (wpAny_bindName (store_ok I4 hN hi (.inl hx) rv (fun s3 I5 => assignInOrder_nil (wpAny_pure ?_)) (.inr hx)))
  rw [List.set_comm _ _ (Ne.symm hij)] at I5
  exact ⟨_, H1, I5, q1⟩
end

section
variable {X : Cx} {pos : Pos}
noncomputable def tWhile (c : TT) (tb : TS) : TS := fun D σ H => ∃ W : Nat → St → Hp → Prop, (∃ m, W m σ H) ∧ ∀ m σ H, W m σ H →
  c σ H fun b H1 => if b = true then ∃ N : St → Hp → Prop, (∀ σ' H', N σ' H' → ∃ m', m' < m ∧ W m' σ' H') ∧ tb { D with nx := N, ct := N, bk := D.nx } σ H1 else D.nx σ H1
theorem ps_while {c : Expr} {body : List Stmt} {tc : TT} {tb : TS} (hp : PassesOwn (model X.prog X.w) X.A X.env X.xe) (hc : PT X c tc) (hb : PSs X body tb) : PS X (.While c body [] pos) (tWhile tc tb) := by
  intro pins s σ H D I h
  obtain ⟨W, ⟨m0, w0⟩, turn⟩ := h
  refine wpAny_While (codeAny_whileLoop (fun n s' => ∃ σ' H', Inv X pins σ' H' s' ∧ W n σ' H') ?_ m0 ⟨σ, H, I, w0⟩)
  rintro n s1 ⟨σ1, H1, I1, w1⟩
  refine wpAny_passesOwn hp (thn (hc pins s1 σ1 H1 _ I1 (turn n σ1 H1 w1)) fun b s2 ⟨H2, I2, q2⟩ => ?_)
  cases b with
  | true =>
    obtain ⟨N, hN, q2⟩ := q2
    rw [if_pos rfl]
    refine wpAny_passesOwn hp (thn (hb pins s2 σ1 H2 _ I2 q2) fun f s3 q3 => ?_)
    cases f with
    | next =>
      obtain ⟨σ3, H3, I3, n3⟩ := q3
      obtain ⟨m', hm, w3⟩ := hN σ3 H3 n3
      exact ⟨m', hm, σ3, H3, I3, w3⟩
    | cont =>
      obtain ⟨σ3, H3, I3, n3⟩ := q3
      obtain ⟨m', hm, w3⟩ := hN σ3 H3 n3
      exact ⟨m', hm, σ3, H3, I3, w3⟩
    | brk => exact q3
    | ret v => exact q3
  | false =>
    rw [if_neg Bool.false_ne_true]
    exact wpAny_execs_nil ⟨σ1, H2, I2, q2⟩
end

structure It where
  go : Nat → Hp → Prop
  yld : Nat → Hp → V → Hp → Prop
  stop : Nat → Hp → Prop
noncomputable def FpOk (X : Cx) (pins : List (Addr × Obj)) (H : Hp) (b : Addr) : Prop :=
  H b = none ∧ b ≠ X.env.locals ∧ b ∉ X.fs ∧ (b ∈ X.ex ∨ X.s₀.heap.objs.size ≤ b) ∧ (∀ x c, X.env.cells.lookup x = some c → c ≠ b) ∧ ∀ p ∈ X.pn ++ pins, p.1 ≠ b
theorem Inv.fpOk {X : Cx} {pins : List (Addr × Obj)} {σ : St} {H H' : Hp} {s : Shared} {b : Addr} (I : Inv X pins σ H s) (hb : s.heap.objs.size ≤ b) (hn : H' b = none) : FpOk X pins H' b := by
  refine ⟨hn, Nat.ne_of_gt (Nat.lt_of_lt_of_le I.lt hb), I.nofs hb, .inr (Nat.le_trans I.sz hb), fun x c e z => ?_, fun p hp z => ?_⟩
  · obtain ⟨v, q⟩ := I.cell x c e
    exact absurd (Nat.lt_of_lt_of_le q.lt (by rw [z]; exact hb)) (Nat.lt_irrefl _)
  · exact absurd (Nat.lt_of_lt_of_le (Heap.lt_size (I.pin p hp).1) (by rw [z]; exact hb)) (Nat.lt_irrefl _)
structure Turn (P : Program) (w : World) (K : PySem.W.Frag) (tg : Expr) (J : It) (fp : List Addr) (it : Addr) (tn : Nat → Heap → Prop) : Prop where
  mem : it ∈ fp
  obj : ∀ i h, tn i h → ∀ b ∈ fp, ∃ o, h.get? b = some o ∧ ∀ v, o.data ≠ .cell v
  keep : ∀ i h h', tn i h → (∀ b ∈ fp, ∀ o, h.get? b = some o → h'.get? b = some o) → tn i h'
  item : ∀ (X : Cx), X.prog = P → X.w = w → X.K = K → X.calm = true → ∀ (i : Nat) (pins : List (Addr × Obj)) (s : Shared) (σ : St) (H : Hp) (E : Value → Shared → Prop), Inv X pins σ H s → (∀ b ∈ fp, FpOk X pins H b) → tn i s.heap → J.go i H →
    wpAny (model P w) X.A (pyNext (.ref it)) (fun r s1 => ∃ u, r = some u ∧
      wpAny (model P w) X.A (letOwnedTupleGo tg (.ref it) u) (fun _ s2 => ∃ x H', Inv X pins σ H' s2 ∧ RelV x u ∧ J.yld i H x H' ∧ tn (i + 1) s2.heap ∧ ∀ b ∈ fp, H' b = none) E s1) E s
  done : ∀ (X : Cx), X.prog = P → X.w = w → X.K = K → X.calm = true → ∀ (i : Nat) (pins : List (Addr × Obj)) (s : Shared) (σ : St) (H : Hp) (E : Value → Shared → Prop), Inv X pins σ H s → (∀ b ∈ fp, FpOk X pins H b) → tn i s.heap → J.stop i H →
    wpAny (model P w) X.A (pyNext (.ref it)) (fun r s1 => r = none ∧ Inv X pins σ H s1) E s
  self : ∀ (A : Around) (i : Nat) (s : Shared) (Q : Value → Shared → Prop) (E : Value → Shared → Prop), tn i s.heap → Q (.ref it) s → wpAny (model P w) A (pyIter (.ref it)) Q E s
noncomputable abbrev TI := St → Hp → (It → Hp → Prop) → Prop
noncomputable def PIE (X : Cx) (pins : List (Addr × Obj)) (σ : St) (tg : Expr) (R : It → Hp → Prop) (itv : Value) (s2 : Shared) : Prop :=
  ∃ (it : Addr) (fp : List Addr) (tn : Nat → Heap → Prop) (J : It) (H' : Hp), itv = .ref it ∧ Inv X pins σ H' s2 ∧ Turn X.prog X.w X.K tg J fp it tn ∧ tn 0 s2.heap ∧ (∀ b ∈ fp, FpOk X pins H' b) ∧ R J H'
noncomputable def PI (X : Cx) (tg iter : Expr) (wi : TI) : Prop :=
  ∀ (pins : List (Addr × Obj)) (s : Shared) (σ : St) (H : Hp) (R : It → Hp → Prop), Inv X pins σ H s → wi σ H R →
    wpAny (model X.prog X.w) X.A (eval iter X.env) (fun v s1 => wpAny (model X.prog X.w) X.A (pyIter v) (PIE X pins σ tg R) X.xe s1) X.xe s

theorem go_of {M : Model} {A : Around} {E : Value → Shared → Prop} {s : Shared} {tg : Expr} {it : Addr} {u : Value} {o : Obj} {n : String} {vs : Array Value} {Q : Unit → Shared → Prop} (ho : s.heap.get? it = some o) (hc : o.cls = .type n) (hd : o.data = .fields vs)
    (hn : ["enumerate", "zip", "dict_itemiterator", "dict_reverseitemiterator", "odict_iterator", "itertools.zip_longest", "itertools.pairwise"].contains n = false) (hQ : Q () s) : wpAny M A (letOwnedTupleGo tg (.ref it) u) Q E s := by
  unfold letOwnedTupleGo
  cases tg <;> first
    | exact wpAny_pure hQ
    | (cases u <;> first
        | exact wpAny_pure hQ
        | (refine wpAny_bind (wpAny_load ho ?_)
           rw [hc, hd]
           show wpAny M A (if (["enumerate", "zip", "dict_itemiterator", "dict_reverseitemiterator", "odict_iterator", "itertools.zip_longest", "itertools.pairwise"].contains n && vs[0]? == some (rawInt _)) = true then _ else _) Q E s
           rw [if_neg (by intro h; rw [hn, Bool.false_and] at h; cases h)]
           exact wpAny_pure hQ))

noncomputable def Itl (K : PySem.W.Frag) (a : Addr) : It :=
  ⟨fun i H => ∃ xs x, SqL K H a xs ∧ xs[i]? = some x, fun i H x H' => H' = H ∧ ∀ xs, SqL K H a xs → xs[i]? = some x, fun i H => ∃ xs, SqL K H a xs ∧ xs.length ≤ i⟩
noncomputable def Itr (lo : Int) (n : Nat) : It := ⟨fun i _ => i < n, fun i H x H' => H' = H ∧ x = .int (lo + i), fun i _ => n ≤ i⟩
theorem turn_list {P : Program} {w : World} {K : PySem.W.Frag} {tg : Expr} (a it : Addr) : Turn P w K tg (Itl K a) [it] it (fun i h => h.IsListIter it a i) where
  mem := by simp
  obj := fun i h st b hb => by
    have e : b = it := by simpa using hb
    subst e
    obtain ⟨o, e, c, d⟩ := st
    exact ⟨o, e, fun v z => by rw [d] at z; cases z⟩
  keep := fun i h h' st k => st.at fun o e => k it (by simp) o e
  item := by
    intro X hP hw hK hc i pins s σ H E I hf st hg
    subst hP hw hK
    obtain ⟨xs, x, hq, hx⟩ := hg
    obtain ⟨its, rv, p, hz⟩ := I.list hq
    obtain ⟨u, hu, ru⟩ := rv.get hx
    obtain ⟨f0, f1, f2, f3, f4, f5⟩ := hf it (by simp)
    refine wpAny_pyNext_list_item st p.isList (x := u) (by simpa using hu) fun h' st' sb => ?_
    have I1 : Inv X pins σ H { s with heap := h' } := I.turned (t' := s.toks) (fun b o hb e => (sb.2 b hb).trans e) f0 f1 f3 f4 f5
    obtain ⟨o, e, c, d⟩ := id st'
    exact ⟨u, rfl, go_of (s := { s with heap := h' }) e c d (by decide) ⟨x, H, I1, ru, ⟨rfl, fun ys hy => by rw [I.list_inj hy hq]; exact hx⟩, st', fun b hb => (hf b hb).1⟩⟩
  done := by
    intro X hP hw hK hc i pins s σ H E I hf st hg
    subst hP hw hK
    obtain ⟨xs, hq, hx⟩ := hg
    obtain ⟨its, rv, p, hz⟩ := I.list hq
    obtain ⟨f0, f1, f2, f3, f4, f5⟩ := hf it (by simp)
    have hl := rv.length
    exact wpAny_pyNext_list_end (I.ok.hd hc) st p.isList (by simp; omega) fun h' eb => ⟨rfl, I.turned (t' := s.toks) (fun b o hb e => eb b o hb e) f0 f1 f3 f4 f5⟩
  self := fun _ _ _ _ _ st h => wpAny_pyIter_listiter st h
theorem turn_range {P : Program} {w : World} {K : PySem.W.Frag} {tg : Expr} (it : Addr) (lo : Int) (n : Nat) : Turn P w K tg (Itr lo n) [it] it (fun i h => IsRangeIter h it (lo + (i : Nat) * 1) ((n : Int) - (i : Nat)) 1) where
  mem := by simp
  obj := fun i h st b hb => by
    have e : b = it := by simpa using hb
    subst e
    exact ⟨_, st, fun v z => by
      have z' : Data.fields _ = Data.cell v := z
      cases z'⟩
  keep := fun i h h' st k => k it (by simp) _ st
  item := by
    intro X hP hw hK hc i pins s σ H E I hf st hg
    subst hP hw hK
    obtain ⟨f0, f1, f2, f3, f4, f5⟩ := hf it (by simp)
    have W := Walks.range (prog := X.prog) (w := X.w) (I.ok.hd hc) it lo 1 n
    refine W.item i s _ _ hg st fun v h' tk hv st' kk => ?_
    obtain ⟨t, rfl⟩ := hv
    have I1 : Inv X pins σ H { s with heap := h', toks := tk } := I.turned (fun b o hb e => kk b o (by simpa using hb) e) f0 f1 f3 f4 f5
    refine ⟨_, rfl, go_of (s := { s with heap := h', toks := tk }) (n := "range_iterator") st' rfl rfl (by decide) ⟨.int (lo + i), H, I1, ⟨t, ?_⟩, ⟨rfl, rfl⟩, st', fun b hb => (hf b hb).1⟩⟩
    rw [Int.mul_one]
  done := by
    intro X hP hw hK hc i pins s σ H E I hf st hg
    subst hP hw hK
    obtain ⟨f0, f1, f2, f3, f4, f5⟩ := hf it (by simp)
    exact wpAny_pyNext_range_end (I.ok.hd hc) st (by have : n ≤ i := hg; omega) fun h' eb => ⟨rfl, I.turned (t' := s.toks) (fun b o hb e => eb b o hb e) f0 f1 f3 f4 f5⟩
  self := fun _ _ _ _ _ st h => wpAny_pyIter_rangeiter st h
end L2

namespace L2
open PySem PySem.Spec PyProof.Rows
section
variable {X : Cx} {tg : Expr}
noncomputable def iList (K : PySem.W.Frag) (tl : TE) : TI := fun σ H R => tl σ H fun x H1 => ∃ a, x = .ref a ∧ (∃ xs, SqL K H1 a xs) ∧ R (Itl K a) H1
theorem pi_list {l : Expr} {tl : TE} (hl : PE X l tl) : PI X tg l (iList X.K tl) := by
  intro pins s σ H R I h
  refine thn (hl pins s σ H _ I h) fun v s1 ⟨x, H1, I1, r1, q1⟩ => ?_
  obtain ⟨a, e, ⟨xs, hq⟩, q⟩ := q1
  subst e
  cases r1
  obtain ⟨its, rv, p, hz⟩ := I1.list hq
  refine wpAny_pyIter_list p.isList ?_
  refine ⟨s1.heap.objs.size, [s1.heap.objs.size], _, _, H1, rfl, I1.kept (t' := s1.toks) fun b o e => Heap.get?_push_of_some _ e, turn_list a _, ⟨_, Heap.get?_push_size _ rfl, rfl, rfl⟩, fun b hb => ?_, q⟩
  have e : b = s1.heap.objs.size := by simpa using hb
  subst e
  exact I1.fpOk (Nat.le_refl _) (I1.hok.fresh (Nat.le_refl _))
theorem range_it {pins : List (Addr × Obj)} {σ : St} {H : Hp} {s : Shared} {R : It → Hp → Prop} {E : Value → Shared → Prop} {lo hi : Int} {t u v : Tok} {tk : Nat} (I : Inv X pins σ H s) (h1 : -(2 ^ 62) ≤ lo) (h2 : lo < 2 ^ 62) (h3 : -(2 ^ 62) ≤ hi) (h4 : hi < 2 ^ 62)
    (q : R (Itr lo (hi - lo).toNat) H) : wpAny (model X.prog X.w) X.A (pyIter (.ref s.heap.objs.size)) (PIE X pins σ tg R) E { s with heap := s.heap.push { cls := .type "range", data := .fields #[.int lo t, .int hi u, .int 1 v] }, toks := tk } := by
  refine wpAny_pyIter_range (IsRange.new ..) (small_one h1 h2 h3 h4) ?_
  have I1 : Inv X pins σ H { s with heap := s.heap.push { cls := .type "range", data := .fields #[.int lo t, .int hi u, .int 1 v] }, toks := tk } := I.kept fun b o e => Heap.get?_push_of_some _ e
  refine ⟨(s.heap.push { cls := .type "range", data := .fields #[.int lo t, .int hi u, .int 1 v] }).objs.size, [(s.heap.push { cls := .type "range", data := .fields #[.int lo t, .int hi u, .int 1 v] }).objs.size], _, _, H, rfl,
    I1.kept (t' := tk) fun b o e => Heap.get?_push_of_some _ e, turn_range _ lo (hi - lo).toNat, ?_, fun b hb => ?_, q⟩
  · have e1 : lo + ((0 : Nat) : Int) * 1 = lo := by simp
    have e2 : (((hi - lo).toNat : Nat) : Int) - ((0 : Nat) : Int) = Builtin.Range.rangeSize lo hi 1 := by rw [rangeSize_one]; split <;> omega
    show IsRangeIter _ _ (lo + ((0 : Nat) : Int) * 1) ((((hi - lo).toNat : Nat) : Int) - ((0 : Nat) : Int)) 1
    rw [e1, e2]
    exact Heap.get?_push_size _ rfl
  · have e : b = (s.heap.push { cls := .type "range", data := .fields #[.int lo t, .int hi u, .int 1 v] }).objs.size := by simpa using hb
    subst e
    exact I1.fpOk (Nat.le_refl _) (I1.hok.fresh (Nat.le_refl _))
noncomputable def iRng1 (ta : TA) : TI := fun σ H R => ta σ H fun vs H1 => ∃ j : Int, vs = [.int j] ∧ -(2 ^ 62) ≤ j ∧ j < 2 ^ 62 ∧ R (Itr 0 j.toNat) H1
theorem pi_range1 {a : Expr} {ta : TA} {p pos : Pos} (hg : Gl X "range") (hm : X.mg "range" = none) (ha : PA X [a] ta) (hs : starEach [a] X.env = [(false, eval a X.env)] := by rfl) : PI X tg (.Call (.Name "range" p) [a] [] pos) (iRng1 ta) := by
  intro pins s σ H R I h
  refine Call_ (ld_blt I hg hm boot_range (PyProof.Rows.callWith_type1 (thn (ha pos pins s σ H _ I h) fun us s1 ⟨vs, H1, I1, r1, q1⟩ => ?_) hs rfl))
  obtain ⟨j, e, q1, q2, q⟩ := q1
  subst e
  cases r1 with
  | cons r rr =>
    cases rr
    obtain ⟨t, rfl⟩ := r
    exact call_range_1 (range_it I1 (by omega) (by omega) q1 q2 (by simpa using q))
noncomputable def tFor (wi : TI) (g : TG) (tb : TS) : TS := fun D σ H => wi σ H fun J H1 => ∃ W : Nat → Nat → St → Hp → Prop, (∃ m, W 0 m σ H1) ∧ ∀ i m σ H, W i m σ H →
  (J.stop i H ∧ D.nx σ H) ∨ (J.go i H ∧ ∃ N : St → Hp → Prop, (∀ σ' H', N σ' H' → ∃ m', m' < m ∧ W (i + 1) m' σ' H') ∧ ∀ x H', J.yld i H x H' → g x σ H' fun σ2 H2 => tb { D with nx := N, ct := N, bk := D.nx } σ2 H2)
noncomputable def pinsAt (fp : List Addr) (h : Heap) : List (Addr × Obj) := fp.filterMap fun b => (h.get? b).map fun o => (b, o)
theorem mem_pinsAt {fp : List Addr} {h : Heap} {b : Addr} {o : Obj} (hb : b ∈ fp) (e : h.get? b = some o) : (b, o) ∈ pinsAt fp h := List.mem_filterMap.mpr ⟨b, hb, by rw [e]; rfl⟩
theorem of_pinsAt {fp : List Addr} {h : Heap} {p : Addr × Obj} (hp : p ∈ pinsAt fp h) : p.1 ∈ fp ∧ h.get? p.1 = some p.2 := by
  obtain ⟨b, hb, e⟩ := List.mem_filterMap.mp hp
  cases q : h.get? b with
  | none => rw [q] at e; cases e
  | some o =>
    rw [q] at e
    have e' : (b, o) = p := Option.some.inj e
    subst e'
    exact ⟨hb, q⟩
theorem Inv.pinned {pins : List (Addr × Obj)} {σ : St} {H : Hp} {s : Shared} {fp : List Addr} (I : Inv X pins σ H s) (hf : ∀ b ∈ fp, FpOk X pins H b) (ho : ∀ b ∈ fp, ∃ o, s.heap.get? b = some o ∧ ∀ v, o.data ≠ .cell v) : Inv X (pins ++ pinsAt fp s.heap) σ H s :=
  I.pins_of fun p hp => (List.mem_append.mp hp).elim (fun z => I.pin p (List.mem_append_right _ z)) fun z => by
    obtain ⟨hb, e⟩ := of_pinsAt z
    obtain ⟨f0, f1, f2, _⟩ := hf p.1 hb
    obtain ⟨o, e', d⟩ := ho p.1 hb
    rw [e] at e'; cases e'
    exact ⟨e, f0, f1, f2, d⟩
theorem Inv.unpinned {pins pl : List (Addr × Obj)} {σ : St} {H : Hp} {s : Shared} (I : Inv X (pins ++ pl) σ H s) : Inv X pins σ H s := I.pins_of fun p hp => I.pin p (List.mem_append_right _ (List.mem_append_left _ hp))
theorem ps_for {iter : Expr} {body : List Stmt} {wi : TI} {g : TG} {tb : TS} {pos : Pos} (hp : PassesOwn (model X.prog X.w) X.A X.env X.xe) (hc : X.calm = true) (hi : PI X tg iter wi) (hg : PG X tg g) (hb : PSs X body tb)
    (hs : ∀ x, foldedSetIterable iter X.env x = pure x := by intro _; rfl) : PS X (.For tg iter body [] pos) (tFor wi g tb) := by
  intro pins s σ H D I h
  refine wpAny_For (thn (hi pins s σ H _ I h) fun v s1 h1 => thn h1 fun itv s2 h2 => ?_) hs
  obtain ⟨it, fp, tn, J, H2, e, I2, T, st2, f2, W, ⟨m0, w0⟩, turn⟩ := h2
  subst e
  -- what stays true of the iterator's objects through the loop
  have stat : ∀ {H' : Hp}, (∀ b ∈ fp, H' b = none) → ∀ b ∈ fp, FpOk X pins H' b := fun hn b hb => ⟨hn b hb, (f2 b hb).2⟩
  refine codeAny_forLoop_any (fun n s' => ∃ i σ' H', Inv X pins σ' H' s' ∧ tn i s'.heap ∧ (∀ b ∈ fp, H' b = none) ∧ W i n σ' H') ?_ m0 ⟨0, σ, H2, I2, st2, fun b hb => (f2 b hb).1, w0⟩
  rintro n s3 ⟨i, σ3, H3, I3, st3, fr3, w3⟩
  rcases turn i n σ3 H3 w3 with ⟨stop, qn⟩ | ⟨go, N, hN, step⟩
  · refine wpAny_passesOwn hp (thn (T.done X rfl rfl rfl hc i pins s3 σ3 H3 X.xe I3 (stat fr3) st3 stop) fun r s4 ⟨hr, I4⟩ => ?_)
    subst hr
    exact wpAny_execs_nil ⟨σ3, H3, I4, qn⟩
  · refine wpAny_passesOwn hp (thn (T.item X rfl rfl rfl hc i pins s3 σ3 H3 X.xe I3 (stat fr3) st3 go) fun r s4 ⟨u, hr, h4⟩ => ?_)
    subst hr
    refine wpAny_passesOwn hp (thn h4 fun _ s5 ⟨x, H5, I5, r5, y5, st5, fr5⟩ => ?_)
    have I5' := I5.pinned (stat fr5) (T.obj _ _ st5)
    refine wpAny_passesOwn hp (thn (hg _ s5 σ3 H5 x u _ I5' r5 (step x H5 y5)) fun _ s6 ⟨σ6, H6, I6, q6⟩ => ?_)
    refine wpAny_passesOwn hp (thn (hb _ s6 σ6 H6 _ I6 q6) fun f s7 q7 => ?_)
    have again : ∀ {σ7 : St} {H7 : Hp}, Inv X (pins ++ pinsAt fp s5.heap) σ7 H7 s7 → N σ7 H7 → ∃ m, m < n ∧ ∃ i σ' H', Inv X pins σ' H' s7 ∧ tn i s7.heap ∧ (∀ b ∈ fp, H' b = none) ∧ W i m σ' H' := fun {σ7 H7} I7 n7 => by
      obtain ⟨m', hm, w7⟩ := hN σ7 H7 n7
      refine ⟨m', hm, i + 1, σ7, H7, I7.unpinned, T.keep _ _ _ st5 fun b hb o e => (I7.pin (b, o) (List.mem_append_right _ (List.mem_append_right _ (mem_pinsAt hb e)))).1, fun b hb => ?_, w7⟩
      obtain ⟨o, e, d⟩ := T.obj _ _ st5 b hb
      exact (I7.pin (b, o) (List.mem_append_right _ (List.mem_append_right _ (mem_pinsAt hb e)))).2.1
    cases f with
    | next => obtain ⟨σ7, H7, I7, n7⟩ := q7; exact again I7 n7
    | cont => obtain ⟨σ7, H7, I7, n7⟩ := q7; exact again I7 n7
    | brk => obtain ⟨σ7, H7, I7, q7⟩ := q7; exact ⟨σ7, H7, I7.unpinned, q7⟩
    | ret v => obtain ⟨x7, σ7, H7, I7, r7, q7⟩ := q7; exact ⟨x7, σ7, H7, I7.unpinned, r7, q7⟩
end

theorem for_list {K : PySem.W.Frag} {a : Addr} {xs : List V} {g : TG} {tb : TS} {D : Ends} {σ : St} {H : Hp} (Pv : Nat → St → Hp → Prop) (h0 : Pv 0 σ H) (hl : ∀ i σ H, i ≤ xs.length → Pv i σ H → SqL K H a xs)
    (hs : ∀ i x σ H, xs[i]? = some x → Pv i σ H → g x σ H fun σ2 H2 => tb { D with nx := Pv (i + 1), ct := Pv (i + 1), bk := D.nx } σ2 H2) (hd : ∀ σ H, Pv xs.length σ H → D.nx σ H) :
    ∃ W : Nat → Nat → St → Hp → Prop, (∃ m, W 0 m σ H) ∧ ∀ i m σ H, W i m σ H →
      ((Itl K a).stop i H ∧ D.nx σ H) ∨ ((Itl K a).go i H ∧ ∃ N : St → Hp → Prop, (∀ σ' H', N σ' H' → ∃ m', m' < m ∧ W (i + 1) m' σ' H') ∧ ∀ x H', (Itl K a).yld i H x H' → g x σ H' fun σ2 H2 => tb { D with nx := N, ct := N, bk := D.nx } σ2 H2) := by
  refine ⟨fun i m σ H => m = xs.length - i ∧ i ≤ xs.length ∧ Pv i σ H, ⟨xs.length, by simp, Nat.zero_le _, h0⟩, ?_⟩
  rintro i m σ H ⟨rfl, hi, p⟩
  have q := hl i σ H hi p
  by_cases hlt : i < xs.length
  · refine .inr ⟨⟨xs, xs[i], q, by simp [hlt]⟩, Pv (i + 1), fun σ' H' p' => ⟨xs.length - (i + 1), by omega, rfl, hlt, p'⟩, fun x H' y => ?_⟩
    obtain ⟨e, y⟩ := y
    subst e
    exact hs i x σ _ (y xs q) p
  · have e : i = xs.length := by omega
    subst e
    exact .inl ⟨⟨xs, q, Nat.le_refl _⟩, hd σ H p⟩
theorem for_range {lo : Int} {n : Nat} {g : TG} {tb : TS} {D : Ends} {σ : St} {H : Hp} (Pv : Nat → St → Hp → Prop) (h0 : Pv 0 σ H)
    (hs : ∀ i σ H, i < n → Pv i σ H → g (.int (lo + i)) σ H fun σ2 H2 => tb { D with nx := Pv (i + 1), ct := Pv (i + 1), bk := D.nx } σ2 H2) (hd : ∀ σ H, Pv n σ H → D.nx σ H) :
    ∃ W : Nat → Nat → St → Hp → Prop, (∃ m, W 0 m σ H) ∧ ∀ i m σ H, W i m σ H →
      ((Itr lo n).stop i H ∧ D.nx σ H) ∨ ((Itr lo n).go i H ∧ ∃ N : St → Hp → Prop, (∀ σ' H', N σ' H' → ∃ m', m' < m ∧ W (i + 1) m' σ' H') ∧ ∀ x H', (Itr lo n).yld i H x H' → g x σ H' fun σ2 H2 => tb { D with nx := N, ct := N, bk := D.nx } σ2 H2) := by
  refine ⟨fun i m σ H => m = n - i ∧ i ≤ n ∧ Pv i σ H, ⟨n, by simp, Nat.zero_le _, h0⟩, ?_⟩
  rintro i m σ H ⟨rfl, hi, p⟩
  by_cases hlt : i < n
  · refine .inr ⟨hlt, Pv (i + 1), fun σ' H' p' => ⟨n - (i + 1), by omega, rfl, hlt, p'⟩, fun x H' y => ?_⟩
    obtain ⟨e, y⟩ := y
    subst e y
    exact hs i σ _ hlt p
  · have e : i = n := by omega
    subst e
    exact .inl ⟨Nat.le_refl _, hd σ H p⟩
end L2

namespace L2
open PySem PySem.Spec PyProof.Rows

noncomputable abbrev R2 := V → V → Hp → VK → Prop
noncomputable def OpR (X : Cx) (f : Value → Value → Sem Value) (r : R2) : Prop :=
  ∀ (pins : List (Addr × Obj)) (s : Shared) (σ : St) (H : Hp) (x y : V) (v u : Value) (Q : VK), Inv X pins σ H s → RelV x v → RelV y u → r x y H Q →
    wpAny (model X.prog X.w) X.A (f v u) (EP X pins σ Q) X.xe s
noncomputable def UnR (X : Cx) (f : Value → Sem Value) (r : V → Hp → VK → Prop) : Prop :=
  ∀ (pins : List (Addr × Obj)) (s : Shared) (σ : St) (H : Hp) (x : V) (v : Value) (Q : VK), Inv X pins σ H s → RelV x v → r x H Q →
    wpAny (model X.prog X.w) X.A (f v) (EP X pins σ Q) X.xe s
noncomputable def CallR (X : Cx) (f : Value) (r : List V → Hp → VK → Prop) : Prop :=
  ∀ (pins : List (Addr × Obj)) (s : Shared) (σ : St) (H : Hp) (xs : List V) (us : List Value) (Q : VK), Inv X pins σ H s → Vals xs us → r xs H Q →
    wpAny (model X.prog X.w) X.A (call f us) (EP X pins σ Q) X.xe s
noncomputable def TruR (X : Cx) (r : V → Hp → (Bool → Hp → Prop) → Prop) : Prop :=
  ∀ (pins : List (Addr × Obj)) (s : Shared) (σ : St) (H : Hp) (x : V) (v : Value) (Q : Bool → Hp → Prop), Inv X pins σ H s → RelV x v → r x H Q →
    wpAny (model X.prog X.w) X.A (truthy v) (TP X pins σ Q) X.xe s

noncomputable def tOp (r : R2) (ta tb : TE) : TE := fun σ H Q => ta σ H fun x H1 => tb σ H1 fun y H2 => r x y H2 Q
noncomputable def tUn (r : V → Hp → VK → Prop) (ta : TE) : TE := fun σ H Q => ta σ H fun x H1 => r x H1 Q
noncomputable def rI (C : Int → Int → Prop) (g : Int → Int → V) : R2 := fun x y H Q => ∃ i j, x = .int i ∧ y = .int j ∧ C i j ∧ Q (g i j) H
noncomputable def rI0 (g : Int → Int → V) : R2 := fun x y H Q => ∃ i j, x = .int i ∧ y = .int j ∧ Q (g i j) H
noncomputable def rU (g : Int → V) : V → Hp → VK → Prop := fun x H Q => ∃ i, x = .int i ∧ Q (g i) H

section
variable {X : Cx} {a b c : Expr} {ta tb tc : TE} {pos : Pos}

theorem binT (ha : PE X a ta) (hb : PE X b tb) {pins : List (Addr × Obj)} {s : Shared} {σ : St} {H : Hp} {R : V → V → Hp → Prop} (I : Inv X pins σ H s)
    (h : ta σ H fun x H1 => tb σ H1 fun y H2 => R x y H2) {Q : Value → Shared → Prop} {f : Value → Value → Sem Value}
    (hf : ∀ v u s2 x y H2, Inv X pins σ H2 s2 → RelV x v → RelV y u → R x y H2 → wpAny (model X.prog X.w) X.A (f v u) Q X.xe s2) :
    wpAny (model X.prog X.w) X.A (eval a X.env) (fun v s₁ => wpAny (model X.prog X.w) X.A (eval b X.env) (fun u s₂ => wpAny (model X.prog X.w) X.A (f v u) Q X.xe s₂) X.xe s₁) X.xe s := by
  refine thn (ha pins s σ H _ I h) fun v s1 ⟨x, H1, I1, r1, q1⟩ => ?_
  refine thn (hb pins s1 σ H1 _ I1 q1) fun u s2 ⟨y, H2, I2, r2, q2⟩ => ?_
  exact hf v u s2 x y H2 I2 r1 r2 q2

theorem pe_op {op : Operator} {r : R2} (ho : OpR X (binaryOp op) r) (ha : PE X a ta) (hb : PE X b tb) : PE X (.BinOp a op b pos) (tOp r ta tb) := by
  intro pins s σ H Q I h
  exact wpAny_BinOp (binT ha hb I h fun v u s2 x y H2 I2 rx ry q => ho pins s2 σ H2 x y v u Q I2 rx ry q)
theorem pe_un {op : UnaryOp} {r : V → Hp → VK → Prop} (ho : UnR X (unaryOp op) r) (ha : PE X a ta) : PE X (.UnaryOp op a pos) (tUn r ta) := by
  intro pins s σ H Q I h
  exact UnaryOp_ (thn (ha pins s σ H _ I h) fun v s1 ⟨x, H1, I1, r1, q1⟩ => ho pins s1 σ H1 x v Q I1 r1 q1)
theorem opI {f : Value → Value → Sem Value} {C : Int → Int → Prop} {g : Int → Int → Int}
    (rule : ∀ (i j : Int) (t u : Tok) (s : Shared) (Q : Value → Shared → Prop) (E : Value → Shared → Prop), C i j → Q (.int (g i j) s.toks) { s with toks := s.toks + 1 } → wpAny (model X.prog X.w) X.A (f (.int i t) (.int j u)) Q E s) :
    OpR X f (rI C fun i j => .int (g i j)) := by
  intro pins s σ H x y v u Q I rx ry h
  obtain ⟨i, j, rfl, rfl, hc, q⟩ := h
  obtain ⟨t, rfl⟩ := rx
  obtain ⟨t', rfl⟩ := ry
  exact rule i j t t' s _ _ hc ⟨.int (g i j), H, I.tok _, ⟨_, rfl⟩, q⟩
theorem opI0 {f : Value → Value → Sem Value} {g : Int → Int → Int}
    (rule : ∀ (i j : Int) (t u : Tok) (s : Shared) (Q : Value → Shared → Prop) (E : Value → Shared → Prop), Q (.int (g i j) s.toks) { s with toks := s.toks + 1 } → wpAny (model X.prog X.w) X.A (f (.int i t) (.int j u)) Q E s) :
    OpR X f (rI0 fun i j => .int (g i j)) := by
  intro pins s σ H x y v u Q I rx ry h
  obtain ⟨i, j, rfl, rfl, q⟩ := h
  obtain ⟨t, rfl⟩ := rx
  obtain ⟨t', rfl⟩ := ry
  exact rule i j t t' s _ _ ⟨.int (g i j), H, I.tok _, ⟨_, rfl⟩, q⟩
theorem opB0 {f : Value → Value → Sem Value} {g : Int → Int → Bool}
    (rule : ∀ (i j : Int) (t u : Tok) (s : Shared) (Q : Value → Shared → Prop) (E : Value → Shared → Prop), Q (.bool (g i j)) s → wpAny (model X.prog X.w) X.A (f (.int i t) (.int j u)) Q E s) :
    OpR X f (rI0 fun i j => .bl (g i j)) := by
  intro pins s σ H x y v u Q I rx ry h
  obtain ⟨i, j, rfl, rfl, q⟩ := h
  obtain ⟨t, rfl⟩ := rx
  obtain ⟨t', rfl⟩ := ry
  exact rule i j t t' s _ _ ⟨.bl (g i j), H, I, rfl, q⟩

noncomputable def CPow (i j : Int) : Prop := 0 ≤ j ∧ j ≤ 1000000 ∧ i.natAbs < 2 ^ 64
noncomputable def CMul (i j : Int) : Prop := (-(2 ^ 64) < i ∧ i < 2 ^ 64) ∨ (-(2 ^ 64) < j ∧ j < 2 ^ 64)
theorem CMul.ok {i j : Int} (h : CMul i j) : IntMulOk i j := by
  rcases h with ⟨h1, h2⟩ | ⟨h1, h2⟩
  · exact .of_left (intBits_le_64 h1 h2)
  · exact .of_right (intBits_le_64 h1 h2)
theorem op_add : OpR X (binaryOp .Add) (rI0 fun i j => .int (i + j)) := opI0 fun _ _ _ _ _ _ _ q => add_int q
theorem op_sub : OpR X (binaryOp .Sub) (rI0 fun i j => .int (i - j)) := opI0 fun _ _ _ _ _ _ _ q => sub_int q
theorem op_modN : OpR X (binaryOp .Mod) (rI (fun _ j => j ≠ 0) fun i j => .int (i.fmod j)) := opI fun _ _ _ _ _ _ _ hc q => mod_int' hc q
theorem op_pow : OpR X (binaryOp .Pow) (rI CPow fun i j => .int (i ^ j.toNat)) := opI fun _ _ _ _ _ _ _ hc q => pow_int_small hc.1 hc.2.1 hc.2.2 q
theorem unI {f : Value → Sem Value} {g : Int → Int}
    (rule : ∀ (i : Int) (t : Tok) (s : Shared) (Q : Value → Shared → Prop) (E : Value → Shared → Prop), Q (.int (g i) s.toks) { s with toks := s.toks + 1 } → wpAny (model X.prog X.w) X.A (f (.int i t)) Q E s) :
    UnR X f (rU fun i => .int (g i)) := by
  intro pins s σ H x v Q I rx h
  obtain ⟨i, rfl, q⟩ := h
  obtain ⟨t, rfl⟩ := rx
  exact rule i t s _ _ ⟨.int (g i), H, I.tok _, ⟨_, rfl⟩, q⟩
theorem un_neg : UnR X (unaryOp .USub) (rU fun i => .int (-i)) := unI fun _ _ _ _ _ q => neg_int q
end

noncomputable def scal : V → V → Bool
  | .non, .non => true | .non, .int _ => true | .int _, .non => true | .non, .bl _ => true | .bl _, .non => true | .non, .str _ => true | .str _, .non => true
  | .int _, .int _ => true | .bl _, .bl _ => true | .str _, .str _ => true | .byt _, .byt _ => true
  | .int _, .str _ => true | .str _, .int _ => true | .bl _, .str _ => true | .str _, .bl _ => true
  | _, _ => false
noncomputable def rEq : R2 := fun x y H Q => scal x y = true ∧ Q (.bl (decide (x = y))) H
noncomputable def rNe : R2 := fun x y H Q => scal x y = true ∧ Q (.bl (!decide (x = y))) H

theorem dec_int {i j : Int} : decide (V.int i = V.int j) = (i == j) := by
  rw [Bool.eq_iff_iff]
  simp
theorem dec_bl {i j : Bool} : decide (V.bl i = V.bl j) = (i == j) := by
  rw [Bool.eq_iff_iff]
  simp
theorem dec_str {i j : Str} : decide (V.str i = V.str j) = (i == j) := by
  rw [Bool.eq_iff_iff]
  simp
theorem dec_byt {i j : Array UInt8} : decide (V.byt i = V.byt j) = (i.toList == j.toList) := by
  rw [Bool.eq_iff_iff]
  cases i
  cases j
  simp

section
variable {X : Cx} {a b c : Expr} {ta tb tc : TE} {pos : Pos}
theorem fin_bl {pins : List (Addr × Obj)} {σ : St} {H : Hp} {s : Shared} {Q : VK} {k k' : Bool} (I : Inv X pins σ H s) (q : Q (.bl k) H) (e : k = k') : EP X pins σ Q (.bool k') s := by
  subst e
  exact ⟨.bl k, H, I, rfl, q⟩
theorem op_eq : OpR X (compareOp .Eq) rEq := by
  intro pins s σ H x y v u Q I rx ry h
  obtain ⟨hs, q⟩ := h
  cases x with
  | non =>
    cases rx
    cases y with
    | non => cases ry; exact PySem.EqNone.eq_none_none (fin_bl I q (by simp))
    | bl j => cases ry; exact PySem.EqNone.eq_none_bool (fin_bl I q (by simp))
    | int j => obtain ⟨t', rfl⟩ := ry; exact PySem.EqNone.eq_none_int (fin_bl I q (by simp))
    | str j => obtain ⟨t', rfl⟩ := ry; exact PySem.EqNone.eq_none_str (fin_bl I q (by simp))
    | _ => exact absurd (show false = true from hs) Bool.false_ne_true
  | bl i =>
    cases rx
    cases y with
    | non => cases ry; exact PySem.EqNone.eq_bool_none (fin_bl I q (by simp))
    | bl j => cases ry; exact eq_bool (fin_bl I q dec_bl)
    | str j => obtain ⟨t', rfl⟩ := ry; exact PySem.EqMixed.eq_bool_str (fin_bl I q (by simp))
    | _ => exact absurd (show false = true from hs) Bool.false_ne_true
  | int i =>
    obtain ⟨t, rfl⟩ := rx
    cases y with
    | non => cases ry; exact PySem.EqNone.eq_int_none (fin_bl I q (by simp))
    | int j => obtain ⟨t', rfl⟩ := ry; exact eq_int (fin_bl I q dec_int)
    | str j => obtain ⟨t', rfl⟩ := ry; exact PySem.EqMixed.eq_int_str (fin_bl I q (by simp))
    | _ => exact absurd (show false = true from hs) Bool.false_ne_true
  | str i =>
    obtain ⟨t, rfl⟩ := rx
    cases y with
    | non => cases ry; exact PySem.EqNone.eq_str_none (fin_bl I q (by simp))
    | bl j => cases ry; exact PySem.EqMixed.eq_str_bool (fin_bl I q (by simp))
    | int j => obtain ⟨t', rfl⟩ := ry; exact PySem.EqMixed.eq_str_int (fin_bl I q (by simp))
    | str j => obtain ⟨t', rfl⟩ := ry; exact eq_str (fin_bl I q dec_str)
    | _ => exact absurd (show false = true from hs) Bool.false_ne_true
  | byt i =>
    obtain ⟨t, rfl⟩ := rx
    cases y with
    | byt j => obtain ⟨t', rfl⟩ := ry; exact PySem.W.eq_bytes (fin_bl I q dec_byt)
    | _ => exact absurd (show false = true from hs) Bool.false_ne_true
  | _ => cases y <;> exact absurd (show false = true from hs) Bool.false_ne_true
theorem op_ne : OpR X (compareOp .NotEq) rNe := by
  intro pins s σ H x y v u Q I rx ry h
  obtain ⟨hs, q⟩ := h
  cases x with
  | non =>
    cases rx
    cases y with
    | non => cases ry; exact PySem.EqNone.ne_none_none (fin_bl I q (by simp))
    | bl j => cases ry; exact PySem.EqNone.ne_none_bool (fin_bl I q (by simp))
    | int j => obtain ⟨t', rfl⟩ := ry; exact PySem.EqNone.ne_none_int (fin_bl I q (by simp))
    | str j => obtain ⟨t', rfl⟩ := ry; exact PySem.EqNone.ne_none_str (fin_bl I q (by simp))
    | _ => exact absurd (show false = true from hs) Bool.false_ne_true
  | bl i =>
    cases rx
    cases y with
    | non => cases ry; exact PySem.EqNone.ne_bool_none (fin_bl I q (by simp))
    | bl j => cases ry; exact ne_bool (fin_bl I q (congrArg not dec_bl))
    | str j => obtain ⟨t', rfl⟩ := ry; exact PySem.EqMixed.ne_bool_str (fin_bl I q (by simp))
    | _ => exact absurd (show false = true from hs) Bool.false_ne_true
  | int i =>
    obtain ⟨t, rfl⟩ := rx
    cases y with
    | non => cases ry; exact PySem.EqNone.ne_int_none (fin_bl I q (by simp))
    | int j => obtain ⟨t', rfl⟩ := ry; exact ne_int (fin_bl I q (congrArg not dec_int))
    | str j => obtain ⟨t', rfl⟩ := ry; exact PySem.EqMixed.ne_int_str (fin_bl I q (by simp))
    | _ => exact absurd (show false = true from hs) Bool.false_ne_true
  | str i =>
    obtain ⟨t, rfl⟩ := rx
    cases y with
    | non => cases ry; exact PySem.EqNone.ne_str_none (fin_bl I q (by simp))
    | bl j => cases ry; exact PySem.EqMixed.ne_str_bool (fin_bl I q (by simp))
    | int j => obtain ⟨t', rfl⟩ := ry; exact PySem.EqMixed.ne_str_int (fin_bl I q (by simp))
    | str j => obtain ⟨t', rfl⟩ := ry; exact ne_str (fin_bl I q (congrArg not dec_str))
    | _ => exact absurd (show false = true from hs) Bool.false_ne_true
  | byt i =>
    obtain ⟨t, rfl⟩ := rx
    cases y with
    | byt j => obtain ⟨t', rfl⟩ := ry; exact PySem.W.ne_bytes (fin_bl I q (congrArg not dec_byt))
    | _ => exact absurd (show false = true from hs) Bool.false_ne_true
  | _ => cases y <;> exact absurd (show false = true from hs) Bool.false_ne_true

theorem op_lt : OpR X (compareOp .Lt) (rI0 fun i j => .bl (decide (i < j))) := opB0 fun _ _ _ _ _ _ _ q => lt_int q
theorem op_le : OpR X (compareOp .LtE) (rI0 fun i j => .bl (decide (i ≤ j))) := opB0 fun _ _ _ _ _ _ _ q => le_int q
theorem op_gt : OpR X (compareOp .Gt) (rI0 fun i j => .bl (decide (j < i))) := opB0 fun _ _ _ _ _ _ _ q => gt_int q
theorem op_ge : OpR X (compareOp .GtE) (rI0 fun i j => .bl (decide (j ≤ i))) := opB0 fun _ _ _ _ _ _ _ q => ge_int q
theorem nomark (b : Expr) {op : CmpOp} (h : op ≠ .In := by decide) (h2 : op ≠ .NotIn := by decide) : behindInMarks op b = false := by
  have e1 : (op == CmpOp.In) = false := by cases op <;> first | rfl | exact absurd rfl h
  have e2 : (op == CmpOp.NotIn) = false := by cases op <;> first | rfl | exact absurd rfl h2
  cases b <;> simp [behindInMarks, e1, e2]
theorem pe_cmpR {op : CmpOp} {r : R2} (ho : OpR X (compareOp op) r) (ha : PE X a ta) (hb : PE X b tb) (hm : behindInMarks op b = false) : PE X (.Compare a [op] [b] pos) (tOp r ta tb) := by
  intro pins s σ H Q I h
  exact wpAny_Compare1 (binT ha hb I h fun v u s2 x y H2 I2 rx ry q => ho pins s2 σ H2 x y v u Q I2 rx ry q) hm
noncomputable def tTest (t : TE) : TT := fun σ H Q => t σ H fun x H' => ∃ k, x = .bl k ∧ Q k H'
theorem pt_cmpR {op : CmpOp} {r : R2} (ho : OpR X (compareOp op) r) (ha : PE X a ta) (hb : PE X b tb) (hm : behindInMarks op b = false) : PT X (.Compare a [op] [b] pos) (tTest (tOp r ta tb)) := by
  intro pins s σ H Q I h
  refine wpAny_isTrue_Compare1 (thn (ha pins s σ H _ I h) fun v s1 ⟨x, H1, I1, r1, q1⟩ => thn (hb pins s1 σ H1 _ I1 q1) fun u s2 ⟨y, H2, I2, r2, q2⟩ =>
    thn (ho pins s2 σ H2 x y v u _ I2 r1 r2 q2) fun c s3 ⟨z, H3, I3, r3, k, e, q3⟩ => ?_) hm
  subst e
  cases r3
  exact wpAny_truthy_bool ⟨H3, I3, q3⟩
noncomputable def tChain (r r' : R2) (ta tb tc : TE) : TE := fun σ H Q => ta σ H fun x H1 => tb σ H1 fun y H2 => r x y H2 fun z H3 => ∃ k, z = .bl k ∧
  (if k = true then tc σ H3 fun w' H4 => r' y w' H4 Q else Q (.bl false) H3)
theorem pe_chain {op op' : CmpOp} {r r' : R2} (ho : OpR X (compareOp op) r) (ho' : OpR X (compareOp op') r') (ha : PE X a ta) (hb : PE X b tb) (hc : PE X c tc)
    (hm : lastMarks [op, op'] [b, c] = false := by with_unfolding_all rfl) : PE X (.Compare a [op, op'] [b, c] pos) (tChain r r' ta tb tc) := by
  intro pins s σ H Q I h
  refine Compare_chain (thn (ha pins s σ H _ I h) fun v s1 ⟨x, H1, I1, r1, q1⟩ => chain_link (thn (hb pins s1 σ H1 _ I1 q1) fun u s2 ⟨y, H2, I2, r2, q2⟩ =>
    thn (ho pins s2 σ H2 x y v u _ I2 r1 r2 q2) fun d s3 ⟨z, H3, I3, r3, k, e, q3⟩ => ?_)) hm
  subst e
  cases r3
  refine wpAny_truthy_bool ?_
  cases k with
  | false => exact ite_ff ⟨.bl false, H3, I3, rfl, q3⟩
  | true => exact ite_tt (chain_last (thn (hc pins s3 σ H3 _ I3 q3) fun w' s4 ⟨z', H4, I4, r4, q4⟩ => ho' pins s4 σ H4 y z' u w' Q I4 r2 r4 q4))
noncomputable def TruV (K : PySem.W.Frag) (x : V) (H : Hp) (k : Bool) : Prop :=
  match x with
  | .non => k = false
  | .bl b => k = b
  | .int i => k = (i != 0)
  | .str y => y.length ≤ sizeLine ∧ k = ((y.length : Int) != 0)
  | .byt y => y.size ≤ sizeLine ∧ k = ((y.size : Int) != 0)
  | .ref p => (∃ xs, SqL K H p xs ∧ k = !xs.isEmpty) ∨ (∃ xs, SqT K H p xs ∧ k = !xs.isEmpty) ∨ ∃ kvs, H p = some (.dK kvs) ∧ k = !kvs.isEmpty
  | _ => False
theorem isEmpty_kv {κ : Type} {kvs : List (κ × V)} {vs : List (κ × Value)} (r : KV kvs vs) : (!vs.isEmpty) = !kvs.isEmpty := by
  cases r <;> rfl
theorem isEmpty_of {xs : List V} {its : List Value} (r : Vals xs its) : (!its.toArray.isEmpty) = !xs.isEmpty := by
  cases r <;> simp
theorem line63 : (sizeLine : Nat) < 2 ^ 63 := by rw [sizeLine_eq]; decide
theorem tru_ok : TruR X (fun x H Q => ∃ k, TruV X.K x H k ∧ Q k H) := by
  intro pins s σ H x v Q I rx h
  obtain ⟨k, e, q⟩ := h
  have hl := line63
  have hs : sizeLine = 16777216 := sizeLine_eq
  cases x with
  | non =>
    cases rx
    have e' : k = false := e
    subst e'
    exact truthy_none ⟨H, I, q⟩
  | bl b =>
    cases rx
    have e' : k = b := e
    subst e'
    exact wpAny_truthy_bool ⟨H, I, q⟩
  | int i =>
    obtain ⟨t, rfl⟩ := rx
    have e' : k = (i != 0) := e
    subst e'
    exact PySem.P.truthy_int ⟨H, I, q⟩
  | str y =>
    obtain ⟨t, rfl⟩ := rx
    obtain ⟨hy, e'⟩ : y.length ≤ sizeLine ∧ k = ((y.length : Int) != 0) := e
    subst e'
    exact PySem.P.truthy_str (by omega) ⟨H, I.tok _, q⟩
  | byt y =>
    obtain ⟨t, rfl⟩ := rx
    obtain ⟨hy, e'⟩ : y.size ≤ sizeLine ∧ k = ((y.size : Int) != 0) := e
    subst e'
    exact PySem.W.truthy_bytes (by omega) ⟨H, I.tok _, q⟩
  | ref p =>
    cases rx
    have e' : (∃ xs, SqL X.K H p xs ∧ k = !xs.isEmpty) ∨ (∃ xs, SqT X.K H p xs ∧ k = !xs.isEmpty) ∨ ∃ kvs, H p = some (.dK kvs) ∧ k = !kvs.isEmpty := e
    rcases e' with ⟨xs, hx, e'⟩ | ⟨xs, hx, e'⟩ | ⟨kvs, hx, e'⟩
    · subst e'
      obtain ⟨its, r, pl, hz⟩ := I.list hx
      have hlen := r.length
      exact wpAny_truthy_list pl.isList (by simp only [List.size_toArray]; omega) ⟨H, I.tok _, by rw [isEmpty_of r]; exact q⟩
    · subst e'
      obtain ⟨its, r, pl, hz⟩ := I.tuple hx
      have hlen := r.length
      exact truthy_tuple pl (by simp only [List.size_toArray]; omega) ⟨H, I.tok _, by rw [isEmpty_of r]; exact q⟩
    · subst e'
      obtain ⟨hz, hS, vs, r, m⟩ : kvs.length ≤ sizeLine ∧ (p == sysModules) = false ∧ ∃ vs, KV kvs vs ∧ s.heap.DictOf (mixKind X.prog X.w) p vs := I.hok p _ hx
      have hlen : kvs.length = vs.length := Paired.length r
      exact wpAny_truthy_dict hS m (by omega) ⟨H, I.tok _, by rw [isEmpty_kv r]; exact q⟩
  | _ => exact (show False from e).elim
theorem pt_truth (ha : PE X a ta) (he : ∀ whole, isTrue a X.env whole = (do let v ← whole; standAt a.pos; holding [v] (truthy v))) :
    PT X a (fun σ H Q => ta σ H fun x H' => ∃ k, TruV X.K x H' k ∧ Q k H') := by
  intro pins s σ H Q I h
  exact isTrue_plain (thn (ha pins s σ H _ I h) fun v s1 ⟨x, H1, I1, r1, q1⟩ => tru_ok pins s1 σ H1 x v Q I1 r1 q1) (he _)

theorem vals1 {x : V} {us : List Value} (r : Vals [x] us) : ∃ u, us = [u] ∧ RelV x u := by
  cases r with
  | cons r1 r2 => cases r2; exact ⟨_, rfl, r1⟩
theorem vals2 {x y : V} {us : List Value} (r : Vals [x, y] us) : ∃ u w', us = [u, w'] ∧ RelV x u ∧ RelV y w' := by
  cases r with
  | cons r1 r2 =>
    cases r2 with
    | cons r3 r4 => cases r4; exact ⟨_, _, rfl, r1, r3⟩
theorem call_abs : CallR X (.builtin "abs") (fun xs H Q => ∃ i, xs = [.int i] ∧ Q (.int (if i < 0 then -i else i)) H) := by
  intro pins s σ H xs us Q I r h
  obtain ⟨i, rfl, q⟩ := h
  obtain ⟨u, rfl, t, rfl⟩ := vals1 r
  exact call_abs_int fun u tk => ⟨.int (if i < 0 then -i else i), H, I.tok _, ⟨_, rfl⟩, q⟩
theorem call_max2 (hc : X.calm = true) : CallR X (.builtin "max") (fun xs H Q => ∃ i j, xs = [.int i, .int j] ∧ Q (.int (if j > i then j else i)) H) := by
  intro pins s σ H xs us Q I r h
  obtain ⟨i, j, rfl, q⟩ := h
  obtain ⟨u, w', rfl, ⟨t, rfl⟩, ⟨t', rfl⟩⟩ := vals2 r
  refine max_two_ints (I.ok.hd hc) fun h' tk k => ⟨_, H, I.kept k, ?_, q⟩
  by_cases hj : j > i
  · rw [if_pos hj, if_pos hj]; exact ⟨_, rfl⟩
  · rw [if_neg hj, if_neg hj]; exact ⟨_, rfl⟩
theorem call_min2 (hc : X.calm = true) : CallR X (.builtin "min") (fun xs H Q => ∃ i j, xs = [.int i, .int j] ∧ Q (.int (if j < i then j else i)) H) := by
  intro pins s σ H xs us Q I r h
  obtain ⟨i, j, rfl, q⟩ := h
  obtain ⟨u, w', rfl, ⟨t, rfl⟩, ⟨t', rfl⟩⟩ := vals2 r
  refine min_two_ints (I.ok.hd hc) fun h' tk k => ⟨_, H, I.kept k, ?_, q⟩
  by_cases hj : j < i
  · rw [if_pos hj, if_pos hj]; exact ⟨_, rfl⟩
  · rw [if_neg hj, if_neg hj]; exact ⟨_, rfl⟩
theorem call_int1 : CallR X (.type "int") (fun xs H Q => (∃ i, xs = [.int i] ∧ Q (.int i) H) ∨ ∃ k, xs = [.bl k] ∧ Q (.int (if k then 1 else 0)) H) := by
  intro pins s σ H xs us Q I r h
  rcases h with ⟨i, rfl, q⟩ | ⟨k, rfl, q⟩
  · obtain ⟨u, rfl, t, rfl⟩ := vals1 r
    exact call_int_int ⟨.int i, H, I, ⟨_, rfl⟩, q⟩
  · obtain ⟨u, rfl, r1⟩ := vals1 r
    cases r1
    exact call_int_bool ⟨.int (if k then 1 else 0), H, I.tok _, ⟨_, rfl⟩, q⟩
end
end L2

namespace L2
open PySem PySem.Spec PyProof.Rows

structure ObjM (h : Heap) (x dx C : Addr) (mA : Str → Option Value) : Prop where
  obj : h.get? x = some (PySem.W.instObj C dx)
  ns : h.Ns1 dx mA
  ne : dx ≠ x

theorem lookIn_ns {h : Heap} {dx : Addr} {mA : Str → Option Value} (n : h.Ns1 dx mA) : ∃ od, h.get? dx = some od ∧ ∀ name, PySem.W.lookIn name od = some (mA name) := by
  obtain ⟨o, es, ep, ho, hd, hk, _, hm⟩ := n
  refine ⟨o, ho, fun name => ?_⟩
  have e := hm name
  unfold nsFind findBy at e
  rw [← Array.find?_toList] at e
  unfold PySem.W.lookIn
  rw [hd]
  dsimp only
  split
  · rename_i y q
    rw [q] at e
    exact congrArg some e
  · rename_i q
    rw [q] at e
    have a : es.toList.any (·.refKey) = false := by
      rw [List.any_eq_false]
      intro y hy
      obtain ⟨z, t, hkey⟩ := hk y (Array.mem_toList_iff.mp hy)
      simp [DictEntry.refKey, hkey]
    have a' : ¬ es.toList.any (·.refKey) = true := by rw [a]; exact Bool.false_ne_true
    rw [if_neg a']
    exact congrArg some e

theorem ObjM.look {h : Heap} {x dx C : Addr} {mA : Str → Option Value} (I : ObjM h x dx C mA) : ∃ od, PySem.W.InstAt h x (PySem.W.instObj C dx) C (some od) ∧ ∀ name, PySem.W.lookIn name od = some (mA name) :=
  let ⟨od, ho, hl⟩ := lookIn_ns I.ns
  ⟨od, ⟨I.obj, rfl, rfl, ho⟩, hl⟩

section
variable {prog : Program} {w : World} {A : Around} {E : Value → Shared → Prop} {s : Shared} {K : PySem.W.Frag} {x dx C f : Addr} {mA : Str → Option Value} {name : Str} {v : Value}

end

section
variable {P : Program} {w : World} {H H' : Hp} {h h' : Heap} {a C dx : Addr} {fs fs' : List (Str × V)}
theorem ins_get (hok : HOk P w H h) (e : H a = some (.ins C dx fs)) : ∃ mA, ObjM h a dx C mA ∧ (∀ f, RelO (fs.lookup f) (mA f)) ∧ PySem.Within mA (fs.map (·.1)) ∧ fs.length ≤ 1000 ∧ H dx = some (.own a) := by
  obtain ⟨d, z, ne, ob, mA, n, r, q⟩ := (show ObjOk P w H h a (.ins C dx fs) from hok a _ e)
  exact ⟨mA, ⟨ob, n, ne⟩, r, q, z, d⟩
end

structure Cls (K : PySem.W.Frag) (C : Addr) : Prop where
  pg : PySem.W.plainGet K C Str.empty = true
  hd : PySem.W.hasDictIn K C = true
  po : PySem.W.plainOver K C = true
  sa : PySem.W.findIn K (.ref C) "__setattr__" = some (some (.builtin "object.__setattr__"))
theorem Cls.get {K : PySem.W.Frag} {C : Addr} (c : Cls K C) (f : Str) : PySem.W.plainGet K C f = true := c.pg
structure Con (K : PySem.W.Frag) (C : Addr) (f : Str) (v : V) (u : Value) : Prop where
  at_ : PySem.W.findIn K (.ref C) f = some (some u)
  rel : RelV v u
  get : PySem.W.specialIn K u "__get__" = some none
  cp : PySem.W.copiedNames.contains f = false
structure Meth (K : PySem.W.Frag) (C : Addr) (m : Str) (f : Addr) : Prop where
  at_ : PySem.W.findIn K (.ref C) m = some (some (.ref f))
  fn : PySem.W.isFn K (.ref f) = true
  kp : PySem.W.keepIn K (.ref f) = true

section
variable {X : Cx} {pins : List (Addr × Obj)} {σ : St} {H : Hp} {s : Shared} {a C dx : Addr} {fs : List (Str × V)} {f : Str} {v : V} {A : Around} {E : Value → Shared → Prop}

end

section
variable {X : Cx} {o e value : Expr} {f : Str} {pos pos' tpos : Pos} {ta tv : TE}
end

section
variable {X : Cx} {pins : List (Addr × Obj)} {σ : St} {H : Hp} {s : Shared} {A : Around} {E : Value → Shared → Prop} {Q : Value → Shared → Prop} {c : Value} {b : Bool}
inductive TyOf (K : PySem.W.Frag) (H : Hp) : V → Value → Prop where
  | non : TyOf K H .non (.type "NoneType")
  | bl (x : Bool) : TyOf K H (.bl x) (.type "bool")
  | int (i : Int) : TyOf K H (.int i) (.type "int")
  | str (x : Str) : TyOf K H (.str x) (.type "str")
  | flt (x : UInt64) : TyOf K H (.flt x) (.type "float")
  | lst {a : Addr} {xs : List V} (e : H a = some (.lst xs)) : TyOf K H (.ref a) (.type "list")
  | frz {a : Addr} {o : Obj} {xs : List V} (e : H a = some (.frz o (.lst xs))) : TyOf K H (.ref a) (.type "list")
  | tup {a : Addr} {xs : List V} (e : H a = some (.tup xs)) : TyOf K H (.ref a) (.type "tuple")
  | dK {a : Addr} {kvs : List (Key × V)} (e : H a = some (.dK kvs)) : TyOf K H (.ref a) (.type "dict")
  | dT {a : Addr} {kvs : List (List Key × V)} (e : H a = some (.dT kvs)) : TyOf K H (.ref a) (.type "dict")
  | ins {a C dx : Addr} {fs : List (Str × V)} (e : H a = some (.ins C dx fs)) (cl : Cls K C) (ha : PySem.W.findIn K (.ref C) "__class__" = some (some (.builtin "object.__class__")))
      (hn : PySem.W.specialIn K (.builtin "object.__class__") "__get__" = some (some (.builtin "getset_descriptor.__get__"))) (htk : PySem.W.takesIn K (.builtin "object.__class__") = some true)
      (hm : PySem.W.mroIn K C (.type "object") = some true) : TyOf K H (.ref a) (.ref C)
theorem isinst_ok {x : V} {u t : Value} (I : Inv X pins σ H s) (rx : RelV x u) (ty : TyOf X.K H x t) (e : PySem.W.kitOne X.K t c = some b) (h : ∀ tk, Q (.bool b) { s with toks := tk }) :
    wpAny (model X.prog X.w) A (call (.builtin "isinstance") [u, c]) Q E s := by
  cases ty with
  | non => cases (show u = Value.none from rx); exact PySem.W.kia_one PySem.W.kitx_none I.kIn True.intro e (fun z => nomatch z) h
  | bl y => cases (show u = Value.bool y from rx); exact PySem.W.kia_one PySem.W.kitx_bool I.kIn True.intro e (fun z => nomatch z) h
  | int i => obtain ⟨t, q⟩ := (show ∃ t, u = Value.int i t from rx); cases q; exact PySem.W.kia_one PySem.W.kitx_int I.kIn True.intro e (fun z => nomatch z) h
  | str y => obtain ⟨t, q⟩ := (show ∃ t, u = Value.str y t from rx); cases q; exact PySem.W.kia_one PySem.W.kitx_str I.kIn True.intro e (fun z => nomatch z) h
  | flt y => obtain ⟨t, q⟩ := (show ∃ t, u = Value.float y t from rx); cases q; exact PySem.W.kia_one PySem.W.kitx_float I.kIn True.intro e (fun z => nomatch z) h
  | @lst a xs ea =>
    cases (show u = Value.ref a from rx)
    obtain ⟨_, _, n, _, h1⟩ := (show ObjOk X.prog X.w H s.heap a (.lst xs) from I.hok a _ ea)
    exact PySem.W.kia_one PySem.W.kitx_list I.kIn ⟨_, h1, rfl⟩ e (fun z => nomatch z) h
  | @frz a ob xs ea =>
    cases (show u = Value.ref a from rx)
    obtain ⟨_, _, _, n, _, h1⟩ := (show ObjOk X.prog X.w H s.heap a (.frz ob (.lst xs)) from I.hok a _ ea)
    exact PySem.W.kia_one PySem.W.kitx_list I.kIn ⟨_, h1, rfl⟩ e (fun z => nomatch z) h
  | @tup a xs ea =>
    cases (show u = Value.ref a from rx)
    obtain ⟨_, _, _, p⟩ := (show ObjOk X.prog X.w H s.heap a (.tup xs) from I.hok a _ ea)
    obtain ⟨o, h1, h2, _⟩ := p
    exact PySem.W.kia_one PySem.W.kitx_tuple I.kIn ⟨o, h1, h2⟩ e (fun z => nomatch z) h
  | @dK a kvs ea =>
    cases (show u = Value.ref a from rx)
    obtain ⟨_, _, vs, _, p⟩ := (show ObjOk X.prog X.w H s.heap a (.dK kvs) from I.hok a _ ea)
    obtain ⟨o, es, ep, h1, h2, _⟩ := p
    exact PySem.W.kia_one PySem.W.kitx_dict I.kIn ⟨o, h1, h2.1⟩ e (fun z => nomatch z) h
  | @dT a kvs ea =>
    cases (show u = Value.ref a from rx)
    obtain ⟨_, _, xs, _, o, es, ep, h1, h2, _⟩ := (show ObjOk X.prog X.w H s.heap a (.dT kvs) from I.hok a _ ea)
    exact PySem.W.kia_one PySem.W.kitx_dict I.kIn ⟨o, h1, h2.1⟩ e (fun z => nomatch z) h
  | @ins a C dx fs ea cl ha hn htk hm =>
    cases (show u = Value.ref a from rx)
    obtain ⟨mA, O, _⟩ := ins_get I.hok ea
    obtain ⟨od, J, _⟩ := O.look
    exact PySem.W.kia_one (PySem.W.kitx_own (cl.get _) cl.hd ha hn htk hm) I.kIn J e (fun z => nomatch z) h
end
end L2

namespace L2
open PySem PySem.Spec PyProof.Rows

structure Room (k : Nat) (A : Around) : Prop where
  hd : A.handled = none
  dp : A.depth + 3 * k + 5 < recursionLimit
  un : A.units + 16 * k + 200 < cLine
theorem Room.mono {j k : Nat} {A : Around} (r : Room k A) (h : j ≤ k) : Room j A := ⟨r.hd, by have := r.dp; omega, by have := r.un; omega⟩
theorem Room.deeper {k : Nat} {A : Around} (r : Room (k + 1) A) (env : Env) : Room k (A.deeper env) :=
  ⟨r.hd, by have := r.dp; show A.depth + 1 + 3 * k + 5 < _; omega, by have := r.un; show A.units + 3 + 16 * k + 200 < _; omega⟩
theorem Room.depth {k : Nat} {A : Around} (r : Room k A) : A.depth < recursionLimit := by have := r.dp; omega
theorem Room.units {k : Nat} {A : Around} (r : Room k A) : A.units + 64 < cLine := by have := r.un; omega
noncomputable def tNil : TA := fun _ H Q => Q [] H
noncomputable def tCons (ta : TE) (tr : TA) : TA := fun σ H Q => ta σ H fun x H1 => tr σ H1 fun xs H2 => Q (x :: xs) H2
section
variable {X : Cx} {e : Expr} {es : List Expr} {te : TE} {t : TA} {pos : Pos}
theorem pa_nil : PA X [] tNil := fun _ _ _ _ H Q I h => Calls.spliced_nil ⟨[], H, I, .nil, h⟩
theorem pa_cons (ha : PE X e te) (hr : PA X es t) (hs : starEach (e :: es) X.env = (false, eval e X.env) :: starEach es X.env := by rfl) : PA X (e :: es) (tCons te t) := by
  intro pos pins s σ H Q I h
  rw [hs]
  show wpAny _ _ (spliced ((false, eval e X.env) :: backTo pos (starEach es X.env))) _ _ s
  refine Calls.spliced_cons (thn (ha pins s σ H _ I h) fun u s1 ⟨x, H1, I1, r1, q1⟩ => ?_)
  exact thn (hr pos pins s1 σ H1 _ I1 q1) fun us s2 ⟨xs, H2, I2, r2, q2⟩ => ⟨x :: xs, H2, I2, .cons r1 r2, q2⟩

noncomputable def tTup (t : TA) : TE := fun σ H Q => t σ H fun xs H1 => xs.length ≤ sizeLine ∧ ∀ p, H1 p = none → Q (.ref p) (upd H1 p (.tup xs))
noncomputable def tLst (t : TA) : TE := fun σ H Q => t σ H fun xs H1 => xs.length ≤ sizeLine ∧ ∀ p, H1 p = none → Q (.ref p) (upd H1 p (.lst xs))
theorem pe_tup {x1} (h : PA X es t) : PE X (.Tuple es x1 pos) (tTup t) := by
  intro pins s σ H Q I hq
  refine wpAny_Tuple_spliced (thn (h pos pins s σ H _ I hq) fun us s1 ⟨xs, H1, I1, r, z, q⟩ => ⟨by rw [← r.length]; exact z, ?_⟩)
  have hf : H1 s1.heap.objs.size = none := I1.hok.fresh (Nat.le_refl _)
  refine ⟨.ref s1.heap.objs.size, upd H1 s1.heap.objs.size (.tup xs), I1.laid (t' := s1.toks) (fun b u e => Heap.get?_push_of_some _ e) (Nat.le_refl _) ?_, rfl, q _ hf⟩
  exact ⟨z, us, r, ⟨_, Heap.get?_push_size _ rfl, rfl, _, rfl⟩⟩
theorem pe_lst (h : PA X es t) : PE X (.List es pos) (tLst t) := by
  intro pins s σ H Q I hq
  refine wpAny_List_spliced (thn (h pos pins s σ H _ I hq) fun us s1 ⟨xs, H1, I1, r, z, q⟩ => ⟨by rw [← r.length]; exact z, ?_⟩)
  have hf : H1 s1.heap.objs.size = none := I1.hok.fresh (Nat.le_refl _)
  refine ⟨.ref s1.heap.objs.size, upd H1 s1.heap.objs.size (.lst xs), I1.laid (t' := s1.toks) (fun b u e => Heap.get?_push_of_some _ e) (Nat.le_refl _) ?_, rfl, q _ hf⟩
  exact ⟨z, us, 0, r, Heap.get?_push_size _ rfl⟩
end

noncomputable abbrev Sp := List V → Hp → VK → XK → Prop
noncomputable abbrev CXT := List Env → Hp → Shared → XK → Value → Shared → Prop

structure Env0 (P : Program) (w : World) (K : PySem.W.Frag) (mg : Str → Option Value) (base : Heap) (A : Around) (outer : List Env) (s : Shared) (H : Hp) : Prop where
  frames : A.frames = some outer
  mod : Mod K mg base
  bs : ∀ b o, base.get? b = some o → s.heap.get? b = some o ∧ H b = none
  bsz : base.objs.size ≤ s.heap.objs.size
  funs : s.heap.FunFrames base outer
  frf : ∀ b ∈ frs outer, H b = none
  hok : HOk P w H s.heap
  bare : AllBare s.gens
noncomputable def CE (outer : List Env) (P : Program) (w : World) (H : Hp) (s : Shared) (Q : VK) (u : Value) (s' : Shared) : Prop :=
  ∃ v H', s'.os = s.os ∧ AllBare s'.gens ∧ Un (frs outer) [] H H' s.heap s'.heap ∧ HOk P w H' s'.heap ∧ RelV v u ∧ Q v H'
noncomputable def CR (CX : CXT) (outer : List Env) (P : Program) (w : World) (H : Hp) (s : Shared) (Q : VK) (E : XK) (r : Result) (s' : Shared) : Prop :=
  match r with
  | .ok (.ret u) => CE outer P w H s Q u s'
  | .ok _ => False
  | .error e => CX outer H s E e s'
structure FnOk (P : Program) (w : World) (K : PySem.W.Frag) (mg : Str → Option Value) (base : Heap) (CX : CXT) (k : Nat) (f : Addr) (fd : FuncData) (ps : List Str) (sp : Sp) : Prop where
  len : ∀ vs H Q E, sp vs H Q E → vs.length = ps.length
  run : ∀ (A : Around) (outer : List Env) (s : Shared) (H : Hp) (args : Args) (us : List Value) (vs : List V) (Q : VK) (E : XK), Room k A → Env0 P w K mg base A outer s H → BindsTo s fd args (ps.zip us) → Vals vs us → sp vs H Q E →
    codeAny (model P w) A (.call (.ref f) args) (CR CX outer P w H s Q E) s
theorem FnOk.mono {P : Program} {w : World} {K : PySem.W.Frag} {mg : Str → Option Value} {base : Heap} {CX : CXT} {j k : Nat} {f : Addr} {fd : FuncData} {ps : List Str} {sp : Sp} (F : FnOk P w K mg base CX j f fd ps sp) (h : j ≤ k) :
    FnOk P w K mg base CX k f fd ps sp := ⟨F.len, fun A outer s H args us vs Q E hr => F.run A outer s H args us vs Q E (hr.mono h)⟩
theorem FnOk.imp {P : Program} {w : World} {K : PySem.W.Frag} {mg : Str → Option Value} {base : Heap} {CX : CXT} {k : Nat} {f : Addr} {fd : FuncData} {ps : List Str} {sp sp' : Sp} (F : FnOk P w K mg base CX k f fd ps sp)
    (h : ∀ vs H Q E, sp' vs H Q E → sp vs H Q E) : FnOk P w K mg base CX k f fd ps sp' :=
  ⟨fun vs H Q E q => F.len vs H Q E (h _ _ _ _ q), fun A outer s H args us vs Q E hr he hb hv hs => F.run A outer s H args us vs Q E hr he hb hv (h _ _ _ _ hs)⟩

section
variable {X : Cx} {pins : List (Addr × Obj)} {σ : St} {H : Hp} {s s' : Shared}
theorem Inv.env0 (I : Inv X pins σ H s) : Env0 X.prog X.w X.K X.mg X.base X.A X.stack s H :=
  ⟨I.ok.frames, I.ok.mod, I.bs, Nat.le_trans I.ok.bsz I.sz, I.stack, I.stkFree, I.hok, I.bare⟩
theorem Inv.after {Q : VK} {u : Value} (I : Inv X pins σ H s) (h : CE X.stack X.prog X.w H s Q u s') : EP X pins σ Q u s' := by
  obtain ⟨v, H', os, bare, un, hok, r, q⟩ := h
  obtain ⟨hh, g, d, t, os'⟩ := s'
  obtain rfl : os' = s.os := os
  exact ⟨v, H', I.call (h' := hh) (g' := g) (d' := d) (t' := t) (ch := []) un hok bare (fun b z => absurd z (by simp)), r, q⟩
end

noncomputable def tCall (sp : Sp) (dvs : List V) (E : XK) (t : TA) : TE := fun σ H Q => t σ H fun vs H1 => sp (vs ++ dvs) H1 Q E
noncomputable def Binds (K : PySem.W.Frag) (fd : FuncData) (ps : List Str) (ds : List Value) : Prop :=
  ∀ (s : Shared) (us : List Value), K.In s.heap → (us ++ ds).length = ps.length → BindsTo s fd ⟨us, []⟩ (ps.zip (us ++ ds))
theorem Binds.all {K : PySem.W.Frag} {fd : FuncData} {ps : List Str} (h : ∀ us : List Value, us.length = ps.length → bindArgs fd ⟨us, []⟩ = pure (ps.zip us)) : Binds K fd ps [] := fun s us _ hl => by
  rw [List.append_nil] at hl ⊢
  exact .of_eq (h us hl)

noncomputable def Passes (CX : CXT) (X : Cx) (E : XK) : Prop := ∀ (pins : List (Addr × Obj)) (σ : St) (H : Hp) (s : Shared) (e : Value) (s' : Shared), Inv X pins σ H s → CX X.stack H s E e s' → X.xe e s'

section
variable {X : Cx} {CX : CXT} {k : Nat} {f C : Addr} {fd : FuncData} {ps : List Str} {sp : Sp} {dvs : List V} {ds : List Value} {E : XK} {x m : Str} {p pos apos : Pos} {e o : Expr} {es : List Expr} {ta : TE} {t : TA}

theorem run_fn {pins : List (Addr × Obj)} {σ : St} {H : Hp} {s : Shared} {Q : VK} {us : List Value} {vs : List V} (F : FnOk X.prog X.w X.K X.mg X.base CX k f fd ps sp) (hr : Room k X.A) (hb : Binds X.K fd ps ds) (hd : Vals dvs ds) (hx : Passes CX X E)
    (I : Inv X pins σ H s) (r : Vals vs us) (h : sp (vs ++ dvs) H Q E) : wpAny (model X.prog X.w) X.A (call (.ref f) us) (EP X pins σ Q) X.xe s := by
  have r2 : Vals (vs ++ dvs) (us ++ ds) := r.append hd
  have hl : (us ++ ds).length = ps.length := by rw [← r2.length]; exact F.len _ _ _ _ h
  refine wpAny_call (codeAny_mono (F.run X.A X.stack s H ⟨us, []⟩ (us ++ ds) (vs ++ dvs) Q E hr I.env0 (hb s us I.kIn hl) r2 h) fun r s' hq => ?_)
  cases r with
  | error e => exact hx pins σ H s e s' I hq
  | ok fl =>
    cases fl with
    | ret u => exact I.after hq
    | next => exact False.elim hq
    | brk => exact False.elim hq
    | cont => exact False.elim hq

theorem pe_call (F : FnOk X.prog X.w X.K X.mg X.base CX k f fd ps sp) (hr : Room k X.A) (hg : Gl X x) (hm : X.mg x = some (.ref f)) (hk : PySem.W.keepIn X.K (.ref f) = true) (hb : Binds X.K fd ps ds) (hd : Vals dvs ds) (hx : Passes CX X E)
    (ha : PA X (e :: es) t) (hdb : (x == ("__debug__" : Str)) = false := by decide) (he : starEach (e :: es) X.env = (false, eval e X.env) :: starEach es X.env := by rfl) (hpl : (backTo pos (starEach es X.env)).any (·.1) = false := by rfl) :
    PE X (.Call (.Name x p) (e :: es) [] pos) (tCall sp dvs E t) := by
  intro pins s σ H Q I h
  refine wpAny_Call_Name_kw (ld_glob I hg hm ?_ hdb)
  refine PySem.W.callWith_K (h₀ := X.base) I.ok.mod.kin hk (thn (ha pos pins s σ H _ I h) fun us s1 ⟨vs, H1, I1, r, q⟩ => ⟨I1.kIn, ?_⟩) he hpl
  exact run_fn F hr hb hd hx I1 r q
structure Mk (K : PySem.W.Frag) (C f : Addr) : Prop where
  makes : PySem.W.makesIn K C = true
  init : PySem.W.findIn K (.ref C) "__init__" = some (some (.ref f))
  fn : PySem.W.isFn K (.ref f) = true
  kp : PySem.W.keepIn K (.ref C) = true

end

section
variable {X : Cx} {CX : CXT} {k : Nat} {f C : Addr} {fd : FuncData} {ps ks : List Str} {sp : Sp} {E : XK} {x m : Str} {p pos apos kpos : Pos} {e o : Expr} {es : List Expr} {kws : List Keyword} {te ta : TE} {t tk : TA} {nm : Option Str}
structure KBinds (K : PySem.W.Frag) (fd : FuncData) (ps ks : List Str) (g : List Value → List Value → List Value) (gV : List V → List V → List V) : Prop where
  to : ∀ (s : Shared) (us ws : List Value), K.In s.heap → (g us ws).length = ps.length → BindsTo s fd ⟨us, ks.zip ws⟩ (ps.zip (g us ws))
  rel : ∀ {vs : List V} {us : List Value} {zs : List V} {ws : List Value}, Vals vs us → Vals zs ws → Vals (gV vs zs) (g us ws)
variable {g : List Value → List Value → List Value} {gV : List V → List V → List V}
end

structure FnScope (N P : List Str) (sc : Scope) : Prop where
  kind : sc.kind = .function
  co : sc.isCoroutine = false
  gen : sc.isGenerator = false
  nd : N.Nodup
  pre : N.take P.length = P
  par : ∀ x ∈ P, sc.names.lookup x = some .local ∨ sc.names.lookup x = some .cell
  nofree : ∀ y ∈ sc.names, y.2 ≠ .free

theorem bindL_out {kindOf : Str → Option NameKind} {x : Str} : ∀ {binds : List (Str × Value)} {m : Str → Option Value}, (∀ v, (x, v) ∉ binds) → bindL kindOf binds m x = m x
  | [], _, _ => rfl
  | (n, v) :: r, m, h => by
    unfold bindL
    rw [bindL_out fun w hw => h w (List.mem_cons_of_mem _ hw)]
    split
    · have : x ≠ n := by rintro rfl; exact h v List.mem_cons_self
      simp [this]
    · rfl
theorem bindC_out {kindOf : Str → Option NameKind} {x : Str} : ∀ {binds : List (Str × Value)} {m : Str → Option Value}, (∀ v, (x, v) ∉ binds) → bindC kindOf binds m x = m x
  | [], _, _ => rfl
  | (n, v) :: r, m, h => by
    unfold bindC
    rw [bindC_out fun w hw => h w (List.mem_cons_of_mem _ hw)]
    split
    · rfl
    · have : x ≠ n := by rintro rfl; exact h v List.mem_cons_self
      simp [this]
theorem bindL_get {kindOf : Str → Option NameKind} {x : Str} {v : Value} : ∀ {P : List Str} {vs : List Value} {i : Nat} {m : Str → Option Value}, P.Nodup → P[i]? = some x → vs[i]? = some v → kindOf x = some .local →
    bindL kindOf (P.zip vs) m x = some v
  | [], _, _, _, _, h, _, _ => by simp at h
  | _ :: _, [], _, _, _, _, h, _ => by simp at h
  | p :: P, w :: vs, 0, m, nd, h1, h2, hk => by
    simp at h1 h2; subst h1; subst h2
    show bindL kindOf ((p, w) :: P.zip vs) m p = _
    unfold bindL
    rw [bindL_out fun v hv => (List.nodup_cons.mp nd).1 (List.of_mem_zip hv).1, if_pos hk]
    simp
  | p :: P, w :: vs, i + 1, m, nd, h1, h2, hk => by
    show bindL kindOf ((p, w) :: P.zip vs) m x = _
    unfold bindL
    exact bindL_get (i := i) (List.nodup_cons.mp nd).2 (by simpa using h1) (by simpa using h2) hk
theorem bindC_get {kindOf : Str → Option NameKind} {x : Str} {v : Value} : ∀ {P : List Str} {vs : List Value} {i : Nat} {m : Str → Option Value}, P.Nodup → P[i]? = some x → vs[i]? = some v → kindOf x ≠ some .local →
    bindC kindOf (P.zip vs) m x = some v
  | [], _, _, _, _, h, _, _ => by simp at h
  | _ :: _, [], _, _, _, _, h, _ => by simp at h
  | p :: P, w :: vs, 0, m, nd, h1, h2, hk => by
    simp at h1 h2; subst h1; subst h2
    show bindC kindOf ((p, w) :: P.zip vs) m p = _
    unfold bindC
    rw [bindC_out fun v hv => (List.nodup_cons.mp nd).1 (List.of_mem_zip hv).1, if_neg hk]
    simp
  | p :: P, w :: vs, i + 1, m, nd, h1, h2, hk => by
    show bindC kindOf ((p, w) :: P.zip vs) m x = _
    unfold bindC
    exact bindC_get (i := i) (List.nodup_cons.mp nd).2 (by simpa using h1) (by simpa using h2) hk

noncomputable def start (N : List Str) (vs : List V) : St := vs.map some ++ List.replicate (N.length - vs.length) none

noncomputable def cxOf (CX : CXT) (P : Program) (w : World) (K : PySem.W.Frag) (mg : Str → Option Value) (base : Heap) (N : List Str) (qual : Str) (scope : Scope) (f : Addr) (cd : Value) (A : Around) (outer : List Env) (s : Shared) (H : Hp) (E : XK) : Cx where
  prog := P
  w := w
  K := K
  mg := mg
  base := base
  A := A.deeper (envOfC qual scope s.heap.objs.size f cd)
  N := N
  s₀ := s
  H₀ := H
  env := envOfC qual scope s.heap.objs.size f cd
  outer := outer
  stack := envOfC qual scope s.heap.objs.size f cd :: outer
  ex := []
  calm := true
  fn := fun _ => true
  pn := []
  xe := fun e s' => wpAny (model P w) (A.deeper (envOfC qual scope s.heap.objs.size f cd)) (leaving (envOfC qual scope s.heap.objs.size f cd) e) (fun _ s'' => CX outer H s E e s'') (fun e' s'' => CX outer H s E e' s'') s'

theorem cell_has {sc : Scope} {n : Nat} {x : Str} (h : sc.names.lookup x = some .cell) : ∃ c, (cellsFrom n sc.names []).lookup x = some c := by
  have q := PySem.W.cellsFrom_some sc.names n [] (.inl h)
  exact Option.isSome_iff_exists.mp q

theorem inv_start {CX : CXT} {P : Program} {w : World} {K : PySem.W.Frag} {mg : Str → Option Value} {base : Heap} {N ps : List Str} {qual : Str} {scope : Scope} {f : Addr} {cd : Value} {A : Around} {outer : List Env} {s s1 : Shared} {H : Hp} {E : XK} {us : List Value} {vs : List V}
    (S : FnScope N ps scope) (hd : A.handled = none) (e0 : Env0 P w K mg base A outer s H) (hl : vs.length = ps.length) (r : Vals vs us)
    (x : InCallC s s.heap.objs.size (bindL (envOfC qual scope s.heap.objs.size f cd).kindOf (ps.zip us) fun _ => none) (cellsFrom (s.heap.objs.size + 1) scope.names []) (bindC (envOfC qual scope s.heap.objs.size f cd).kindOf (ps.zip us) fun _ => none) s1) :
    Inv (cxOf CX P w K mg base N qual scope f cd A outer s H E) [] (start N vs) H s1 := by
  have hpl : ps.length ≤ N.length := by have := congrArg List.length S.pre; rw [List.length_take] at this; omega
  obtain ⟨h1, tk, rfl, hk⟩ := x.done
  have noA : ∀ b : Addr, b ∉ (cxOf CX P w K mg base N qual scope f cd A outer s H E).ex := fun b z => absurd (show b ∈ ([] : List Addr) from z) (by simp)
  refine ⟨⟨e0.mod, S.kind, rfl, rfl, Nat.le_refl _, fun y z c h1 h2 => ?_, fun y hy => ?_, fun y c _ h => ?_, fun _ => hd, Around.frames_deeper e0.frames, .inr ⟨rfl, rfl⟩, fun b z => absurd z (noA b), e0.bs, e0.bsz, fun b _ _ => noA b, fun b z => absurd z (noA b), e0.funs, e0.frf⟩,
    rfl, e0.bare, Un.kept hk, ⟨_, x.toInCall.ns, fun i y v h1 h2 h3 => ?_⟩, fun y c h => ⟨_, x.cell y c h⟩, e0.hok.fresh (Nat.le_refl _), fun y c h => ?_, fun p hp => absurd (show p ∈ ([] : List (Addr × Obj)) from hp) (by simp), e0.hok.kept hk, ?_⟩
  · exact name_of_addr x.apart (PySem.mem_of_lookup h1) (PySem.mem_of_lookup h2)
  · have hy : scope.names.lookup y = some .cell ∨ scope.names.lookup y = some .free := hy
    rcases hy with hy | hy
    · exact cell_has hy
    · exact absurd rfl (S.nofree _ (PySem.mem_of_lookup hy))
  · exact Nat.le_of_lt (x.above y c (PySem.mem_of_lookup h))
  · have hi : i < vs.length := by
      unfold start at h2
      by_cases hi : i < vs.length
      · exact hi
      · rw [List.getElem?_append_right (by simpa using hi)] at h2
        rw [List.getElem?_replicate] at h2
        split at h2 <;> cases h2
    have ha : vs[i]? = some v := by
      unfold start at h2
      rw [List.getElem?_append_left (by simpa using hi), List.getElem?_map] at h2
      cases e : vs[i]? with
      | none => rw [e] at h2; cases h2
      | some a => rw [e] at h2; cases h2; rfl
    obtain ⟨u, hu, rv⟩ := r.get ha
    have hp : ps[i]? = some y := by
      rw [← S.pre, List.getElem?_take_of_lt (by omega)]; exact h1
    have ndP : ps.Nodup := by rw [← S.pre]; exact S.nd.sublist (List.take_sublist _ _)
    refine ⟨u, rv, ?_⟩
    rcases S.par y (List.mem_of_getElem? hp) with k | k
    · exact .inl ⟨k, bindL_get ndP hp hu k⟩
    · obtain ⟨c, e⟩ := cell_has (n := s.heap.objs.size + 1) k
      refine .inr ⟨.inl k, c, e, ?_⟩
      have q := x.cell y c e
      rw [bindC_get ndP hp hu (by show scope.names.lookup y ≠ _; rw [k]; decide)] at q
      exact q
  · exact e0.hok.fresh (Nat.le_of_lt (x.above y c (PySem.mem_of_lookup h)))
  · unfold start
    show _ = N.length
    rw [List.length_append, List.length_map, List.length_replicate]
    omega

theorem fn_of {CX : CXT} {P : Program} {w : World} {K : PySem.W.Frag} {mg : Str → Option Value} {base : Heap} {k : Nat} {f : Addr} {name qual : Str} {params : Arguments} {body : List Stmt} {scope : Scope} {dV kV doc pm cdv ct oc : Value} {an od : Option Addr}
    {osl : Array (Option Value)} {N ps : List Str} {sp : Sp} (lk : K.lookup f = some ⟨oc, od, .func (PySem.W.fnOf name qual params body scope dV kV doc pm an cdv ct), osl⟩) (hcd : PySem.W.codeIn K cdv qual = true) (S : FnScope N ps scope)
    (len : ∀ vs H Q E, sp vs H Q E → vs.length = ps.length)
    (hbody : ∀ (A : Around) (outer : List Env) (s : Shared) (H : Hp) (vs : List V) (Q : VK) (E : XK), Room k (A.deeper (envOfC qual scope s.heap.objs.size f cdv)) → sp vs H Q E →
      ∃ t, PSs (cxOf CX P w K mg base N qual scope f cdv A outer s H E) body t ∧ t { nx := fun _ H' => Q .non H', rt := Q } (start N vs) H) :
    FnOk P w K mg base CX (k + 1) f (PySem.W.fnOf name qual params body scope dV kV doc pm an cdv ct) ps sp := by
  refine ⟨len, fun A outer s H args us vs Q E hr e0 hb r hsp => ?_⟩
  have hl := len _ _ _ _ hsp
  have KX : K.In s.heap := e0.mod.kin.keeps fun b o e => (e0.bs b o e).1
  have lim : s.heap.NoLimit := e0.mod.nolimit.keeps fun b o e => (e0.bs b o e).1
  have hkind : ∀ y ∈ ps.zip us, scope.names.lookup y.1 = some .local ∨ (scope.names.lookup y.1 = some .cell ∧ ((cellsFrom (s.heap.objs.size + 1) scope.names []).lookup y.1).isSome = true) := fun ⟨n, v⟩ hy => by
    rcases S.par n (List.of_mem_zip hy).1 with q | q
    · exact .inl q
    · exact .inr ⟨q, PySem.W.cellsFrom_some _ _ _ (.inl q)⟩
  refine codeAny_call_function hr.depth (KX _ _ lk) rfl S.co S.gen rfl (PySem.W.codeRec_of KX hcd) (hb _ _ _ _ ?_)
  refine wpAny_newFunctionEnv_cells S.kind hkind fun env he s1 x => ?_
  subst he
  refine ⟨lim.keeps x.toInCall.keep, codeAny_func ?_⟩
  obtain ⟨t, ht, hq⟩ := hbody A outer s H vs Q E (hr.deeper _) hsp
  have I : Inv (cxOf CX P w K mg base N qual scope f cdv A outer s H E) [] (start N vs) H s1 := inv_start S hr.hd e0 hl r x
  refine wpAny_mono (ht [] s1 (start N vs) H _ I hq) (fun fl s' hs => ?_) fun e s' hs => hs
  have fin : ∀ {σ' : St} {H' : Hp} {v : V} {u : Value}, Inv (cxOf CX P w K mg base N qual scope f cdv A outer s H E) [] σ' H' s' → RelV v u → Q v H' → CE outer P w H s Q u s' :=
    fun {σ' H' v u} J rv q => ⟨v, H', J.os, J.bare, J.base, J.hok, rv, q⟩
  cases fl with
  | ret u =>
    obtain ⟨v, σ', H', J, rv, q⟩ := hs
    exact fin J rv q
  | next =>
    obtain ⟨σ', H', J, q⟩ := hs
    exact fin (v := V.non) (u := Value.none) J rfl q
  | brk =>
    obtain ⟨_, _, _, q⟩ := hs
    exact False.elim q
  | cont =>
    obtain ⟨_, _, _, q⟩ := hs
    exact False.elim q
end L2

namespace L2
open PySem PySem.Spec PyProof.Rows
section
variable {X : Cx} {x : Str} {p pos : Pos} {e : Expr} {es : List Expr} {t : TA} {id T : String} {r : List V → Hp → VK → Prop}

noncomputable def tCB (r : List V → Hp → VK → Prop) (t : TA) : TE := fun σ H Q => t σ H fun vs H1 => r vs H1 Q
theorem pe_callB (hc : CallR X (.builtin id) r) (hg : Gl X x) (hm : X.mg x = none) (hv : bootBuiltins x = some (.builtin id)) (ha : PA X (e :: es) t) (hn : x ≠ "__name__" := by decide) (hdb : (x == ("__debug__" : Str)) = false := by decide)
    (he : starEach (e :: es) X.env = (false, eval e X.env) :: starEach es X.env := by rfl) (hpl : (backTo pos (starEach es X.env)).any (·.1) = false := by rfl) : PE X (.Call (.Name x p) (e :: es) [] pos) (tCB r t) := by
  intro pins s σ H Q I h
  refine wpAny_Call_Name_kw (ld_blt I hg hm hv ?_ hn hdb)
  exact PyProof.Rows.callWith_builtin1 (thn (ha pos pins s σ H _ I h) fun us s1 ⟨vs, H1, I1, r1, q1⟩ => hc pins s1 σ H1 vs us Q I1 r1 q1) he hpl
theorem pe_callTy (hc : CallR X (.type T) r) (hg : Gl X x) (hm : X.mg x = none) (hv : bootBuiltins x = some (.type T)) (ha : PA X (e :: es) t) (hn : x ≠ "__name__" := by decide) (hdb : (x == ("__debug__" : Str)) = false := by decide)
    (he : starEach (e :: es) X.env = (false, eval e X.env) :: starEach es X.env := by rfl) (hpl : (backTo pos (starEach es X.env)).any (·.1) = false := by rfl) : PE X (.Call (.Name x p) (e :: es) [] pos) (tCB r t) := by
  intro pins s σ H Q I h
  refine wpAny_Call_Name_kw (ld_blt I hg hm hv ?_ hn hdb)
  exact PyProof.Rows.callWith_type1 (thn (ha pos pins s σ H _ I h) fun us s1 ⟨vs, H1, I1, r1, q1⟩ => hc pins s1 σ H1 vs us Q I1 r1 q1) he hpl
end
end L2

namespace HT
open PySem PyProof.Rows

section
open PySem.SeqAt
open PySem.AutoSeq1 (wpAny_loadPart')
open PySem.MeetsSeq PySem.MeetsSeq2 PySem.MeetsSeq3

end

section
variable {prog : Program} {w : World} {A : Around} {E : Value → Shared → Prop} {s : Shared}

noncomputable def sIx (n d : Nat) : Option Int → Nat
  | none => d
  | some v => if v < 0 then (v + (n : Int)).toNat else min v.toNat n
theorem sIx_none (n d : Nat) : sIx n d none = d := rfl
theorem sIx_nat (n d k : Nat) : sIx n d (some (k : Int)) = min k n := by
  show (if (k : Int) < 0 then ((k : Int) + (n : Int)).toNat else min (k : Int).toNat n) = min k n
  rw [if_neg (by omega), Int.toNat_natCast]
end
end HT

namespace L2
open PySem PySem.Spec PyProof.Rows

noncomputable abbrev TO := St → Hp → (Option Int → Hp → Prop) → Prop
noncomputable def PO (X : Cx) (e : Option Expr) (t : TO) : Prop :=
  ∀ (pins : List (Addr × Obj)) (s : Shared) (σ : St) (H : Hp) (Q : Option Int → Hp → Prop), Inv X pins σ H s → t σ H Q →
    wpAny (model X.prog X.w) X.A (evalPart e X.env) (fun u s' => ∃ o H', Inv X pins σ H' s' ∧ IsPart u o ∧ Q o H') X.xe s
noncomputable def tNoPart : TO := fun _ H Q => Q none H
noncomputable def tPart (t : TE) : TO := fun σ H Q => t σ H fun x H1 => ∃ i, x = .int i ∧ Q (some i) H1

section
variable {X : Cx} {e : Expr} {te : TE} {lo hi : Option Expr} {tl th : TO} {pos p2 : Pos}

theorem po_none : PO X none tNoPart := by
  intro pins s σ H Q I h
  rw [evalPart_none]
  exact wpAny_pure ⟨none, H, I, .none, h⟩
theorem po_some (h : PE X e te) : PO X (some e) (tPart te) := by
  intro pins s σ H Q I hw
  rw [evalPart_some]
  refine thn (h pins s σ H _ I hw) fun u s1 ⟨x, H1, I1, r1, q1⟩ => ?_
  obtain ⟨i, rfl, q⟩ := q1
  obtain ⟨t, rfl⟩ := r1
  exact ⟨some i, H1, I1, .int i t, q⟩

noncomputable def SlR (X : Cx) (r : V → Option Int → Option Int → Hp → VK → Prop) : Prop :=
  ∀ (pins : List (Addr × Obj)) (s : Shared) (σ : St) (H : Hp) (x : V) (v vl vu : Value) (lo hi : Option Int) (sl : Addr) (Q : VK), Inv X pins σ H s → RelV x v → s.heap.IsSliceOf sl vl vu .none → IsPart vl lo → IsPart vu hi → r x lo hi H Q →
    ∃ T id, typeLookup (.type T) "__getitem__" = pure (some (.builtin id)) ∧ s.TypeIs v T ∧ wpAny (model X.prog X.w) X.A (getItem v (.ref sl)) (EP X pins σ Q) X.xe s
noncomputable def tSl (r : V → Option Int → Option Int → Hp → VK → Prop) (te : TE) (tl th : TO) : TE := fun σ H Q => te σ H fun x H1 => tl σ H1 fun l H2 => th σ H2 fun u H3 => r x l u H3 Q
theorem pe_slice {r : V → Option Int → Option Int → Hp → VK → Prop} (hr : SlR X r) (he : PE X e te) (hl : PO X lo tl) (hu : PO X hi th) : PE X (.Subscript e (.Slice lo hi none p2) pos) (tSl r te tl th) := by
  intro pins s σ H Q I h
  refine Subscript_ (thn (he pins s σ H _ I h) fun v s1 ⟨x, H1, I1, r1, q1⟩ => ?_)
  refine wpAny_Slice (thn (hl pins s1 σ H1 _ I1 q1) fun vl s2 ⟨l, H2, I2, pl, q2⟩ => thn (hu pins s2 σ H2 _ I2 q2) fun vu s3 ⟨u, H3, I3, pu, q3⟩ => ?_)
  rw [evalPart_none]
  refine wpAny_pure ?_
  have I4 : Inv X pins σ H3 { s3 with heap := s3.heap.push { cls := .type "slice", data := .fields #[vl, vu, .none] } } := I3.kept (t' := s3.toks) fun b ob q => Heap.get?_push_of_some _ q
  obtain ⟨T, id, hT, ht, hg⟩ := hr pins { s3 with heap := s3.heap.push { cls := .type "slice", data := .fields #[vl, vu, .none] } } σ H3 x v vl vu l u s3.heap.objs.size Q I4 r1 (Heap.IsSliceOf.new ..) pl pu q3
  show wpAny (model X.prog X.w) X.A (subscriptTail e (.Slice lo hi none p2) v (.ref s3.heap.objs.size)) (EP X pins σ Q) X.xe { s3 with heap := s3.heap.push { cls := .type "slice", data := .fields #[vl, vu, .none] } }
  exact tail_any (ops := [.ref s3.heap.objs.size, v]) ht hT hg (by with_unfolding_all rfl)

noncomputable def cutV (xs : List V) (lo hi : Option Int) : List V := (xs.drop (HT.sIx xs.length 0 lo)).take (HT.sIx xs.length xs.length hi - HT.sIx xs.length 0 lo)
theorem cutV_length (xs : List V) (lo hi : Option Int) : (cutV xs lo hi).length ≤ xs.length := by
  unfold cutV
  rw [List.length_take, List.length_drop]
  omega
end
end L2

namespace L2
open PySem PySem.Spec PyProof.Rows

noncomputable def ixN (n : Nat) (i : Int) : Option Nat := if 0 ≤ i then (if i < n then some i.toNat else none) else if -(n : Int) ≤ i then some (i + n).toNat else none
noncomputable def atI {α : Type} (xs : List α) (i : Int) : Option α := (ixN xs.length i).bind fun j => xs[j]?
theorem ixN_seq {n : Nat} {i : Int} {j : Nat} (h : ixN n i = some j) : seqIndex? i n = some j ∧ j < n ∧ -(n : Int) ≤ i ∧ i < n := by
  unfold ixN at h
  by_cases h0 : 0 ≤ i
  · rw [if_pos h0] at h
    by_cases h1 : i < n
    · rw [if_pos h1] at h
      have e : i.toNat = j := Option.some.inj h
      exact ⟨by rw [seqIndex_of h0 h1, e], by omega, by omega, h1⟩
    · rw [if_neg h1] at h; cases h
  · rw [if_neg h0] at h
    by_cases h1 : -(n : Int) ≤ i
    · rw [if_pos h1] at h
      have e : (i + n).toNat = j := Option.some.inj h
      exact ⟨by rw [seqIndex_neg (by omega) h1, e], by omega, h1, by omega⟩
    · rw [if_neg h1] at h; cases h
theorem atI_get {α : Type} {xs : List α} {i : Int} {v : α} (h : atI xs i = some v) : ∃ j, seqIndex? i xs.length = some j ∧ xs[j]? = some v ∧ j < xs.length ∧ -(xs.length : Int) ≤ i ∧ i < xs.length := by
  unfold atI at h
  cases e : ixN xs.length i with
  | none => rw [e] at h; cases h
  | some j =>
    rw [e] at h
    obtain ⟨h1, h2, h3, h4⟩ := ixN_seq e
    exact ⟨j, h1, h, h2, h3, h4⟩
theorem atI_nat {α : Type} {xs : List α} {j : Nat} {v : α} (h : xs[j]? = some v) : atI xs (j : Int) = some v := by
  have hj : j < xs.length := (List.getElem?_eq_some_iff.mp h).1
  have e : ixN xs.length (j : Int) = some j := by
    unfold ixN
    rw [if_pos (by omega), if_pos (by omega)]; simp
  unfold atI; rw [e]; exact h
noncomputable def PlainIx (b : Expr) : Prop := ∀ o i, subscripted b false o i = operate [o, i] (getItem o i)
noncomputable def IxR (X : Cx) (r : R2) : Prop :=
  ∀ (value slice : Expr) (pins : List (Addr × Obj)) (s : Shared) (σ : St) (H : Hp) (x y : V) (v u : Value) (Q : VK), Inv X pins σ H s → RelV x v → RelV y u → r x y H Q →
    subscripted slice false v u = operate [v, u] (getItem v u) → wpAny (model X.prog X.w) X.A (subscriptTail value slice v u) (EP X pins σ Q) X.xe s
noncomputable def MtR (X : Cx) (id : String) (r : V → List V → Hp → VK → Prop) : Prop :=
  ∀ (pins : List (Addr × Obj)) (s : Shared) (σ : St) (H : Hp) (x : V) (xs : List V) (v : Value) (us : List Value) (Q : VK), Inv X pins σ H s → RelV x v → Vals xs us → r x xs H Q →
    wpAny (model X.prog X.w) X.A (call (.builtin id) (v :: us)) (EP X pins σ Q) X.xe s
section
variable {X : Cx} {a b : Expr} {ta tb : TE} {pos : Pos}
theorem IxR.or {r r' : R2} (h : IxR X r) (h' : IxR X r') : IxR X (fun x y H Q => r x y H Q ∨ r' x y H Q) := by
  intro value slice pins s σ H x y v u Q I rx ry q hs
  rcases q with q | q
  · exact h value slice pins s σ H x y v u Q I rx ry q hs
  · exact h' value slice pins s σ H x y v u Q I rx ry q hs
theorem pe_ix {r : R2} (hr : IxR X r) (ha : PE X a ta) (hb : PE X b tb) (hs : PlainIx b) : PE X (.Subscript a b pos) (tOp r ta tb) := by
  intro pins s σ H Q I h
  exact Subscript_ (binT ha hb I h fun v u s2 x y H2 I2 rx ry q => hr a b pins s2 σ H2 x y v u Q I2 rx ry q (hs _ _))

noncomputable def rIxL (K : PySem.W.Frag) : R2 := fun x y H Q => ∃ p xs i v, x = .ref p ∧ y = .int i ∧ SqL K H p xs ∧ atI xs i = some v ∧ Q v H
noncomputable def rIxT (K : PySem.W.Frag) : R2 := fun x y H Q => ∃ p xs i v, x = .ref p ∧ y = .int i ∧ SqT K H p xs ∧ atI xs i = some v ∧ Q v H
noncomputable def rIxS : R2 := fun x y H Q => ∃ z i c, x = .str z ∧ y = .int i ∧ z.length ≤ sizeLine ∧ atI z.cps.toList i = some c ∧ Q (.str ⟨#[c]⟩) H
theorem ix_list : IxR X (rIxL X.K) := by
  intro value slice pins s σ H x y v u Q I rx ry h hs
  obtain ⟨p, xs, i, z, rfl, rfl, hq, he, q⟩ := h
  cases rx
  obtain ⟨t, rfl⟩ := ry
  obtain ⟨its, r, pl, hz⟩ := I.list hq
  obtain ⟨j, h1, h2, h3, h4, h5⟩ := atI_get he
  obtain ⟨w, ew, rw'⟩ := r.get h2
  have hl := r.length
  have hn := line63
  have fin : EP X pins σ Q w s := ⟨z, H, I, rw', q⟩
  by_cases h0 : 0 ≤ i
  · have hj : i.toNat = j := by
      rw [seqIndex_of h0 h5] at h1
      exact Option.some.inj h1
    exact item_listR pl.isList h0 (by omega) (by rw [hj]; simpa using ew) fin hs
  · have hj : (i + (its.toArray.size : Int)).toNat = j := by
      rw [seqIndex_neg (by omega) h4] at h1
      rw [List.size_toArray, ← hl]
      exact Option.some.inj h1
    exact subscriptTail_builtinR (x := w) pl.isList.typeIs slot_list_getitem.lookup
      (wpAny_getItem_list_neg (Q := fun r s' => r = w ∧ EP X pins σ Q r s') pl.isList (by omega) (by rw [List.size_toArray] <;> omega) (by omega) (by rw [hj]; simpa using ew) ⟨rfl, fin⟩) hs
theorem ix_tup : IxR X (rIxT X.K) := by
  intro value slice pins s σ H x y v u Q I rx ry h hs
  obtain ⟨p, xs, i, z, rfl, rfl, hq, he, q⟩ := h
  cases rx
  obtain ⟨t, rfl⟩ := ry
  obtain ⟨its, r, pl, hz⟩ := I.tuple hq
  obtain ⟨j, h1, h2, h3, h4, h5⟩ := atI_get he
  obtain ⟨w, ew, rw'⟩ := r.get h2
  have hl := r.length
  have hn := line63
  have fin : EP X pins σ Q w s := ⟨z, H, I, rw', q⟩
  exact subscriptTail_builtinR (x := w) pl.typeIs slot_tuple_getitem.lookup
    (getItem_tuple (j := j) (Q := fun r s' => r = w ∧ EP X pins σ Q r s') pl (by omega) (by omega) (by rw [List.size_toArray, ← hl]; exact h1) (by simpa using ew) ⟨rfl, fin⟩) hs
theorem ix_str : IxR X rIxS := by
  intro value slice pins s σ H x y v u Q I rx ry h hs
  obtain ⟨z, i, c, rfl, rfl, hz, he, q⟩ := h
  obtain ⟨t, rfl⟩ := rx
  obtain ⟨t', rfl⟩ := ry
  obtain ⟨j, h1, h2, h3, h4, h5⟩ := atI_get he
  have hl : z.cps.toList.length = z.length := by simp [Str.length]
  rw [hl] at h1 h4 h5
  have hn := line63
  exact tail_any (typeIs_str s z t) slot_str_getitem.lookup (getItem_str (c := c) (by
    have e1 : decide (i < -(2 ^ 63 : Int)) = false := decide_eq_false (by omega)
    have e2 : decide (i ≥ 2 ^ 63) = false := decide_eq_false (by omega)
    rw [e1, e2, Bool.or_false]) (by rw [h1]; simpa using h2) ⟨.str ⟨#[c]⟩, H, I.tok _, ⟨_, rfl⟩, q⟩) hs
noncomputable def rIx (K : PySem.W.Frag) : R2 := fun x y H Q => rIxL K x y H Q ∨ rIxT K x y H Q ∨ rIxS x y H Q
theorem ix_seq : IxR X (rIx X.K) := ix_list.or (ix_tup.or ix_str)

theorem mapSeq_set (its : List Value) (n j : Nat) (u : Value) : Obj.mapSeq (·.setIfInBounds j u) { cls := .type "list", data := .seq its.toArray n } = { cls := .type "list", data := .seq (its.set j u).toArray n } := by
  simp [Obj.mapSeq]
theorem Inv.lst {pins : List (Addr × Obj)} {σ : St} {H : Hp} {s : Shared} {p : Addr} {xs : List V} (I : Inv X pins σ H s) (h : H p = some (.lst xs)) :
    ∃ (its : List Value) (n : Nat), Vals xs its ∧ s.heap.get? p = some { cls := .type "list", data := .seq its.toArray n } ∧ xs.length ≤ sizeLine := by
  obtain ⟨z, its, n, r, e⟩ := I.hok p _ h
  exact ⟨its, n, r, e, z⟩
theorem Inv.lstUpd {pins : List (Addr × Obj)} {σ : St} {H : Hp} {s : Shared} {p : Addr} {xs ys : List V} {its its' : List Value} {n n' : Nat} {f : Obj → Obj} (I : Inv X pins σ H s) (h : H p = some (.lst xs))
    (ho : s.heap.get? p = some { cls := .type "list", data := .seq its.toArray n }) (hf : f { cls := .type "list", data := .seq its.toArray n } = { cls := .type "list", data := .seq its'.toArray n' }) (r : Vals ys its') (hz : ys.length ≤ sizeLine) (t : Nat) :
    Inv X pins σ (upd H p (.lst ys)) { s with heap := s.heap.update p f, toks := t } := by
  have e : (s.heap.update p f).get? p = some { cls := .type "list", data := .seq its'.toArray n' } := by
    rw [Heap.get?_update_self f ho (by rw [hf] <;> rfl), hf]
  refine I.write (x := p) (e := p) (by rw [h]; trivial) (.inl rfl) (fun b u hb q => (Heap.get?_update_other _ _ (Ne.symm hb)).trans q) ⟨_, e⟩ ?_
  exact ⟨hz, its', n', r, e⟩
noncomputable def rSetL : V → V → V → Hp → (Hp → Prop) → Prop := fun o i v H Q => ∃ p xs k j, o = .ref p ∧ i = .int k ∧ H p = some (.lst xs) ∧ ixN xs.length k = some j ∧ Q (upd H p (.lst (xs.set j v)))
theorem set_list : PSet X rSetL := by
  intro pins s σ H o i v ov iv u Q I ro ri rv h
  obtain ⟨p, xs, k, j, rfl, rfl, hp, hj, q⟩ := h
  cases ro
  obtain ⟨t, rfl⟩ := ri
  obtain ⟨its, n, r, ho, hz⟩ := I.lst hp
  obtain ⟨h1, h2, h3, h4⟩ := ixN_seq hj
  have hl := r.length
  have hn := line63
  have I' : Inv X pins σ (upd H p (.lst (xs.set j v))) { s with heap := s.heap.update p (Obj.mapSeq (·.setIfInBounds j u)) } :=
    I.lstUpd hp ho (mapSeq_set its n j u) (r.set rv j) (by rw [List.length_set]; exact hz) s.toks
  by_cases h0 : 0 ≤ k
  · have hk : k.toNat = j := by
      rw [seqIndex_of h0 h4] at h1
      exact Option.some.inj h1
    exact PySem.W.ki_setAt ho h0 (by omega) (by rw [List.size_toArray, ← hl]; exact h4) (by rw [hk]; exact ⟨_, I', q⟩)
  · have hk : (k + (its.toArray.size : Int)).toNat = j := by
      rw [seqIndex_neg (by omega) h3] at h1
      rw [List.size_toArray, ← hl]
      exact Option.some.inj h1
    exact PySem.W.ki_setBack ho (by omega) (by rw [List.size_toArray, ← hl]; exact h3) (by omega) (by rw [hk]; exact ⟨_, I', q⟩)

theorem slice_bounds (lo hi : Option Int) (n : Nat) : (sliceBounds lo hi none n).1 = ((HT.sIx n 0 lo : Nat) : Int) ∧ (sliceBounds lo hi none n).2.1 = ((HT.sIx n n hi : Nat) : Int) ∧ (sliceBounds lo hi none n).2.2 = 1 := by
  refine ⟨?_, ?_, rfl⟩
  · cases lo with
    | none => simp [sliceBounds, HT.sIx]
    | some i =>
      simp only [sliceBounds, HT.sIx, Option.getD_none, show (1 : Int) > 0 by decide, if_true]
      by_cases h : i < 0
      · simp only [h, if_true] <;> omega
      · simp only [h, if_false] <;> omega
  · cases hi with
    | none => simp [sliceBounds, HT.sIx]
    | some i =>
      simp only [sliceBounds, HT.sIx, Option.getD_none, show (1 : Int) > 0 by decide, if_true]
      by_cases h : i < 0
      · simp only [h, if_true] <;> omega
      · simp only [h, if_false] <;> omega
theorem slicePick_cut (its : List Value) (lo hi : Option Int) : slicePick its.toArray lo hi none = ((its.drop (HT.sIx its.length 0 lo)).take (HT.sIx its.length its.length hi - HT.sIx its.length 0 lo)).toArray := by
  obtain ⟨h1, h2, h3⟩ := slice_bounds lo hi its.toArray.size
  unfold slicePick
  rw [h1, h2, h3]
  simp only [sliceRange_one, pick_run, List.size_toArray] <;> rfl
noncomputable def rSlL (K : PySem.W.Frag) : V → Option Int → Option Int → Hp → VK → Prop := fun x lo hi H Q => ∃ a xs, x = .ref a ∧ SqL K H a xs ∧ ∀ p, H p = none → Q (.ref p) (upd H p (.lst (cutV xs lo hi)))
theorem sl_list : SlR X (rSlL X.K) := by
  intro pins s σ H x v vl vu lo hi sl Q I rx hs pl pu h
  obtain ⟨a, xs, rfl, hx, q⟩ := h
  cases rx
  obtain ⟨its, r, ht, hz⟩ := I.list hx
  have hlen := r.length
  refine ⟨"list", _, slot_list_getitem.lookup, ht.isList.typeIs, ?_⟩
  refine wpAny_getItem_list_slice ht.isList hs pl pu .none (by simp) ?_ (by rw [List.size_toArray] <;> omega)
  rw [slicePick_cut, ← hlen]
  refine ⟨.ref s.heap.objs.size, _, I.laid (t' := s.toks) (o := .lst (cutV xs lo hi)) (fun b ob q => Heap.get?_push_of_some _ q) (Nat.le_refl _) ?_, rfl, q _ (I.hok.fresh (Nat.le_refl _))⟩
  exact ⟨Nat.le_trans (cutV_length xs lo hi) hz, _, 0, (r.drop (HT.sIx xs.length 0 lo)).take (HT.sIx xs.length xs.length hi - HT.sIx xs.length 0 lo), Heap.get?_push_size _ rfl⟩

theorem call_len_seq : CallR X (.builtin "len") (fun xs H Q => ∃ p ys, xs = [.ref p] ∧ (SqL X.K H p ys ∨ SqT X.K H p ys) ∧ Q (.int ys.length) H) := by
  intro pins s σ H xs us Q I r h
  obtain ⟨p, ys, rfl, hq, q⟩ := h
  obtain ⟨u, rfl, rx⟩ := vals1 r
  cases rx
  have hn := line63
  rcases hq with hq | hq
  · obtain ⟨its, r', pl, hz⟩ := I.list hq
    have hlen := r'.length
    exact Calls.call_len_list pl.isList (by simp only [List.size_toArray] <;> omega) ⟨.int ys.length, H, I.tok _, ⟨s.toks + 1, by rw [List.size_toArray, hlen]⟩, q⟩
  · obtain ⟨its, r', pl, hz⟩ := I.tuple hq
    have hlen := r'.length
    exact len_tuple pl (by simp only [List.size_toArray] <;> omega) ⟨.int ys.length, H, I.tok _, ⟨s.toks + 1, by rw [List.size_toArray, hlen]⟩, q⟩
theorem call_list_of : CallR X (.type "list") (fun xs H Q => ∃ p ys, xs = [.ref p] ∧ (SqL X.K H p ys ∨ SqT X.K H p ys) ∧ ∀ l, H l = none → Q (.ref l) (upd H l (.lst ys))) := by
  intro pins s σ H xs us Q I r h
  obtain ⟨p, ys, rfl, hq, q⟩ := h
  obtain ⟨u, rfl, rx⟩ := vals1 r
  cases rx
  have fin : ∀ (its : List Value), Vals ys its → ys.length ≤ sizeLine → ∀ (h' : Heap) (c' : Nat), (∀ b o', s.heap.get? b = some o' → h'.get? b = some o') →
      h'.get? s.heap.objs.size = some { cls := .type "list", dict := none, data := .seq its.toArray c', slots := #[] } → EP X pins σ Q (.ref s.heap.objs.size) { s with heap := h' } := fun its r' hz h' c' kp e =>
    ⟨.ref s.heap.objs.size, _, I.laid (t' := s.toks) kp (Nat.le_refl _) (show ObjOk X.prog X.w _ h' _ (.lst ys) from ⟨hz, its, c', r', e⟩), rfl, q _ (I.hok.fresh (Nat.le_refl _))⟩
  rcases hq with hq | hq
  · obtain ⟨its, r', pl, hz⟩ := I.list hq
    have hlen := r'.length
    obtain ⟨o, ho, hc, n, hd⟩ := pl.isList
    exact call_list_seq p (.inl rfl) ho hc hd (fun h' c' kp e => fin its r' hz h' c' kp e) (by simp only [List.size_toArray] <;> omega)
  · obtain ⟨its, r', pl, hz⟩ := I.tuple hq
    have hlen := r'.length
    obtain ⟨o, ho, hc, n, hd⟩ := pl
    exact call_list_seq p (.inr rfl) ho hc hd (fun h' c' kp e => fin its r' hz h' c' kp e) (by simp only [List.size_toArray] <;> omega)
noncomputable def tyV (K : PySem.W.Frag) (T : String) (x : V) (H : Hp) : Prop := match x with
  | .str _ => T = "str"
  | .int _ => T = "int"
  | .ref p => (T = "list" ∧ ∃ xs, SqL K H p xs) ∨ (T = "tuple" ∧ ∃ o, K.lookup p = some o ∧ o.cls = .type "tuple" ∧ o.dict = none) ∨
      (T = "dict" ∧ ((∃ kvs, H p = some (.dK kvs)) ∨ ∃ kvs, H p = some (.dT kvs))) ∨ (T = "set" ∧ ∃ S n, H p = some (.set S n))
  | _ => False
theorem tyV_is {pins : List (Addr × Obj)} {σ : St} {H : Hp} {s : Shared} {T : String} {x : V} {v : Value} (I : Inv X pins σ H s) (r : RelV x v) (ty : tyV X.K T x H) :
    s.TypeIs v T ∧ ∀ a, v = .ref a → ∃ ob, s.heap.get? a = some ob ∧ ob.dict = none := by
  cases x with
  | str z =>
    obtain ⟨t, rfl⟩ := r
    cases (show T = "str" from ty)
    exact ⟨typeIs_str s z t, fun _ e => nomatch e⟩
  | int i =>
    obtain ⟨t, rfl⟩ := r
    cases (show T = "int" from ty)
    exact ⟨typeIs_int s i t, fun _ e => nomatch e⟩
  | ref p =>
    cases r
    rcases ty with ⟨rfl, xs, hq⟩ | ⟨rfl, o, hk, hc, hd⟩ | ⟨rfl, hk⟩ | ⟨rfl, S, n, hk⟩
    · obtain ⟨its, _, pl, _⟩ := I.list hq
      refine ⟨pl.isList.typeIs, fun a e => ?_⟩
      cases e
      obtain ⟨o, n, e, c, hd, _⟩ := pl
      exact ⟨o, e, hd⟩
    · refine ⟨⟨o, I.kIn p o hk, hc⟩, fun a e => ?_⟩
      cases e
      exact ⟨o, I.kIn _ o hk, hd⟩
    · have z : ∃ o, s.heap.get? p = some o ∧ o.ExactDict := by
        rcases hk with ⟨kvs, hk⟩ | ⟨kvs, hk⟩
        · obtain ⟨_, _, _, _, o, _, _, e, ex, _⟩ := I.hok p _ hk
          exact ⟨o, e, ex⟩
        · obtain ⟨_, _, _, _, o, _, _, e, ex, _⟩ := I.hok p _ hk
          exact ⟨o, e, ex⟩
      obtain ⟨o, e, ex⟩ := z
      refine ⟨⟨o, e, ex.1⟩, fun a e2 => ?_⟩
      cases e2
      exact ⟨o, e, ex.2.1⟩
    · obtain ⟨o, _, _, _, e, ex, _⟩ := I.hok p _ hk
      refine ⟨⟨o, e, ex.1⟩, fun a e2 => ?_⟩
      cases e2
      exact ⟨o, e, ex.2.1⟩
  | _ => exact False.elim ty
noncomputable def tBM (K : PySem.W.Frag) (T : String) (r : V → List V → Hp → VK → Prop) (to : TE) (t : TA) : TE := fun σ H Q => to σ H fun x H1 => tyV K T x H1 ∧ t σ H1 fun xs H2 => r x xs H2 Q
variable {o e : Expr} {es : List Expr} {to : TE} {t : TA} {name : Str} {apos cpos : Pos} {T id : String} {r : V → List V → Hp → VK → Prop}
theorem pe_bm (pa : PlainAttrs T) (slot : Slot T name id) (hty : typeOf (.builtin id) = pure (.type "method_descriptor")) (hm : MtR X id r) (ho : PE X o to) (ha : PA X (e :: es) t)
    (hbase : attributeBase o name X.env (eval o X.env) = eval o X.env := by rfl)
    (hfew : ((backTo cpos (starEach (e :: es) X.env)).all (fun x => !x.1) && (backToKw cpos (keywordEach [] X.env)).all (fun x => x.1.isSome)
      && decide ((e :: es).length + ([] : List Keyword).length + (if ([] : List Keyword).isEmpty then 0 else 1) < 30)) = true := by rfl)
    (hline : (apos.endLine == cpos.line) = true := by rfl) (hs : starEach (e :: es) X.env = (false, eval e X.env) :: starEach es X.env := by rfl) (hplain : (backTo cpos (starEach es X.env)).any (·.1) = false := by rfl) :
    PE X (.Call (.Attribute o name apos) (e :: es) [] cpos) (tBM X.K T r to t) := by
  intro pins s σ H Q I h
  refine wpAny_Call_method_late hbase hfew hline rfl (thn (ho pins s σ H _ I h) fun v s1 ⟨x, H1, I1, r1, ty, q1⟩ => ?_)
  obtain ⟨h1, h2⟩ := tyV_is I1 r1 ty
  refine ⟨T, id, pa, slot, hty, h1, h2, ?_⟩
  have hA := ha cpos pins s1 σ H1 _ I1 q1
  rw [hs] at hA ⊢
  refine Calls.callWith_builtin (by show (false || (backTo cpos (starEach es X.env)).any (·.1)) = false; rw [hplain] <;> rfl) (Calls.evalArgs_plain ?_)
  exact thn hA fun us s2 ⟨vs, H2, I2, r2, q2⟩ => hm pins s2 σ H2 x vs v us Q I2 r1 r2 q2
/- xs.append(e), list.index on a module's tuple .. are MtR facts of 06m -/
end
end L2

namespace L2
open PySem PySem.Spec PyProof.Rows

noncomputable def MtM (X : Cx) (id : String) (r : V → List V → Hp → VK → Prop) : Prop :=
  ∀ (pins : List (Addr × Obj)) (s : Shared) (σ : St) (H : Hp) (x : V) (xs : List V) (v : Value) (us : List Value) (Q : VK), Inv X pins σ H s → RelV x v → Vals xs us → r x xs H Q →
    wpAny (model X.prog X.w) X.A (call (.builtin id) (v :: us)) (EP X pins σ Q) X.xe s

theorem Vals.one : ∀ {x : V} {us : List Value}, Vals [x] us → ∃ u, us = [u] ∧ RelV x u
  | _, _, .cons r .nil => ⟨_, rfl, r⟩
theorem Vals.eraseIdx : ∀ {xs : List V} {us : List Value} (i : Nat), Vals xs us → Vals (xs.eraseIdx i) (us.eraseIdx i)
  | _, _, _, .nil => .nil
  | _, _, 0, .cons _ t => t
  | _, _, i + 1, .cons r t => .cons r (Vals.eraseIdx i t)
theorem len_erase {α : Type} : ∀ (l : List α) (i : Nat), (l.eraseIdx i).length ≤ l.length
  | [], _ => Nat.le_refl _
  | _ :: _, 0 => Nat.le_succ _
  | _ :: r, i + 1 => Nat.succ_le_succ (len_erase r i)
section
variable {X : Cx} {pins : List (Addr × Obj)} {σ : St} {H : Hp} {s : Shared} {l b : Addr} {xs ys zs : List V}

theorem Inv.lset {its its' : List Value} {n : Nat} {f : Array Value → Array Value} {t' : Nat} (I : Inv X pins σ H s) (hH : H l = some (.lst xs))
    (e : s.heap.get? l = some { cls := .type "list", data := .seq its.toArray n }) (hf : f its.toArray = its'.toArray) (hv : Vals ys its') (hz : ys.length ≤ sizeLine) :
    Inv X pins σ (upd H l (.lst ys)) { s with heap := s.heap.update l (Obj.mapSeq f), toks := t' } := by
  have q := PySem.IsL.update e f
  rw [hf] at q
  refine I.write (x := l) (e := l) (by rw [hH]; exact trivial) (.inl rfl) (fun b' u hb hu => (Heap.get?_update_other s.heap (Obj.mapSeq f) (Ne.symm hb)).trans hu) ⟨_, q⟩ ?_
  exact ⟨hz, its', _, hv, q⟩
theorem Inv.lnew {its : List Value} {t' : Nat} (I : Inv X pins σ H s) (hv : Vals ys its) (hz : ys.length ≤ sizeLine) :
    Inv X pins σ (upd H s.heap.objs.size (.lst ys)) { s with heap := s.heap.push { cls := .type "list", data := .seq its.toArray }, toks := t' } :=
  I.laid (fun _ _ q => Heap.get?_push_of_some _ q) (Nat.le_refl _) ⟨hz, its, 0, hv, Heap.get?_push_size _ rfl⟩
theorem Inv.fresh (I : Inv X pins σ H s) : H s.heap.objs.size = none := I.hok.fresh (Nat.le_refl _)
theorem Inv.lstM (I : Inv X pins σ H s) (hH : H l = some (.lst xs)) : xs.length ≤ sizeLine ∧ ∃ (its : List Value) (n : Nat), Vals xs its ∧ xs.length = its.length ∧ s.heap.get? l = some { cls := .type "list", data := .seq its.toArray n } := by
  obtain ⟨z, its, n, r, e⟩ := I.hok l _ hH
  exact ⟨z, its, n, r, r.length, e⟩

end

section
variable {X : Cx}

noncomputable def rAppend : V → List V → Hp → VK → Prop := fun x vs H Q => ∃ l xs y, x = .ref l ∧ vs = [y] ∧ H l = some (.lst xs) ∧ xs.length < sizeLine ∧ Q .non (upd H l (.lst (xs ++ [y])))
theorem mt_append : MtM X "list.append" rAppend := by
  intro pins s σ H x vs v us Q I rx rv h
  obtain ⟨l, xs, y, rfl, rfl, hH, hz, q⟩ := h
  cases rx
  obtain ⟨u, rfl, ru⟩ := rv.one
  obtain ⟨z, its, n, r, hl, e⟩ := I.lstM hH
  refine call_meets F.slot_list_append ⟨_, e, rfl⟩ F.entry_list_append (F.args_list_append_2 _ _) (PySem.list_append l its.toArray n u (by rw [List.size_toArray]; omega)) ⟨e, ?_⟩
  refine ⟨.non, _, I.lset (its' := its ++ [u]) hH e (by simp) (r.append (.cons ru .nil)) ?_, rfl, q⟩
  rw [List.length_append, List.length_singleton]
  omega

noncomputable def rPopAt : V → List V → Hp → VK → Prop := fun x vs H Q => ∃ l xs i k y, x = .ref l ∧ vs = [.int i] ∧ H l = some (.lst xs) ∧ -(2 ^ 63) ≤ i ∧ i < 2 ^ 63 ∧ seqIndex? i xs.length = some k ∧ xs[k]? = some y ∧ Q y (upd H l (.lst (xs.eraseIdx k)))
theorem mt_popAt : MtM X "list.pop" rPopAt := by
  intro pins s σ H x vs v us Q I rx rv h
  obtain ⟨l, xs, i, k, y, rfl, rfl, hH, h1, h2, hk, hy, q⟩ := h
  cases rx
  obtain ⟨u, rfl, ru⟩ := rv.one
  obtain ⟨t, rfl⟩ := ru
  obtain ⟨z, its, n, r, hl, e⟩ := I.lstM hH
  obtain ⟨w, hw, rw'⟩ := r.get hy
  refine call_meets F.slot_list_pop ⟨_, e, rfl⟩ F.entry_list_pop (F.args_list_pop_2 _ _)
    (MeetsSeq.list_pop_at l its.toArray n i t k w (fitsIndex_both h1 h2) (by rw [List.size_toArray, ← hl]; exact hk) (by rw [← Array.getElem?_toList]; exact hw) (by rw [List.size_toArray]; omega)) ⟨e, ?_⟩
  refine ⟨y, _, I.lset (its' := its.eraseIdx k) hH e ?_ (r.eraseIdx k) ?_, rw', q⟩
  · show its.toArray.eraseIdxIfInBounds k = (its.eraseIdx k).toArray
    rw [List.eraseIdxIfInBounds_toArray]
  · have := len_erase xs k
    omega

end

section
variable {prog : Program} {w : World} {A : Around} {E : Value → Shared → Prop} {s : Shared}
end

section
variable {X : Cx}
end
end L2

namespace Att
open PySem PySem.W PySem.Calls PyProof.Rows

theorem ints_of_wellAll {P : Params} {h : Heap} : ∀ (ns : List Int) (vs : List Value), WellAll P h vs (ns.map WData.int) → IntsAre vs ns := by
  intro ns
  induction ns with
  | nil =>
    intro vs w
    rw [List.map_nil] at w
    cases w
    exact .nil
  | cons n ns ih =>
    intro vs w
    rw [List.map_cons] at w
    cases w with
    | cons a b =>
      cases a
      exact .cons _ _ (ih _ b)

theorem script_of {l : OpenLaw} {n : Nat} (hn : l.most = some n) {P : Params} {h : Heap} {args : List WData} {vals : List Value}
    (hpre : l.row.toRowW.claim.pre args = true) (hwl : WellAll P h vals args) :
    ∃ a vs ns, vals = [Value.ref a] ∧ args = [WData.list (ns.map WData.int)] ∧ h.get? a = some { cls := .type "list", data := .seq vs.toArray } ∧ IntsAre vs ns ∧ ns.length ≤ n := by
  have hsh : WShape.hasAll [] args [.list .int] = true := (pre_splitW hpre).1
  have hc : l.pre.holds [] { args := args } = true := (pre_splitW hpre).2
  obtain ⟨d, r, rfl, h1, h2⟩ := hasAllW_cons hsh
  obtain rfl := hasAllW_nil h2
  obtain ⟨xs, rfl, h3⟩ := hasW_list h1
  obtain ⟨ns, rfl⟩ := items_int h3
  have hlen : ns.length ≤ n := by
    unfold OpenLaw.pre at hc
    have h4 : (WTm.not (.lt (.lit (.int (n : Int))) (.len (.arg 0)))).holds [] { args := [.list (ns.map .int)] } = true := by
      have h4 := (holds_andW hc).1
      rw [hn] at h4
      exact h4
    have h5 := condW_of h4 (w_not (w_lt w_lit (w_len_list (w_arg rfl))))
    rw [List.length_map] at h5
    refine Nat.le_of_not_lt fun q => ?_
    have q' : (n : Int) < ((ns.length : Nat) : Int) := by omega
    first
      | (rw [decide_eq_true q'] at h5; exact absurd h5 (by decide))
      | (simp at h5; omega)
  cases hwl with
  | cons w1 w2 =>
    cases w2
    cases w1 with
    | list ho hall => exact ⟨_, _, ns, rfl, rfl, ho, ints_of_wellAll ns _ hall, hlen⟩

theorem post_true (l : OpenLaw) (args : List WData) : l.row.toRowW.claim.post args (.bool true) args = true :=
  postW_of (r := l.row.toRowW) (X := (true == true))
    (show WShape.has [] (.bool true) .bool = true by first | rfl | decide | simp [WShape.has, WShape.arms, WShape.armsAll])
    (show (WTm.eq .res (.lit (.bool true))).value [] { args := args, res := some (.bool true), after := args } = some (.bool (true == true)) from w_eq_bool (w_res rfl) w_lit) rfl

theorem attach_call {l : OpenLaw} {n : Nat} {q : Program} {loose : List Str} {XP : (Str → Option Value) → Heap → Prop} {YP : World → Heap → Prop} {d : DefRec}
    (hn : l.most = some n) (hdf : d.params.defaults = [])
    (call : ∀ (w : World) (s₀ s₁ : Shared) (mg mb : Str → Option Value) (fa : Addr) (o : Obj) (pm cd doc : Value) (a : Addr) (vs : List Value) (ns : List Int),
      Ground q loose [] XP w s₀ mg mb s₁.heap → YP w s₁.heap →
      s₁.heap.get? fa = some o → o.data = .func (docDef d.name d.params d.body d.scope pm cd doc) → s₁.heap.CodeRec cd d.name → mg d.name = some (.ref fa) →
      s₁.heap.get? a = some { cls := .type "list", data := .seq vs.toArray } → IntsAre vs ns → ns.length ≤ n → s₁.gens = #[] →
      codeAny (model l.prog w) callerA (.call (.ref fa) ⟨[.ref a], []⟩) (fun r s' => r = .ok (.ret (.bool true)) ∧ OldK s₁.heap s'.heap ∧ s'.os = s₁.os ∧ AllBare s'.gens) s₁) :
    WalkO q loose XP YP l.row.toRowW d [] (fun f vs => PySem.call f vs) := by
  intro w s₀ s₁ mg mb G Y fa o pm cd doc dV kV ho hd hcd hD hmg hg args vals as hpre hlay hrd hwl hlo
  obtain rfl : dV = .none := Dflts.none hD hdf
  obtain rfl : kV = .none := Dflts.noKw hD
  obtain ⟨a, vs, ns, rfl, rfl, hobj, hints, hlen⟩ := script_of hn hpre hwl
  refine enter_call (codeAny_mono (call w s₀ s₁ mg mb fa o pm cd doc a vs ns G Y ho (fd_plain hd) hcd hmg hobj hints hlen hg) fun r s' hq => ?_)
  obtain ⟨rfl, h2, h3, h4⟩ := hq
  exact ⟨.inl ⟨.bool true, .bool true, [], rfl, fun _ => rfl, .bool true, post_true l _, fun _ => ⟨List.Pairwise.nil, fun _ hm => (nomatch hm)⟩⟩, h2, h3, h4⟩

section
variable {prog : Program} {w : World} {A : Around} {E : Value → Shared → Prop} {s : Shared} {K : Frag}

end
end Att

namespace L2
open PySem PySem.Spec PyProof.Rows

theorem vals_ints : ∀ {vs : List Value} {ns : List Int}, IntsAre vs ns → Vals (ns.map V.int) vs
  | _, _, .nil => .nil
  | _, _, .cons n t h => .cons ⟨t, rfl⟩ (vals_ints h)

noncomputable def Only (H : Hp) : Prop := ∀ b, H b = none ∨ ∃ o xs, H b = some (.frz o (.lst xs))

theorem law_call {P : Program} {w : World} {K : PySem.W.Frag} {mg mb : Str → Option Value} {CX : CXT} {k : Nat} {fa a : Addr} {fd : FuncData} {x : Str} {sp : Sp} {s₁ : Shared} {vs : List Value} {ns : List Int}
    (KX : K.In s₁.heap) (hns : s₁.heap.Ns mainGlobals mg) (hb : s₁.heap.Ns builtinsNs mb) (hbb : ∀ x : Str, x ≠ "__name__" → mb x = bootBuiltins x) (hlim : s₁.heap.NoLimit) (hg : s₁.gens = #[])
    (ha : s₁.heap.get? a = some { cls := .type "list", data := .seq vs.toArray }) (hi : IntsAre vs ns) (hl : ns.length ≤ sizeLine) (hr : Room k callerA)
    (F : ∀ base : Heap, K.In base → base.Ns mainGlobals mg → FnOk P w K mg base CX k fa fd [x] sp) (hbind : ∀ (s : Shared) (u : Value), BindsTo s fd ⟨[u], []⟩ [(x, u)])
    (hsp : ∀ H : Hp, Only H → SqL K H a (ns.map V.int) → sp [.ref a] H (fun v _ => v = .bl true) fun _ _ _ => False)
    (hCX : ∀ H e s', CX [] H s₁ (fun _ _ _ => False) e s' → False) :
    codeAny (model P w) callerA (.call (.ref fa) ⟨[.ref a], []⟩) (fun r s' => r = .ok (.ret (.bool true)) ∧ OldK s₁.heap s'.heap ∧ s'.os = s₁.os ∧ AllBare s'.gens) s₁ := by
  have rv := vals_ints hi
  have lenV := hi.length
  -- from an abstract heap in which nothing but the script may be tracked
  have core : ∀ H : Hp, Only H → SqL K H a (ns.map V.int) → HOk P w H s₁.heap → (∀ b, H b ≠ none → b = a) → (H a ≠ none → K.lookup a = none) →
      codeAny (model P w) callerA (.call (.ref fa) ⟨[.ref a], []⟩) (fun r s' => r = .ok (.ret (.bool true)) ∧ OldK s₁.heap s'.heap ∧ s'.os = s₁.os ∧ AllBare s'.gens) s₁ := by
    intro H hO hS hok hA hK
    have base_of : ∀ {b : Addr} {o : Obj}, s₁.heap.get? b = some o → H b = none → (hidT s₁.heap H).get? b = some o := fun e n => hidT_get e n
    have noA : ∀ {b : Addr} {o : Obj} {es : Array DictEntry} {ep : Nat}, s₁.heap.get? b = some o → o.data = .dict es ep → H b = none := fun {b o es ep} e d => by
      cases q : H b with
      | none => rfl
      | some u =>
        have e' : b = a := hA b (by rw [q]; simp)
        subst e'
        rw [ha] at e; cases e
        have d' : Data.seq vs.toArray _ = Data.dict es ep := d
        cases d'
    have nsK : ∀ {b : Addr} {m : Str → Option Value}, s₁.heap.Ns b m → (hidT s₁.heap H).Ns b m := fun {b m} ⟨o, es, ep, e, d, r⟩ => ⟨o, es, ep, base_of e (noA e d), d, r⟩
    have hKb : K.In (hidT s₁.heap H) := fun b o e => base_of (KX b o e) (by
      cases q : H b with
      | none => rfl
      | some u =>
        have e' : b = a := hA b (by rw [q]; simp)
        subst e'
        rw [hK (by rw [q]; simp)] at e; cases e)
    have hM : Mod K mg (hidT s₁.heap H) := ⟨hKb, nsK hns, ⟨mb, nsK hb, hbb⟩, let ⟨mc, h1, h2⟩ := hlim; ⟨mc, nsK h1, h2⟩⟩
    have e0 : Env0 P w K mg (hidT s₁.heap H) callerA [] s₁ H := ⟨rfl, hM, fun b o e => of_hidT e, Nat.le_of_eq (hidT_size _ _), trivial, fun b hb => absurd (show b ∈ ([] : List Addr) from hb) (by simp), hok, .of_eq hg⟩
    refine codeAny_mono ((F _ hKb (nsK hns)).run callerA [] s₁ H ⟨[.ref a], []⟩ [.ref a] [.ref a] _ _ hr e0 (hbind s₁ (.ref a)) (.cons rfl .nil) (hsp H hO hS)) fun r s' h => ?_
    cases r with
    | error e => exact (hCX H e s' h).elim
    | ok fl =>
      cases fl with
      | next => exact False.elim h
      | brk => exact False.elim h
      | cont => exact False.elim h
      | ret u =>
        obtain ⟨v, H', os, bare, un, hok', r', q⟩ := h
        have q' : v = .bl true := q
        subst q'
        obtain rfl : u = Value.bool true := r'
        refine ⟨rfl, OldK.of_keep fun b o e => ?_, os, bare⟩
        cases q : H b with
        | none => exact un.keep b o e q (by intro z; exact absurd (show b ∈ ([] : List Addr) from z) (by simp)) (by simp)
        | some u =>
          rcases hO b with z | ⟨ob, xs, z⟩
          · rw [q] at z; cases z
          · have z2 := un.frzs b ob _ z
            obtain ⟨e1, _⟩ := hok b _ z
            obtain ⟨e2, _⟩ := hok' b _ z2
            rw [e] at e1; cases e1
            exact e2
  cases hk : K.lookup a with
  | some o =>
    -- the script is one of the module's own objects
    have e := KX a o hk
    rw [ha] at e
    cases e
    refine core (fun _ => none) (fun _ => .inl rfl) (.inr ⟨_, vs.toArray, _, hk, rfl, rfl, rfl, by rw [List.size_toArray, lenV]; exact hl, by simpa using rv⟩) (fun b u z => by have z' : (none : Option HO) = some u := z; cases z') (fun b z => absurd rfl z) fun z => absurd rfl z
  | none =>
    refine core (fun b => if b = a then some (.frz { cls := .type "list", data := .seq vs.toArray } (.lst (ns.map V.int))) else none) (fun b => ?_) (.inl (.inr ⟨{ cls := .type "list", data := .seq vs.toArray }, if_pos rfl⟩)) (fun b u z => ?_) (fun b z => ?_) fun _ => hk
    · by_cases hb : b = a
      · exact .inr ⟨_, _, if_pos hb⟩
      · exact .inl (if_neg hb)
    · by_cases hb : b = a
      · have z' := (if_pos hb).symm.trans z
        cases z'
        subst hb
        exact ⟨ha, by rw [List.length_map]; exact hl, vs, _, rv, ha⟩
      · have z' := (if_neg hb).symm.trans z
        cases z'
    · by_cases hb : b = a
      · exact hb
      · exact absurd (if_neg hb) z
end L2

namespace L2
open PySem PySem.Spec PyProof.Rows

noncomputable abbrev KOf {K : PySem.W.Frag} {h : Heap} (_ : K.In h) : PySem.W.Frag := K

theorem walk_of {l : PySem.W.OpenLaw} {n k : Nat} {q : Program} {loose : List Str} {XP : (Str → Option Value) → Heap → Prop} {YP : World → Heap → Prop} {d : DefRec} {K : Params → PySem.W.Frag} {CX : World → CXT} {sp : World → Sp} {x : Str}
    (hn : l.most = some n) (hn2 : n ≤ sizeLine) (hdf : d.params.defaults = []) (hr : Room k callerA)
    (hY : ∀ (w : World) (h : Heap), YP w h → (K w.params).In h)
    (F : ∀ (w : World) (mg : Str → Option Value) (fa : Addr) (h : Heap), (K w.params).In h → h.Ns mainGlobals mg → mg d.name = some (.ref fa) →
      ∃ fd : FuncData, (∀ (s : Shared) (u : Value), BindsTo s fd ⟨[u], []⟩ [(x, u)]) ∧
        ∀ base : Heap, (K w.params).In base → base.Ns mainGlobals mg → FnOk l.prog w (K w.params) mg base (CX w) k fa fd [x] (sp w))
    (hsp : ∀ (w : World) (H : Hp) (a : Addr) (ns : List Int), ns.length ≤ n → Only H → SqL (K w.params) H a (ns.map V.int) → sp w [.ref a] H (fun v _ => v = .bl true) fun _ _ _ => False)
    (hCX : ∀ (w : World) (H : Hp) (s : Shared) (e : Value) (s' : Shared), CX w [] H s (fun _ _ _ => False) e s' → False) :
    PySem.W.WalkO q loose XP YP l.row.toRowW d [] (fun f vs => PySem.call f vs) := by
  refine Att.attach_call hn hdf fun w s₀ s₁ mg mb fa o pm cd doc a vs ns G Y ho hd hcd hmg hobj hints hlen hg => ?_
  have KX := hY w _ Y
  obtain ⟨fd, hb, hF⟩ := F w mg fa _ KX G.T.g hmg
  exact law_call KX G.T.g G.T.b G.T.builtins G.T.nolimit hg hobj hints (Nat.le_trans hlen hn2) hr hF hb (fun H hO hS => hsp w H a ns hlen hO hS) fun H e s' => hCX w H s₁ e s'
end L2


namespace L2
open PySem PySem.Spec PyProof.Rows

noncomputable def defArgs (s : Stmt) : Arguments := match s with
  | .FunctionDef _ a _ _ _ _ _ _ _ _ => a
  | _ => { posonlyargs := [], args := [], vararg := none, kwonlyargs := [], kw_defaults := [], kwarg := none, defaults := [] }
noncomputable def defBody (s : Stmt) : List Stmt := match s with
  | .FunctionDef _ _ b _ _ _ _ _ _ _ => b
  | _ => []
noncomputable def defScope (s : Stmt) : Scope := match s with
  | .FunctionDef _ _ _ _ _ _ sc _ _ _ => sc
  | _ => { kind := .function, names := [], isGenerator := false, isCoroutine := false }

noncomputable abbrev CX0 : CXT := fun _ _ _ _ _ _ => False
noncomputable abbrev E0 : XK := fun _ _ _ => False
theorem pass0 {X : Cx} : Passes CX0 X E0 := fun _ _ _ _ _ _ _ h => h.elim

structure Fun (K : PySem.W.Frag) (x qual : Str) (st : Stmt) (f : Addr) (fd : FuncData) : Prop where
  ex : ∃ (oc : Value) (od : Option Addr) (kV doc pm : Value) (an : Option Addr) (cdv ct : Value) (osl : Array (Option Value)),
    fd = PySem.W.fnOf x qual (defArgs st) (defBody st) (defScope st) .none kV doc pm an cdv ct ∧ K.lookup f = some ⟨oc, od, .func fd, osl⟩ ∧ PySem.W.codeIn K cdv qual = true
  kp : PySem.W.keepIn K (.ref f) = true
section
variable {P : Program} {w : World} {K : PySem.W.Frag} {mg : Str → Option Value} {base : Heap}
theorem Fun.ok {x qual : Str} {st : Stmt} {f : Addr} {fd : FuncData} {N ps : List Str} {k : Nat} {sp : Sp} (F : Fun K x qual st f fd) (S : FnScope N ps (defScope st)) (len : ∀ vs H Q E, sp vs H Q E → vs.length = ps.length)
    (hbody : ∀ (cdv : Value) (A : Around) (outer : List Env) (s : Shared) (H : Hp) (vs : List V) (Q : VK) (E : XK), Room k (A.deeper (envOfC qual (defScope st) s.heap.objs.size f cdv)) → sp vs H Q E →
      ∃ t, PSs (cxOf CX0 P w K mg base N qual (defScope st) f cdv A outer s H E).nox (defBody st) t ∧ t { nx := fun _ H' => Q .non H', rt := Q } (start N vs) H) : FnOk P w K mg base CX0 (k + 1) f fd ps sp := by
  obtain ⟨oc, od, kV, doc, pm, an, cdv, ct, osl, rfl, lk, hcd⟩ := F.ex
  refine fn_of lk hcd S len fun A outer s H vs Q E hr hsp => ?_
  obtain ⟨t, h, q⟩ := hbody cdv A outer s H vs Q E hr hsp
  exact ⟨t, h.nox, q⟩
theorem Fun.binds {x qual : Str} {st : Stmt} {f : Addr} {fd : FuncData} {ps : List Str} (F : Fun K x qual st f fd)
    (h : ∀ (kV doc pm : Value) (an : Option Addr) (cdv ct : Value) (us : List Value), us.length = ps.length → bindArgs (PySem.W.fnOf x qual (defArgs st) (defBody st) (defScope st) .none kV doc pm an cdv ct) ⟨us, []⟩ = pure (ps.zip us)) : Binds K fd ps [] := by
  obtain ⟨oc, od, kV, doc, pm, an, cdv, ct, osl, rfl, lk, hcd⟩ := F.ex
  exact .all (h kV doc pm an cdv ct)
theorem fun_mk {x qual : Str} {st : Stmt} {f : Addr} {oc : Value} {od an : Option Addr} {osl : Array (Option Value)} {kV doc pm cdv ct : Value} (l : K.lookup f = some ⟨oc, od, .func (PySem.W.fnOf x qual (defArgs st) (defBody st) (defScope st) .none kV doc pm an cdv ct), osl⟩)
    (c : PySem.W.codeIn K cdv qual = true) (k : PySem.W.keepIn K (.ref f) = true) : Fun K x qual st f (PySem.W.fnOf x qual (defArgs st) (defBody st) (defScope st) .none kV doc pm an cdv ct) := ⟨⟨oc, od, kV, doc, pm, an, cdv, ct, osl, rfl, l, c⟩, k⟩
end
section
variable {X : Cx}
theorem pv (i : Nat) {x : Str} {pos : Pos} (hN : X.N[i]? = some x := by rfl) (hv : Vis X.env.scope x := by first | exact Or.inl rfl | exact Or.inr (Or.inl rfl) | exact Or.inr (Or.inr rfl)) (hd : (x == ("__debug__" : Str)) = false := by decide)
    (hcd : (x == ("__classdict__" : Str)) = false := by decide) : PE X (.Name x pos) (tVar i) := pe_var hN hv hd hcd
end

theorem iteF {A B : Prop} (h : B) : if false = true then A else B := by
  rw [if_neg Bool.false_ne_true]
  exact h
theorem ite2 {c A B : Prop} [Decidable c] (h1 : c → A) (h2 : ¬ c → B) : if c then A else B := by
  by_cases h : c
  · rw [if_pos h]
    exact h1 h
  · rw [if_neg h]
    exact h2 h
noncomputable def Same (H H' : Hp) : Prop := ∀ b o, H b = some o → H' b = some o
theorem Same.refl (H : Hp) : Same H H := fun _ _ h => h
theorem Same.trans {H H1 H2 : Hp} (a : Same H H1) (b : Same H1 H2) : Same H H2 := fun c o h => b c o (a c o h)
theorem Same.free {H H' : Hp} (e : Same H H') {l : Addr} (h : H' l = Option.none) : H l = Option.none := by
  cases q : H l with
  | none => rfl
  | some o =>
    rw [e l o q] at h
    cases h
end L2

set_option Elab.async false
set_option linter.all false
set_option maxRecDepth 100000
set_option maxHeartbeats 4000000
namespace L2
open PySem PySem.Spec PyProof.Rows

noncomputable def Bt (n : Nat) (x : Int) : Prop := x.natAbs < 2 ^ n
theorem Bt.mono {m n : Nat} {x : Int} (h : Bt m x) (hn : m ≤ n) : Bt n x := Nat.lt_of_lt_of_le h (Nat.pow_le_pow_right (by decide) hn)
theorem Bt.mul {m n : Nat} {x y : Int} (h : Bt m x) (k : Bt n y) : Bt (m + n) (x * y) := by
  unfold Bt at *
  rw [Int.natAbs_mul, Nat.pow_add]
  exact Nat.mul_lt_mul'' h k
theorem Bt.neg {m : Nat} {x : Int} (h : Bt m x) : Bt m (-x) := by
  unfold Bt at *
  rw [Int.natAbs_neg]
  exact h
theorem Bt.add {m n : Nat} {x y : Int} (h : Bt m x) (k : Bt n y) : Bt (m + n + 1) (x + y) := by
  unfold Bt at *
  have h1 : 2 ^ m ≤ 2 ^ (m + n) := Nat.pow_le_pow_right (by decide) (by omega)
  have h2 : 2 ^ n ≤ 2 ^ (m + n) := Nat.pow_le_pow_right (by decide) (by omega)
  have h3 : 2 ^ (m + n + 1) = 2 * 2 ^ (m + n) := by rw [Nat.pow_succ]; omega
  have h4 := Int.natAbs_add_le x y
  omega
theorem Bt.add' {m : Nat} {x y : Int} (h : Bt m x) (k : Bt m y) : Bt (m + 1) (x + y) := by
  unfold Bt at *
  have h3 : 2 ^ (m + 1) = 2 * 2 ^ m := by rw [Nat.pow_succ]; omega
  have h4 := Int.natAbs_add_le x y
  omega
theorem Bt.sub' {m : Nat} {x y : Int} (h : Bt m x) (k : Bt m y) : Bt (m + 1) (x - y) := by
  rw [Int.sub_eq_add_neg]
  exact h.add' k.neg
theorem Bt.sub {m n : Nat} {x y : Int} (h : Bt m x) (k : Bt n y) : Bt (m + n + 1) (x - y) := by
  rw [Int.sub_eq_add_neg]
  exact h.add k.neg
theorem Bt.of_le {m : Nat} {x y : Int} (h : Bt m x) (k : y.natAbs ≤ x.natAbs) : Bt m y := Nat.lt_of_le_of_lt k h
theorem Bt.of_lt {m : Nat} {x : Int} (h1 : -(2 ^ m) < x) (h2 : x < 2 ^ m) : Bt m x := by
  unfold Bt
  have e : ((2 ^ m : Nat) : Int) = 2 ^ m := by simp
  omega
theorem Bt.bits {m : Nat} {x : Int} (h : Bt m x) : Builtin.Int.intBits x ≤ m := by
  unfold Builtin.Int.intBits
  split
  · exact Nat.zero_le _
  · rename_i hx
    have hp : x.natAbs ≠ 0 := by
      intro e
      apply hx
      have : x = 0 := by omega
      subst this
      rfl
    have := (Nat.log2_lt hp).mpr h
    omega
theorem Bt.mulOk {m n : Nat} {x y : Int} (h : Bt m x) (k : Bt n y) (hmn : m + n ≤ 100000000 := by decide) : IntMulOk x y := by
  have h1 := h.bits
  have h2 := k.bits
  have h3 : Builtin.Int.intTooBig (Builtin.Int.intBits x + Builtin.Int.intBits y) = false := by
    unfold Builtin.Int.intTooBig bitsLine
    exact decide_eq_false (by omega)
  unfold IntMulOk
  rw [h3]
  simp
theorem mulOk_left {x y : Int} (h1 : -(2 ^ 64) < x) (h2 : x < 2 ^ 64) : IntMulOk x y := .of_left (intBits_le_64 h1 h2)
noncomputable def DivOk (_ j : Int) : Prop := j ≠ 0 ∧ j.natAbs.log2 < 9000
theorem DivOk.of {i j : Int} {n : Nat} (h0 : j ≠ 0) (h : Bt n j) (hn : n ≤ 9000 := by decide) : DivOk i j := by
  refine ⟨h0, ?_⟩
  have hp : j.natAbs ≠ 0 := by omega
  have := (Nat.log2_lt hp).mpr h
  omega
section
variable {X : Cx}
theorem op_mulG : OpR X (binaryOp .Mult) (rI IntMulOk fun i j => .int (i * j)) := opI fun _ _ _ _ _ _ _ hc q => mul_int q hc
theorem op_fdivG : OpR X (binaryOp .FloorDiv) (rI DivOk fun i j => .int (i.fdiv j)) := opI fun _ _ _ _ _ _ _ hc q => floordiv_int hc.1 q (.inl (PyProof.noPylong_of_log2 hc.2))
theorem op_powG : OpR X (binaryOp .Pow) (rI CPow fun i j => .int (i ^ j.toNat)) := op_pow
end

theorem compTurn_list' (elt target iter : Expr) (ifs : List Expr) (scope : Scope) (pos : Pos) (it acc : Value) (env : Env) :
    compTurn (.ListComp elt [⟨target, iter, ifs, 0⟩] scope pos) 0 it acc env = (standAt iter.pos >>= fun _ => pyNext it >>= fun r => match r with
      | none => pure (.done .next)
      | some v => letOwnedTupleGo target it v >>= fun _ => assign target env v >>= fun _ =>
        (forIn ifs true fun c r => if r = true then do let ok ← isTrue c env (eval c env); pure (ForInStep.yield ok) else pure (ForInStep.yield r)) >>= fun ok =>
          if ok = true then ((eval elt env >>= fun x => call (.builtin "list.append") [acc, x] >>= fun _ => pure ()) >>= fun _ =>
            again (.compLoop (.ListComp elt [⟨target, iter, ifs, 0⟩] scope pos) 0 it acc env))
          else again (.compLoop (.ListComp elt [⟨target, iter, ifs, 0⟩] scope pos) 0 it acc env)) := by rfl
end L2

set_option Elab.async false
set_option linter.all false
set_option maxRecDepth 100000
set_option maxHeartbeats 4000000
namespace L2
open PySem PySem.Spec PyProof.Rows

theorem compLoop_any {prog : Program} {w : World} {A : Around} {R : Result → Shared → Prop} {s : Shared} {elt target iter : Expr} {ifs : List Expr} {scope : Scope} {pos : Pos} {it acc : Value} {env : Env} (I : Nat → Shared → Prop)
    (turn : ∀ n s, I n s → wpAny (model prog w) A (pyNext it) (fun r s₁ => match r with
      | none => R (.ok .next) s₁
      | some v => wpAny (model prog w) A (letOwnedTupleGo target it v) (fun _ s₁ => wpAny (model prog w) A (assign target env v) (fun _ s₂ =>
          wpAny (model prog w) A (forIn ifs true fun c r => if r = true then do let ok ← isTrue c env (eval c env); pure (ForInStep.yield ok) else pure (ForInStep.yield r)) (fun ok s₃ =>
            if ok = true then wpAny (model prog w) A (eval elt env) (fun x s₄ =>
              wpAny (model prog w) A (call (.builtin "list.append") [acc, x]) (fun _ s₅ => ∃ m, m < n ∧ I m s₅) (notedBy (model prog w) A env fun e s' => R (.error e) s') s₄) (notedBy (model prog w) A env fun e s' => R (.error e) s') s₃
            else ∃ m, m < n ∧ I m s₃) (notedBy (model prog w) A env fun e s' => R (.error e) s') s₂) (notedBy (model prog w) A env fun e s' => R (.error e) s') s₁) (notedBy (model prog w) A env fun e s' => R (.error e) s') s₁) (notedBy (model prog w) A env fun e s' => R (.error e) s') s)
    (n : Nat) (h : I n s) :
    codeAny (model prog w) A (.compLoop (.ListComp elt [⟨target, iter, ifs, 0⟩] scope pos) 0 it acc env) R s := by
  refine codeAny_loop rfl I (fun n s hI => ?_) n h
  show wpAny _ A ((compTurn (.ListComp elt [⟨target, iter, ifs, 0⟩] scope pos) 0 it acc env).onRaise (fun x => do noteFrame x env; theTreesLotGoes x)) _ _ s
  refine wpAny_noted ?_
  rw [compTurn_list']
  refine wpAny_bind (wpAny_standAt (wpAny_bind (wpAny_mono (turn n s hI) (fun r s₁ h₁ => ?_) fun _ _ h' => h')))
  cases r with
  | none => exact wpAny_pure h₁
  | some v =>
    refine wpAny_bind (wpAny_mono h₁ (fun _ s₂ h₂ => ?_) fun _ _ h' => h')
    refine wpAny_bind (wpAny_mono h₂ (fun _ s₂ h₂ => wpAny_bind (wpAny_mono h₂ (fun ok s₃ h₃ => ?_) fun _ _ h' => h')) fun _ _ h' => h')
    cases ok with
    | false => exact wpAny_pure ⟨rfl, h₃⟩
    | true =>
      exact wpAny_bind (wpAny_bind (wpAny_mono h₃ (fun x s₄ h₄ => wpAny_bind (wpAny_mono h₄ (fun _ s₅ h₅ => wpAny_pure (wpAny_pure ⟨rfl, h₅⟩)) fun _ _ h' => h')) fun _ _ h' => h'))

noncomputable def clOf (env : Env) : List (Str × NameKind) → List (Str × Addr) → List (Str × Addr)
  | [], acc => acc
  | (n, k) :: r, acc => if k == .free then clOf env r ((n, (env.cells.lookup n).getD 0) :: acc) else clOf env r acc
theorem forIn_cl {env : Env} : ∀ (names : List (Str × NameKind)) (acc : List (Str × Addr)), (∀ y ∈ names, y.2 = .free → ∃ c, env.cells.lookup y.1 = some c) →
    (forIn names acc (fun (y : Str × NameKind) cs => (if y.2 == .free then (cellOf env y.1 >>= fun c => pure (ForInStep.yield ((y.1, c) :: cs))) else pure (ForInStep.yield cs) : Sem (ForInStep (List (Str × Addr)))))) = pure (clOf env names acc)
  | [], acc, _ => by rw [List.forIn_nil]; rfl
  | (n, k) :: r, acc, h => by
    by_cases hk : k = .free
    · subst hk
      obtain ⟨c, hc⟩ := h (n, .free) (.head _) rfl
      have hc' : env.cells.lookup n = some c := hc
      have e := forIn_cl (env := env) r ((n, c) :: acc) fun y hy => h y (.tail _ hy)
      have ec : cellOf env n = pure c := by
        unfold cellOf
        rw [hc']
      rw [List.forIn_cons]
      simp only [beq_self_eq_true, if_true]
      rw [ec]
      simp only [clOf, beq_self_eq_true, if_true, hc', Option.getD_some]
      exact e
    · have e := forIn_cl (env := env) r acc fun y hy => h y (.tail _ hy)
      have hb : (k == NameKind.free) = false := by simpa using hk
      rw [List.forIn_cons]
      simp only [clOf, hb, Bool.false_eq_true, if_false]
      exact e
theorem closureFor_all {scope : Scope} {env : Env} (h : ∀ y ∈ scope.names, y.2 = .free → ∃ c, env.cells.lookup y.1 = some c) : closureFor scope env = pure (clOf env scope.names []) := by
  have e := forIn_cl scope.names [] h
  have e' : (forIn scope.names ([] : List (Str × Addr)) (fun (y : Str × NameKind) cs => (match y with | (name, kind) => do
      if kind == .free then do let a ← cellOf env name; pure (ForInStep.yield ((name, a) :: cs)) else pure (ForInStep.yield cs) : Sem (ForInStep (List (Str × Addr)))))) = pure (clOf env scope.names []) := e
  exact congrArg (fun (m : Sem (List (Str × Addr))) => m >>= fun x => pure x) e'
theorem clOf_mem {env : Env} : ∀ (names : List (Str × NameKind)) (acc : List (Str × Addr)), (∀ y ∈ names, y.2 = .free → ∃ c, env.cells.lookup y.1 = some c) →
    ∀ n c, (n, c) ∈ clOf env names acc → (n, c) ∈ acc ∨ ((n, NameKind.free) ∈ names ∧ env.cells.lookup n = some c)
  | [], acc, _, n, c, h => .inl h
  | (m, k) :: r, acc, h, n, c, hm => by
    by_cases hk : k = .free
    · subst hk
      obtain ⟨d, hd⟩ := h (m, .free) (.head _) rfl
      have hd' : env.cells.lookup m = some d := hd
      simp only [clOf, beq_self_eq_true, if_true, hd', Option.getD_some] at hm
      rcases clOf_mem r _ (fun y hy => h y (.tail _ hy)) n c hm with z | ⟨z1, z2⟩
      · rcases List.mem_cons.mp z with z | z
        · cases z; exact .inr ⟨.head _, hd'⟩
        · exact .inl z
      · exact .inr ⟨.tail _ z1, z2⟩
    · have hb : (k == NameKind.free) = false := by simpa using hk
      simp only [clOf, hb, Bool.false_eq_true, if_false] at hm
      exact (clOf_mem r _ (fun y hy => h y (.tail _ hy)) n c hm).imp id fun ⟨z1, z2⟩ => ⟨.tail _ z1, z2⟩
theorem clOf_old {env : Env} : ∀ (names : List (Str × NameKind)) (acc : List (Str × Addr)), ∀ p ∈ acc, p ∈ clOf env names acc
  | [], _, _, h => h
  | (m, k) :: r, acc, p, h => by
    unfold clOf
    split
    · exact clOf_old r _ p (.tail _ h)
    · exact clOf_old r _ p h
theorem clOf_has {env : Env} : ∀ (names : List (Str × NameKind)) (acc : List (Str × Addr)) (n : Str), (n, NameKind.free) ∈ names → ∃ c, (n, c) ∈ clOf env names acc
  | [], _, _, h => nomatch h
  | (m, k) :: r, acc, n, h => by
    rcases List.mem_cons.mp h with z | z
    · cases z
      exact ⟨_, by
        simp only [clOf, beq_self_eq_true, if_true]
        exact clOf_old _ _ _ (.head _)⟩
    · unfold clOf
      split
      · exact clOf_has r _ n z
      · exact clOf_has r _ n z
theorem clOf_apart {env : Env} (inj : ∀ x y c, env.cells.lookup x = some c → env.cells.lookup y = some c → x = y) : ∀ (names : List (Str × NameKind)) (acc : List (Str × Addr)),
    (∀ y ∈ names, y.2 = .free → ∃ c, env.cells.lookup y.1 = some c) → (names.map (·.1)).Nodup → (∀ p ∈ acc, env.cells.lookup p.1 = some p.2) → (∀ p ∈ acc, p.1 ∉ names.map (·.1)) → (acc.Pairwise fun x y => x.2 ≠ y.2) →
    (clOf env names acc).Pairwise fun x y => x.2 ≠ y.2
  | [], _, _, _, _, _, h => h
  | (m, k) :: r, acc, hf, hn, ha, hd, hp => by
    rw [List.map_cons, List.nodup_cons] at hn
    have hf' : ∀ y ∈ r, y.2 = .free → ∃ c, env.cells.lookup y.1 = some c := fun y hy => hf y (.tail _ hy)
    have hd' : ∀ p ∈ acc, p.1 ∉ r.map (·.1) := fun p hp z => hd p hp (by rw [List.map_cons]; exact .tail _ z)
    by_cases hk : k = .free
    · subst hk
      obtain ⟨d, hd0⟩ := hf (m, .free) (.head _) rfl
      have hd1 : env.cells.lookup m = some d := hd0
      simp only [clOf, beq_self_eq_true, if_true, hd1, Option.getD_some]
      refine clOf_apart inj r _ hf' hn.2 (fun p hp' => ?_) (fun p hp' => ?_) (List.pairwise_cons.mpr ⟨fun p hp' z => ?_, hp⟩)
      · rcases List.mem_cons.mp hp' with rfl | hp'
        · exact hd1
        · exact ha p hp'
      · rcases List.mem_cons.mp hp' with rfl | hp'
        · exact hn.1
        · exact hd' p hp'
      · have e : m = p.1 := inj m p.1 d hd1 (by rw [ha p hp', ← z])
        exact hd p hp' (by rw [List.map_cons, ← e]; exact .head _)
    · have hb : (k == NameKind.free) = false := by simpa using hk
      simp only [clOf, hb, Bool.false_eq_true, if_false]
      exact clOf_apart inj r _ hf' hn.2 ha hd' hp
structure BlockCells (h : Heap) (lo : Nat) (names : List (Str × NameKind)) (acc cs : List (Str × Addr)) : Prop where
  mem : ∀ n c, (n, c) ∈ cs → (n, c) ∈ acc ∨ (h.IsCell c none ∧ lo ≤ c ∧ (n, NameKind.cell) ∈ names)
  has : ∀ n, (n, NameKind.cell) ∈ names → ∃ c, (n, c) ∈ cs
  old : ∀ p ∈ acc, p ∈ cs
theorem blockCells : ∀ (names : List (Str × NameKind)) (h : Heap) (lo : Nat) (acc : List (Str × Addr)), lo ≤ h.objs.size → BlockCells (pushCells h names) lo names acc (cellsFrom h.objs.size names acc)
  | [], _, _, _, _ => ⟨fun _ _ m => .inl m, (fun _ m => nomatch m), fun _ m => m⟩
  | (name, kind) :: r, h, lo, acc, hlo => by
    by_cases hk : (kind == NameKind.cell) = true
    · have ek : kind = .cell := by simpa using hk
      subst ek
      have ih := blockCells r (h.push { cls := .type "cell", data := .cell none }) lo ((name, h.objs.size) :: acc) (by rw [Heap.size_push]; omega)
      rw [Heap.size_push] at ih
      have e1 : cellsFrom h.objs.size ((name, .cell) :: r) acc = cellsFrom (h.objs.size + 1) r ((name, h.objs.size) :: acc) := by
        rw [cellsFrom, if_pos hk]
      have e2 : pushCells h ((name, .cell) :: r) = pushCells (h.push { cls := .type "cell", data := .cell none }) r := by
        rw [pushCells, if_pos hk]
      rw [e1, e2]
      refine ⟨fun n c m => ?_, fun n m => ?_, fun p m => ih.old p (.tail _ m)⟩
      · rcases ih.mem n c m with z | ⟨z1, z2, z3⟩
        · rcases List.mem_cons.mp z with z | z
          · cases z
            exact .inr ⟨⟨_, pushCells_keeps _ _ _ _ (Heap.get?_push_size _ rfl), rfl⟩, hlo, .head _⟩
          · exact .inl z
        · exact .inr ⟨z1, z2, .tail _ z3⟩
      · rcases List.mem_cons.mp m with z | z
        · cases z
          exact ⟨_, ih.old _ (.head _)⟩
        · exact ih.has n z
    · have ih := blockCells r h lo acc hlo
      have e1 : cellsFrom h.objs.size ((name, kind) :: r) acc = cellsFrom h.objs.size r acc := by
        rw [cellsFrom, if_neg hk]
      have e2 : pushCells h ((name, kind) :: r) = pushCells h r := by
        rw [pushCells, if_neg hk]
      rw [e1, e2]
      refine ⟨fun n c m => (ih.mem n c m).imp id fun ⟨z1, z2, z3⟩ => ⟨z1, z2, .tail _ z3⟩, fun n m => ?_, ih.old⟩
      rcases List.mem_cons.mp m with z | z
      · cases z
        exact absurd rfl hk
      · exact ih.has n z
theorem cellsFrom_apart (names : List (Str × NameKind)) : ∀ (h : Heap) (acc : List (Str × Addr)), (acc.Pairwise fun x y => x.2 ≠ y.2) → (∀ p ∈ acc, p.2 < h.objs.size) → (cellsFrom h.objs.size names acc).Pairwise fun x y => x.2 ≠ y.2 := by
  induction names with
  | nil => intro h acc ha _; exact ha
  | cons y r ih =>
    intro h acc ha hb
    obtain ⟨name, kind⟩ := y
    unfold cellsFrom
    split
    · have := ih (h.push { cls := .type "cell", data := .cell none }) ((name, h.objs.size) :: acc) (List.pairwise_cons.mpr ⟨fun p hp => Nat.ne_of_gt (hb p hp), ha⟩) (fun p hp => by
        rw [Heap.size_push]
        rcases List.mem_cons.mp hp with rfl | hp
        · exact Nat.lt_succ_self _
        · exact Nat.lt_succ_of_lt (hb p hp))
      rwa [Heap.size_push] at this
    · exact ih h acc ha hb
theorem wpAny_blockEnv {M : Model} {A : Around} {E : Value → Shared → Prop} {s : Shared} {scope : Scope} {globals : Addr} {cl : List (Str × Addr)} {qual : Str} {env : Env} {Q : Env → Shared → Prop}
    (hQ : Q (newEnv scope s.heap.objs.size globals (cellsFrom (s.heap.objs.size + 1) scope.names cl) qual none .none (some env) builtinsNs)
      { s with heap := pushCells (s.heap.push { cls := .type "dict", data := .dict #[] }) scope.names }) :
    wpAny M A (newFunctionEnv scope globals cl [] qual none .none (some env)) Q E s := by
  simp only [newFunctionEnv, Option.isSome_some, if_true]
  refine wpAny_bind (wpAny_alloc ?_)
  refine wpAny_bind (wpAny_layCells _ (fun name kind cells => by cases hkc : kind == NameKind.cell <;> simp [hkc]) _ _ _ _ ?_)
  rw [show ({ s with heap := s.heap.push { cls := .type "dict", data := .dict #[] } } : Shared).heap.objs.size = s.heap.objs.size + 1 from Heap.size_push ..]
  rw [List.forIn_nil]
  exact wpAny_bind (wpAny_pure (wpAny_pure hQ))
end L2

set_option Elab.async false
set_option linter.all false
set_option maxRecDepth 100000
set_option maxHeartbeats 4000000
namespace L2
open PySem PySem.Spec PyProof.Rows

noncomputable def compCx (X : Cx) (N' : List Str) (sc : Scope) (C : Addr) (cells : List (Str × Addr)) (s₂ : Shared) (H₂ : Hp) (fp : List Addr) : Cx :=
  { X with N := N', s₀ := s₂, H₀ := H₂, env := compEnvC sc cells C X.env, outer := X.stack, stack := X.stack, ex := fp, fn := fun x => sc.names.lookup x == some .cell, pn := [], xe := fun _ _ => False }

theorem lookup_relabel {env : Env} : ∀ {names : List (Str × NameKind)} {x : Str} {k : NameKind}, names.lookup x = some k →
    (names.map fun (n, k) => if (k == NameKind.free && env.scope.kind == .function && env.kindOf n == some .cell) then (n, NameKind.cell) else (n, k)).lookup x =
      some (if (k == NameKind.free && env.scope.kind == .function && env.kindOf x == some .cell) then NameKind.cell else k)
  | [], _, _, h => by simp at h
  | (n, k') :: r, x, k, h => by
    have ih := @lookup_relabel env r x k
    show List.lookup x ((if (k' == NameKind.free && env.scope.kind == .function && env.kindOf n == some .cell) = true then (n, NameKind.cell) else (n, k')) :: _) = _
    cases hx : x == n with
    | true =>
      simp only [List.lookup_cons, hx] at h
      cases h
      have e := beq_iff_eq.mp hx
      subst e
      split <;> simp [List.lookup_cons]
    | false =>
      simp only [List.lookup_cons, hx] at h
      split
      · simp only [List.lookup_cons, hx]; exact ih h
      · simp only [List.lookup_cons, hx]; exact ih h
theorem relabel_none {env : Env} : ∀ {names : List (Str × NameKind)} {x : Str}, names.lookup x = none →
    (names.map fun (n, k) => if (k == NameKind.free && env.scope.kind == .function && env.kindOf n == some .cell) then (n, NameKind.cell) else (n, k)).lookup x = none
  | [], _, _ => rfl
  | (n, k') :: r, x, h => by
    have ih := @relabel_none env r x
    show List.lookup x ((if (k' == NameKind.free && env.scope.kind == .function && env.kindOf n == some .cell) = true then (n, NameKind.cell) else (n, k')) :: _) = _
    cases hx : x == n with
    | true =>
      simp only [List.lookup_cons, hx] at h
      cases h
    | false =>
      simp only [List.lookup_cons, hx] at h
      split
      · simp only [List.lookup_cons, hx]; exact ih h
      · simp only [List.lookup_cons, hx]; exact ih h
theorem lookup_of_mem {α : Type} : ∀ {l : List (Str × α)} {n : Str} {c : α}, (l.map (·.1)).Nodup → (n, c) ∈ l → l.lookup n = some c
  | (k, v) :: r, n, c, hd, h => by
    rw [List.map_cons, List.nodup_cons] at hd
    rcases List.mem_cons.mp h with e | hr
    · cases e
      simp [List.lookup_cons]
    · have hne : (n == k) = false := by
        refine Bool.eq_false_iff.mpr fun z => hd.1 ?_
        have e : n = k := beq_iff_eq.mp z
        rw [← e]
        exact List.mem_map.mpr ⟨(n, c), hr, rfl⟩
      rw [List.lookup_cons, hne]
      exact lookup_of_mem hd.2 hr
theorem lookup_some_of_mem {α : Type} : ∀ {l : List (Str × α)} {n : Str} {c : α}, (n, c) ∈ l → ∃ d, l.lookup n = some d ∧ (n, d) ∈ l
  | (k, v) :: r, n, c, h => by
    by_cases e : n = k
    · subst e
      exact ⟨v, by simp [List.lookup_cons], List.mem_cons_self⟩
    · have hne : (n == k) = false := by simpa using e
      rcases List.mem_cons.mp h with z | z
      · cases z; exact absurd rfl e
      · obtain ⟨d, h1, h2⟩ := lookup_some_of_mem z
        exact ⟨d, by rw [List.lookup_cons, hne]; exact h1, .tail _ h2⟩

structure CompScope (X : Cx) (own : List Str) (caps : List Nat) (N' : List Str) (sc : Scope) : Prop where
  kind : sc.kind = .function
  nd : N'.Nodup
  names : N' = own ++ caps.map fun i => X.N.getD i Str.empty
  nn : (sc.names.map (·.1)).Nodup
  free : (sc.names.all fun y => y.2 != .free || (X.env.kindOf y.1 == some .cell || X.env.kindOf y.1 == some .free)) = true
  caps : (caps.all fun i => sc.names.lookup (X.N.getD i Str.empty) == some .free) = true
noncomputable def start' (own : List Str) (caps : List Nat) (σ : St) : St := own.map (fun _ => none) ++ caps.map fun i => (σ[i]?).getD none

section
variable {X : Cx} {own : List Str} {caps : List Nat} {N' : List Str} {sc : Scope}
theorem CompScope.lk (S : CompScope X own caps N' sc) {n : Str} {k : NameKind} (h : (n, k) ∈ sc.names) : sc.names.lookup n = some k := lookup_of_mem S.nn h
theorem CompScope.fr (S : CompScope X own caps N' sc) {n : Str} (h : (n, NameKind.free) ∈ sc.names) : X.env.kindOf n = some .cell ∨ X.env.kindOf n = some .free := by
  have := List.all_eq_true.mp S.free _ h
  simpa using this
theorem comp_start {pins : List (Addr × Obj)} {σ : St} {H : Hp} {s : Shared} {fp : List Addr} {cl : List (Str × Addr)} (S : CompScope X own caps N' sc) (I : Inv X pins σ H s)
    (f : ∀ b ∈ fp, FpOk X pins H b) (fo : ∀ b ∈ fp, ∃ o, s.heap.get? b = some o)
    (hcl : ∀ n c, (n, c) ∈ cl → (n, NameKind.free) ∈ sc.names ∧ X.env.cells.lookup n = some c) (hcl2 : ∀ n, (n, NameKind.free) ∈ sc.names → ∃ c, (n, c) ∈ cl) (hapart : cl.Pairwise fun x y => x.2 ≠ y.2) :
    Inv (compCx X N' sc (s.heap.objs.size + 1) (cellsFrom (s.heap.objs.size + 2) sc.names cl) s H fp) [] (start' own caps σ) (upd H s.heap.objs.size (.lst []))
      { s with heap := pushCells ((s.heap.push { cls := .type "list", data := .seq #[] }).push { cls := .type "dict", data := .dict #[] }) sc.names } := by
  generalize hh1 : s.heap.push { cls := .type "list", data := .seq #[] } = h1
  have z1 : h1.objs.size = s.heap.objs.size + 1 := by rw [← hh1, Heap.size_push]
  generalize hh2 : h1.push { cls := .type "dict", data := .dict #[] } = h2
  have z2 : h2.objs.size = s.heap.objs.size + 2 := by rw [← hh2, Heap.size_push, z1]
  have BC := blockCells sc.names h2 (s.heap.objs.size + 2) cl (by omega)
  have AP := cellsFrom_apart sc.names h2 cl hapart (fun p hp => by
    obtain ⟨v, hv⟩ := I.cell p.1 p.2 (hcl p.1 p.2 hp).2
    exact Nat.lt_of_lt_of_le hv.lt (by omega))
  rw [z2] at BC AP
  have keep : ∀ b o, s.heap.get? b = some o → (pushCells h2 sc.names).get? b = some o := fun b o e => pushCells_keeps _ _ _ _ (by
    rw [← hh2]
    refine Heap.get?_push_of_some _ ?_
    rw [← hh1]
    exact Heap.get?_push_of_some _ e)
  have hD : (pushCells h2 sc.names).get? s.heap.objs.size = some { cls := .type "list", data := .seq #[] } := pushCells_keeps _ _ _ _ (by
    rw [← hh2]
    refine Heap.get?_push_of_some _ ?_
    rw [← hh1]
    exact Heap.get?_push_size _ rfl)
  have hC : (pushCells h2 sc.names).Ns (s.heap.objs.size + 1) (fun _ => none) := by
    refine Heap.Ns.keeps ?_ (pushCells_keeps _ _)
    have := Heap.Ns.new h1 (.type "dict")
    rw [hh2, z1] at this
    exact this
  have cellOld : ∀ n c, X.env.cells.lookup n = some c → c < s.heap.objs.size := fun n c e => by
    obtain ⟨v, hv⟩ := I.cell n c e
    exact hv.lt
  have lk' : ∀ n c, (cellsFrom (s.heap.objs.size + 2) sc.names cl).lookup n = some c → (n, c) ∈ cellsFrom (s.heap.objs.size + 2) sc.names cl := fun n c e => PySem.mem_of_lookup e
  have hnD : H s.heap.objs.size = none := I.fresh
  have fresh : ∀ c, s.heap.objs.size < c → upd H s.heap.objs.size (.lst []) c = none := fun c hc => by
    rw [upd_ne (Nat.ne_of_gt hc)]
    exact I.hok.fresh (Nat.le_of_lt hc)
  have isc : ∀ n c, (n, c) ∈ cellsFrom (s.heap.objs.size + 2) sc.names cl → ∃ v, (pushCells h2 sc.names).IsCell c v := fun n c m => by
    rcases BC.mem n c m with z | ⟨z, _⟩
    · obtain ⟨v, hv⟩ := I.cell n c (hcl n c z).2
      exact ⟨v, hv.keeps keep⟩
    · exact ⟨none, z⟩
  have okH : HOk X.prog X.w (upd H s.heap.objs.size (.lst [])) (pushCells h2 sc.names) := by
    refine I.hok.laid keep (Nat.le_refl _) ?_
    exact ⟨Nat.zero_le _, [], 0, .nil, hD⟩
  have kinds : ∀ x k, sc.names.lookup x = some k → (relabel sc X.env).names.lookup x = some (if (k == NameKind.free && X.env.scope.kind == .function && X.env.kindOf x == some .cell) then NameKind.cell else k) := fun x k e => lookup_relabel e
  have kindsR : ∀ x k, (relabel sc X.env).names.lookup x = some k → ∃ k', (x, k') ∈ sc.names ∧ k = (if (k' == NameKind.free && X.env.scope.kind == .function && X.env.kindOf x == some .cell) then NameKind.cell else k') := fun x k e => by
    cases q : sc.names.lookup x with
    | none =>
      have := relabel_none (env := X.env) q
      rw [show (relabel sc X.env).names.lookup x = _ from this] at e
      cases e
    | some k' =>
      refine ⟨k', PySem.mem_of_lookup q, ?_⟩
      rw [kinds x k' q] at e
      exact (Option.some.inj e).symm
  refine ⟨⟨I.ok.mod, S.kind, I.ok.glob, I.ok.blt, ?_, ?_, ?_, ?_, I.ok.hd, I.ok.frames, .inl rfl, ?_, ?_, ?_, ?_, ?_, ?_, ?_⟩, rfl, I.bare, ?_, ?_, ?_, ?_, ?_, (fun p hp => nomatch hp), okH, ?_⟩
  · show s.heap.objs.size ≤ s.heap.objs.size + 1; omega
  · intro x y c e1 e2
    exact name_of_addr AP (lk' x c e1) (lk' y c e2)
  · intro x hx
    rcases hx with hx | hx
    · obtain ⟨k', hm, hk'⟩ := kindsR x _ hx
      cases k' with
      | cell =>
        obtain ⟨c, hc⟩ := BC.has x hm
        obtain ⟨d, h1, _⟩ := lookup_some_of_mem hc
        exact ⟨d, h1⟩
      | free =>
        obtain ⟨c, hc⟩ := hcl2 _ hm
        obtain ⟨d, h1, _⟩ := lookup_some_of_mem (BC.old _ hc)
        exact ⟨d, h1⟩
      | _ => simp at hk'
    · obtain ⟨k', hm, hk'⟩ := kindsR x _ hx
      cases k' with
      | free =>
        obtain ⟨c, hc⟩ := hcl2 _ hm
        obtain ⟨d, h1, _⟩ := lookup_some_of_mem (BC.old _ hc)
        exact ⟨d, h1⟩
      | _ => simp at hk'
  · intro x c hf e
    have hf' : sc.names.lookup x = some .cell := by simpa [compCx] using hf
    rcases BC.mem x c (lk' x c e) with z | ⟨_, z, _⟩
    · -- a free one and a cell at once: the name stands once
      exfalso
      have q := S.lk (hcl x c z).1
      rw [hf'] at q
      cases q
    · show s.heap.objs.size ≤ c; omega
  · intro b hb
    obtain ⟨o, ho⟩ := fo b hb
    have hlt := Heap.lt_size ho
    refine ⟨Nat.ne_of_lt (Nat.lt_trans hlt (Nat.lt_succ_self _)), fun x c e z => ?_⟩
    rcases BC.mem x c (lk' x c e) with q | ⟨_, q, _⟩
    · exact (f b hb).2.2.2.2.1 x c (hcl x c q).2 z
    · subst z
      exact absurd hlt (Nat.not_lt.mpr (Nat.le_trans (Nat.le_add_right _ 2) q))
  · exact I.bs
  · exact Nat.le_trans I.ok.bsz I.sz
  · intro b o e hb
    rcases (f b hb).2.2.2.1 with z | z
    · exact I.ok.noex b o e z
    · exact absurd (Nat.lt_of_lt_of_le (Heap.lt_size e) I.ok.bsz) (Nat.not_lt.mpr z)
  · intro b hb z
    rcases List.mem_cons.mp (I.stkSub b z) with q | q
    · exact (f b hb).2.1 q
    · exact (f b hb).2.2.1 q
  · exact I.stack
  · exact I.stkFree
  · exact Un.laid keep (Nat.le_refl _) hnD
  · refine ⟨_, hC, fun i x v e1 e2 e3 => ?_⟩
    have e1' : (own ++ caps.map fun i => X.N.getD i Str.empty)[i]? = some x := by rw [← S.names]; exact e1
    have e2' : (own.map (fun _ => (none : Option V)) ++ caps.map fun i => (σ[i]?).getD none)[i]? = some (some v) := e2
    by_cases hi : i < own.length
    · rw [List.getElem?_append_left (by simpa using hi), List.getElem?_map] at e2'
      cases q : own[i]? with
      | none => rw [q] at e2'; cases e2'
      | some y => rw [q] at e2'; cases e2'
    · rw [List.getElem?_append_right (by simpa using hi), List.getElem?_map] at e2'
      rw [List.getElem?_append_right (by omega), List.getElem?_map] at e1'
      rw [List.length_map] at e2'
      cases q : caps[i - own.length]? with
      | none => rw [q] at e2'; cases e2'
      | some j =>
        rw [q] at e1' e2'
        have e1 : X.N.getD j Str.empty = x := Option.some.inj e1'
        have e2 : (σ[j]?).getD none = some v := Option.some.inj e2'
        have e4 : σ[j]? = some (some v) := by
          cases r : σ[j]? with
          | none => rw [r] at e2; cases e2
          | some o => rw [r] at e2; exact congrArg some e2
        have hj : j < X.N.length := by rw [← I.len]; exact (List.getElem?_eq_some_iff.mp e4).1
        have e5 : X.N[j]? = some x := by rw [← e1]; simp [List.getD_eq_getElem?_getD, hj]
        have hc := List.all_eq_true.mp S.caps j (List.mem_of_getElem? q)
        have e6 : sc.names.lookup x = some .free := by rw [← e1]; simpa using hc
        have hm := PySem.mem_of_lookup e6
        have kx := S.fr hm
        obtain ⟨m, hn, hl⟩ := I.loc
        obtain ⟨u, ru, lo⟩ := hl j x v e5 e4 (by rcases kx with z | z; exact .inr (.inl z); exact .inr (.inr z))
        refine ⟨u, ru, .inr ⟨?_, ?_⟩⟩
        · have := kinds x _ e6
          show (relabel sc X.env).names.lookup x = _ ∨ (relabel sc X.env).names.lookup x = _
          rw [this]
          split
          · exact .inl rfl
          · exact .inr rfl
        · rcases lo with ⟨z, _⟩ | ⟨_, c, hc1, hc2⟩
          · rcases kx with w | w <;> (rw [w] at z; cases z)
          · obtain ⟨d, hd⟩ := hcl2 x hm
            obtain ⟨d', h1, h2⟩ := lookup_some_of_mem (BC.old _ hd)
            refine ⟨d', h1, ?_⟩
            rcases BC.mem x d' h2 with w | ⟨_, _, w⟩
            · have w' := (hcl x d' w).2
              rw [hc1] at w'
              cases w'
              exact hc2.keeps keep
            · have := S.lk w
              rw [e6] at this
              cases this
  · intro x c e
    exact isc x c (lk' x c e)
  · exact fresh _ (Nat.lt_succ_self _)
  · intro x c e
    rcases BC.mem x c (lk' x c e) with z | ⟨_, z, _⟩
    · have e' := (hcl x c z).2
      have hlt := cellOld x c e'
      rw [upd_ne (Nat.ne_of_lt hlt)]
      exact I.freeC x c e'
    · exact fresh c (by omega)
  · show (start' own caps σ).length = N'.length
    rw [S.names]
    unfold start'
    simp
end
end L2

set_option Elab.async false
set_option linter.all false
set_option maxRecDepth 100000
set_option maxHeartbeats 4000000
namespace L2
open PySem PySem.Spec PyProof.Rows

noncomputable def cLoop (J : It) (g : TG) (tt : TT) (te : TE) (σ0 : St) (D : Addr) (Q : Hp → Prop) (H1 : Hp) : Prop :=
  ∃ W : Nat → Nat → St → Hp → Prop, (∃ m, W 0 m σ0 (upd H1 D (.lst []))) ∧ ∀ i m σ' H', W i m σ' H' →
    (J.stop i H' ∧ Q H') ∨ (J.go i H' ∧ ∀ x H2, J.yld i H' x H2 → g x σ' H2 fun σ2 H3 => tt σ2 H3 fun b H4 =>
      if b = true then te σ2 H4 fun y H5 => ∃ ys, H5 D = some (.lst ys) ∧ ys.length < sizeLine ∧ ∃ m', m' < m ∧ W (i + 1) m' σ2 (upd H5 D (.lst (ys ++ [y])))
      else ∃ m', m' < m ∧ W (i + 1) m' σ2 H4)
noncomputable def tComp (own : List Str) (caps : List Nat) (wi : TI) (g : TG) (tt : TT) (te : TE) : TE := fun σ H Q => wi σ H fun J H1 => ∀ D, H1 D = none → cLoop J g tt te (start' own caps σ) D (Q (.ref D)) H1
noncomputable def tTrue : TT := fun _ H Q => Q true H
noncomputable def PIfs (X : Cx) (ifs : List Expr) (t : TT) : Prop :=
  ∀ (pins : List (Addr × Obj)) (s : Shared) (σ : St) (H : Hp) (Q : Bool → Hp → Prop), Inv X pins σ H s → t σ H Q →
    wpAny (model X.prog X.w) X.A (forIn ifs true fun c r => if r = true then do let ok ← isTrue c X.env (eval c X.env); pure (ForInStep.yield ok) else pure (ForInStep.yield r)) (TP X pins σ Q) X.xe s
theorem pif_nil {X : Cx} : PIfs X [] tTrue := fun pins s σ H Q I h => by
  rw [List.forIn_nil]
  exact wpAny_pure ⟨H, I, h⟩
theorem noXe {M : Model} {A : Around} {α : Type} {t : Sem α} {Q Q' : α → Shared → Prop} {E : Value → Shared → Prop} {s : Shared} (h : wpAny M A t Q (fun _ _ => False) s) (hQ : ∀ a s, Q a s → Q' a s) : wpAny M A t Q' E s :=
  wpAny_mono h hQ fun _ _ z => z.elim

section
variable {X : Cx} {own : List Str} {caps : List Nat} {N' : List Str} {sc : Scope} {tg elt iter : Expr} {ifs : List Expr} {pos : Pos} {wi : TI} {g : TG} {tt : TT} {te : TE}

theorem comp_end {pins p' : List (Addr × Obj)} {σ σ' : St} {H H' : Hp} {s s' : Shared} {fp : List Addr} {C : Addr} {cells : List (Str × Addr)} {h' : Heap} (I : Inv X pins σ H s) (f : ∀ b ∈ fp, FpOk X pins H b)
    (I' : Inv (compCx X N' sc C cells s H fp) p' σ' H' s') (hs : Heap.SameBut C s'.heap h') : Inv X pins σ H' { s' with heap := h' } := by
  have hC : s.heap.objs.size ≤ C := I'.ok.above
  have B := I'.base
  have ne : ∀ b o, s.heap.get? b = some o → b ≠ C := fun b o e => Nat.ne_of_lt (Nat.lt_of_lt_of_le (Heap.lt_size e) hC)
  obtain ⟨m, ⟨oC, _, _, hoC, _⟩, _⟩ := I'.loc
  refine I.call' (ch := fp) (s' := { s' with heap := h' }) I'.os ⟨fun b o e n hb hx => ?_, fun b o e n hb hx => ?_, B.free, fun b o e hx => ?_, B.tups, B.frzs, B.tbls⟩ (fun b ob e => ?_) I'.bare fun b hb => ?_
  · exact (hs.2 b (ne b o e)).trans (B.keep b o e n hb hx)
  · obtain ⟨sl, q⟩ := B.slot b o e n hb hx
    exact ⟨sl, (hs.2 b (ne b o e)).trans q⟩
  · obtain ⟨o', q⟩ := B.there b o e hx
    exact ⟨o', (hs.2 b (ne b o e)).trans q⟩
  · have hfree : H' C = none := I'.free
    refine (I'.hok b ob e).stay (fun c w' hc q => (hs.2 c ?_).trans q) (fun _ q => q) fun _ _ q => q
    rintro rfl
    rcases hc with rfl | hc
    · rw [hfree] at e; cases e
    · rw [hfree] at hc; cases hc
  · obtain ⟨_, f1, _, f3, f4, f5⟩ := f b hb
    exact ⟨f3, f1, f4, f5⟩

theorem comp_block {Qf : Result → Shared → Prop} (S : CompScope X own caps N' sc) (hc : X.calm = true)
    (hg : ∀ C cells s₂ H₂ fp, PG (compCx X N' sc C cells s₂ H₂ fp) tg g) (ht : ∀ C cells s₂ H₂ fp, PIfs (compCx X N' sc C cells s₂ H₂ fp) ifs tt) (he : ∀ C cells s₂ H₂ fp, PE (compCx X N' sc C cells s₂ H₂ fp) elt te)
    {pins : List (Addr × Obj)} {σ : St} {H : Hp} {s : Shared} {fp : List Addr} {it : Addr} {tn : Nat → Heap → Prop} {J : It} {Q : Hp → Prop} (I : Inv X pins σ H s) (T : Turn X.prog X.w X.K tg J fp it tn) (st : tn 0 s.heap) (f : ∀ b ∈ fp, FpOk X pins H b)
    (h : cLoop J g tt te (start' own caps σ) s.heap.objs.size Q H)
    (fin : ∀ s' σ' H' p' C cells, Inv (compCx X N' sc C cells s H fp) p' σ' H' s' → C = s.heap.objs.size + 1 → Q H' → Qf (.ok .next) s') :
    wpAny (model X.prog X.w) X.A (newFunctionEnv sc X.env.globals (clOf X.env sc.names []) [] X.env.qual none .none (some X.env)) (fun cenv s₄ =>
      cenv.locals = s.heap.objs.size + 1 ∧ codeAny (model X.prog X.w) X.A (.compStart (.ListComp elt [⟨tg, iter, ifs, 0⟩] sc pos) 0 (.ref it) (.ref s.heap.objs.size) { cenv with scope := relabel sc X.env }) Qf s₄) X.xe
        { s with heap := s.heap.push { cls := .type "list", data := .seq #[] } } := by
  have hf : ∀ y ∈ sc.names, y.2 = .free → ∃ c, X.env.cells.lookup y.1 = some c := fun y hy e => by
    obtain ⟨n, k⟩ := y
    have e' : k = .free := e
    subst e'
    exact I.ok.has n (S.fr hy)
  have hcl : ∀ n c, (n, c) ∈ clOf X.env sc.names [] → (n, NameKind.free) ∈ sc.names ∧ X.env.cells.lookup n = some c := fun n c m => (clOf_mem sc.names [] hf n c m).elim (fun z => nomatch z) id
  have hap := clOf_apart I.ok.inj sc.names [] hf S.nn (fun _ z => nomatch z) (fun _ z => nomatch z) .nil
  have I0 := comp_start (cl := clOf X.env sc.names []) S I f (fun b hb => let ⟨o, e, _⟩ := T.obj _ _ st b hb; ⟨o, e⟩) hcl (fun n m => clOf_has sc.names [] n m) hap
  refine wpAny_blockEnv ?_
  rw [show ({ s with heap := s.heap.push { cls := .type "list", data := .seq #[] } } : Shared).heap.objs.size = s.heap.objs.size + 1 from Heap.size_push ..]
  refine ⟨rfl, ?_⟩
  dsimp only
  generalize hs0 : ({ s with heap := pushCells ((s.heap.push { cls := .type "list", data := .seq #[] }).push { cls := .type "dict", data := .dict #[] }) sc.names } : Shared) = s0 at I0 ⊢
  have st0 : tn 0 s0.heap := T.keep _ _ _ st fun b hb o e => by
    rw [← hs0]
    exact pushCells_keeps _ _ _ _ (Heap.get?_push_of_some _ (Heap.get?_push_of_some _ e))
  generalize hcells : cellsFrom (s.heap.objs.size + 1 + 1) sc.names (clOf X.env sc.names []) = cells at I0 ⊢
  -- the loop
  obtain ⟨W, ⟨m0, w0⟩, turn⟩ := h
  have loop : codeAny (model X.prog X.w) X.A (.compLoop (.ListComp elt [⟨tg, iter, ifs, 0⟩] sc pos) 0 (.ref it) (.ref s.heap.objs.size) (compCx X N' sc (s.heap.objs.size + 1) cells s H fp).env) Qf s0 := by
    generalize hX' : compCx X N' sc (s.heap.objs.size + 1) cells s H fp = X' at I0 ⊢
    have hg' := hg (s.heap.objs.size + 1) cells s H fp
    have ht' := ht (s.heap.objs.size + 1) cells s H fp
    have he' := he (s.heap.objs.size + 1) cells s H fp
    have fin' := fun s' σ' H' p' (z : Inv (compCx X N' sc (s.heap.objs.size + 1) cells s H fp) p' σ' H' s') => fin s' σ' H' p' _ _ z rfl
    rw [hX'] at hg' ht' he' fin'
    have hxe : X'.xe = fun _ _ => False := by rw [← hX']; rfl
    have hpr : X'.prog = X.prog := by rw [← hX']; rfl
    have hw : X'.w = X.w := by rw [← hX']; rfl
    have hK : X'.K = X.K := by rw [← hX']; rfl
    have hA : X'.A = X.A := by rw [← hX']; rfl
    have hcm : X'.calm = true := by rw [← hX']; exact hc
    have hex : X'.ex = fp := by rw [← hX']; rfl
    have hpn : X'.pn = [] := by rw [← hX']; rfl
    have stat : ∀ {H' : Hp}, (∀ b ∈ fp, H' b = none) → ∀ b ∈ fp, FpOk X' [] H' b := fun hn b hb => by
      have e1 := I0.ok.exf b (by rw [hex]; exact hb)
      have e2 := I0.ok.exfs b (by rw [hex]; exact hb)
      exact ⟨hn b hb, e1.1, e2, .inl (by rw [hex]; exact hb), e1.2, fun p hp => by rw [hpn] at hp; exact nomatch hp⟩
    have frD : ∀ b ∈ fp, (upd H s.heap.objs.size (.lst [])) b = none := fun b hb => by
      obtain ⟨o, e, _⟩ := T.obj _ _ st b hb
      rw [upd_ne (Nat.ne_of_lt (Heap.lt_size e))]
      exact (f b hb).1
    have T' : Turn X'.prog X'.w X'.K tg J fp it tn := by rw [hpr, hw, hK]; exact T
    rw [← hpr, ← hw, ← hA]
    refine compLoop_any (fun n s' => ∃ i σ' H', Inv X' [] σ' H' s' ∧ tn i s'.heap ∧ (∀ b ∈ fp, H' b = none) ∧ W i n σ' H') ?_ m0 ⟨0, _, _, I0, st0, frD, w0⟩
    rintro n s3 ⟨i, σ3, H3, I3, st3, fr3, w3⟩
    rcases turn i n σ3 H3 w3 with ⟨stop, qn⟩ | ⟨go, step⟩
    · refine noXe (T'.done X' rfl rfl rfl hcm i [] s3 σ3 H3 _ I3 (stat fr3) st3 stop) fun r s4 ⟨hr, I4⟩ => ?_
      subst hr
      exact fin' s4 σ3 H3 [] I4 qn
    · refine noXe (T'.item X' rfl rfl rfl hcm i [] s3 σ3 H3 _ I3 (stat fr3) st3 go) fun r s4 ⟨u, hr, h4⟩ => ?_
      subst hr
      refine noXe h4 fun _ s5 ⟨x, H5, I5, r5, y5, st5, fr5⟩ => ?_
      have I5' := I5.pinned (stat fr5) (T.obj _ _ st5)
      have hgg := hg' _ s5 σ3 H5 x u _ I5' r5 (step x H5 y5)
      rw [hxe] at hgg
      refine noXe hgg fun _ s6 ⟨σ6, H6, I6, q6⟩ => ?_
      have htt := ht' _ s6 σ6 H6 _ I6 q6
      rw [hxe] at htt
      refine noXe htt fun ok s7 ⟨H7, I7, q7⟩ => ?_
      have again : ∀ {σ7 : St} {H7 : Hp} {s7 : Shared} {m : Nat}, Inv X' ([] ++ pinsAt fp s5.heap) σ7 H7 s7 → W (i + 1) m σ7 H7 → m < n → ∃ m, m < n ∧ ∃ i σ' H', Inv X' [] σ' H' s7 ∧ tn i s7.heap ∧ (∀ b ∈ fp, H' b = none) ∧ W i m σ' H' := fun {σ7 H7 s7 m} I7 w7 hm => by
        refine ⟨m, hm, i + 1, σ7, H7, I7.unpinned, T.keep _ _ _ st5 fun b hb o e => (I7.pin (b, o) (List.mem_append_right _ (List.mem_append_right _ (mem_pinsAt hb e)))).1, fun b hb => ?_, w7⟩
        obtain ⟨o, e, d⟩ := T.obj _ _ st5 b hb
        exact (I7.pin (b, o) (List.mem_append_right _ (List.mem_append_right _ (mem_pinsAt hb e)))).2.1
      cases ok with
      | false =>
        obtain ⟨m', hm, w7⟩ := q7
        rw [if_neg Bool.false_ne_true]
        exact again I7 w7 hm
      | true =>
        rw [if_pos rfl]
        have hee := he' _ s7 σ6 H7 _ I7 q7
        rw [hxe] at hee
        refine noXe hee fun y s8 ⟨vy, H8, I8, r8, ys, hD, hlen, m', hm, w8⟩ => ?_
        have hap := mt_append (X := X') _ s8 σ6 H8 (.ref s.heap.objs.size) [vy] (.ref s.heap.objs.size) [y] (fun _ H' => W (i + 1) m' σ6 H') I8 rfl (.cons r8 .nil) ⟨_, ys, vy, rfl, rfl, hD, hlen, w8⟩
        rw [hxe] at hap
        refine noXe hap fun z s9 ⟨_, H9, I9, _, w9⟩ => ?_
        exact again I9 w9 hm
  exact codeAny_compStart_list loop (T.self _ 0 _ _ _ st0 loop)

theorem pe_comp (S : CompScope X own caps N' sc) (hc : X.calm = true) (hi : PI X tg iter wi)
    (hg : ∀ C cells s₂ H₂ fp, PG (compCx X N' sc C cells s₂ H₂ fp) tg g) (ht : ∀ C cells s₂ H₂ fp, PIfs (compCx X N' sc C cells s₂ H₂ fp) ifs tt) (he : ∀ C cells s₂ H₂ fp, PE (compCx X N' sc C cells s₂ H₂ fp) elt te)
    (hs : ∀ x, foldedSetIterable iter X.env x = pure x := by intro _; rfl) : PE X (.ListComp elt [⟨tg, iter, ifs, 0⟩] sc pos) (tComp own caps wi g tt te) := by
  intro pins s σ H Q I h
  rw [eval_ListComp]
  have hf : ∀ y ∈ sc.names, y.2 = .free → ∃ c, X.env.cells.lookup y.1 = some c := fun y hy e => by
    obtain ⟨n, k⟩ := y
    have e' : k = .free := e
    subst e'
    exact I.ok.has n (S.fr hy)
  refine wpAny_comprehension_free (use := none) rfl hs (closureFor_all hf) S.kind (fun y hy e => by obtain ⟨n, k⟩ := y; have e' : k = .local := e; subst e'; exact S.lk hy) ?_
  refine thn (hi pins s σ H _ I h) fun v s1 h1 => thn h1 fun itv s2 h2 => ?_
  obtain ⟨it, fp, tn, J, H2, e, I2, T, st2, f2, q⟩ := h2
  subst e
  refine wpAny_newObj_type ?_
  refine thn (comp_block (iter := iter) (pos := pos) (Qf := compPost (model X.prog X.w) X.A X.xe none (EP X pins σ Q) (.ref s2.heap.objs.size) (s2.heap.objs.size + 1)) S hc hg ht he I2 T st2 f2 (q s2.heap.objs.size I2.fresh) ?_) fun cenv s4 ⟨hl, hr⟩ => ?_
  · intro s' σ' H' p' C cells I' eC q'
    subst eC
    obtain ⟨m, hn, _⟩ := id I'.loc
    exact ⟨m, hn, fun h' hs' => ⟨.ref s2.heap.objs.size, H', comp_end I2 f2 I' hs', rfl, q'⟩⟩
  · rw [← hl] at hr
    exact hr
end
end L2

set_option Elab.async false
set_option linter.all false
set_option maxRecDepth 100000
set_option maxHeartbeats 4000000
namespace L2
open PySem PySem.Spec PyProof.Rows
section
variable {X : Cx} {own : List Str} {caps : List Nat} {N' : List Str} {sc : Scope} {tg elt iter : Expr} {ifs : List Expr} {pos : Pos} {wi : TI} {g : TG} {tt : TT} {te : TE}
theorem ps_setcomp {i : Nat} {y : Str} {py spos : Pos} (hN : X.N.Nodup) (hy : X.N[i]? = some y) (hx : Loc X.env.scope y) (S : CompScope X own caps N' sc) (hc : X.calm = true) (hi : PI X tg iter wi)
    (hg : ∀ C cells s₂ H₂ fp, PG (compCx X N' sc C cells s₂ H₂ fp) tg g) (ht : ∀ C cells s₂ H₂ fp, PIfs (compCx X N' sc C cells s₂ H₂ fp) ifs tt) (he : ∀ C cells s₂ H₂ fp, PE (compCx X N' sc C cells s₂ H₂ fp) elt te)
    (hsw : swapsWith (.ListComp elt [⟨tg, iter, ifs, 0⟩] sc pos) (some (.Name y py)) spos.line X.env = pure true := by rfl)
    (hs : ∀ x, foldedSetIterable iter X.env x = pure x := by intro _; rfl) (hf : X.fn y = true ∨ X.env.scope.names.lookup y = some .local := by first | exact .inl rfl | exact .inr rfl | assumption) :
    PS X (.Assign [.Name y py] (.ListComp elt [⟨tg, iter, ifs, 0⟩] sc pos) spos) (tAsg (tComp own caps wi g tt te) (gName i)) := by
  intro pins s σ H D I h
  have hfr : ∀ y ∈ sc.names, y.2 = .free → ∃ c, X.env.cells.lookup y.1 = some c := fun y hy e => by
    obtain ⟨n, k⟩ := y
    have e' : k = .free := e
    subst e'
    exact I.ok.has n (S.fr hy)
  rw [exec_Assign_Name_used _ _ _ _ hsw]
  refine wpAny_bind (wpAny_standAt (wpAny_bind ?_))
  show wpAny _ X.A (do let _ ← comprehension (.ListComp elt [⟨tg, iter, ifs, 0⟩] sc pos) sc X.env _ (newList []) false (eval iter X.env) (some (assign (.Name y py) X.env))) _ _ s
  refine wpAny_bind (wpAny_mono (wpAny_comprehension_free (use := some (assign (.Name y py) X.env)) (Q := fun _ s' => SP X pins D .next s') rfl hs (closureFor_all hfr) S.kind (fun y hy e => by obtain ⟨n, k⟩ := y; have e' : k = .local := e; subst e'; exact S.lk hy) ?_) (fun _ s' hq => wpAny_pure (wpAny_pure hq)) fun _ _ e => e)
  refine thn (hi pins s σ H _ I h) fun v s1 h1 => thn h1 fun itv s2 h2 => ?_
  obtain ⟨it, fp, tn, J, H2, e, I2, T, st2, f2, q⟩ := h2
  subst e
  refine wpAny_newObj_type ?_
  refine thn (comp_block (iter := iter) (pos := pos) (Qf := compPost (model X.prog X.w) X.A X.xe (some (assign (.Name y py) X.env)) (fun _ s' => SP X pins D .next s') (.ref s2.heap.objs.size) (s2.heap.objs.size + 1)) S hc hg ht he I2 T st2 f2 (q s2.heap.objs.size I2.fresh) ?_) fun cenv s4 ⟨hl, hr⟩ => ?_
  · intro s' σ' H' p' C cells I' eC q'
    subst eC
    obtain ⟨m, hn, _⟩ := id I'.loc
    have I3 : Inv X pins σ H' s' := comp_end I2 f2 I' (.refl ..)
    show wpAny _ X.A (assign (.Name y py) X.env (.ref s2.heap.objs.size)) _ _ s'
    refine wpAny_assign_Name (store_ok2 (v := .ref s2.heap.objs.size) I3 hN hy hx rfl (fun s5 I5 hsb => ?_) hf)
    have hC : s2.heap.objs.size < s2.heap.objs.size + 1 := Nat.lt_succ_self _
    have ltL : X.env.locals < s2.heap.objs.size := I2.lt
    have ltC : ∀ x c, X.env.cells.lookup x = some c → c < s2.heap.objs.size := fun x c e => by
      obtain ⟨w', z⟩ := I2.cell x c e
      exact z.lt
    refine ⟨m, ?_, fun h' hs' => ⟨σ.set i (some (.ref s2.heap.objs.size)), H', ?_, q'⟩⟩
    · obtain ⟨a, hsa, ha⟩ := hsb
      refine hn.sameBut hsa ?_
      rcases ha with ha | ha
      · rw [ha]; exact Nat.ne_of_gt (Nat.lt_trans ltL hC)
      · exact Nat.ne_of_gt (Nat.lt_trans (ltC _ _ ha) hC)
    · refine I5.turned (t' := s5.toks) (it := s2.heap.objs.size + 1) (fun b o hb e => (hs'.2 b hb).trans e) I'.free (Nat.ne_of_gt (Nat.lt_trans ltL hC)) (.inr (Nat.le_trans I2.sz (Nat.le_of_lt hC))) (fun x c e => Nat.ne_of_lt (Nat.lt_trans (ltC x c e) hC)) fun p hp => ?_
      obtain ⟨e, _⟩ := I2.pin p hp
      exact Nat.ne_of_lt (Nat.lt_trans (Heap.lt_size e) hC)
  · rw [← hl] at hr
    exact hr
end

section
variable (n : Nat) (D : Addr) (Pv : Nat → List V → St → Hp → Prop)
noncomputable def CW (i m : Nat) (σ : St) (H : Hp) : Prop := m = n - i ∧ i ≤ n ∧ ∃ ys, H D = some (.lst ys) ∧ ys.length ≤ i ∧ Pv i ys σ H
noncomputable def cPut (i : Nat) (σ : St) (y : V) (H : Hp) : Prop := ∃ ys, H D = some (.lst ys) ∧ ys.length < sizeLine ∧ ∃ m', m' < n - i ∧ CW n D Pv (i + 1) m' σ (upd H D (.lst (ys ++ [y])))
noncomputable def cSkip (i : Nat) (σ : St) (H : Hp) : Prop := ∃ m', m' < n - i ∧ CW n D Pv (i + 1) m' σ H
variable {n D Pv}
theorem cPut.of {i : Nat} {σ : St} {y : V} {H : Hp} {ys : List V} (hi : i < n) (hl : ys.length ≤ i) (hn : n ≤ sizeLine) (h : H D = some (.lst ys)) (p : Pv (i + 1) (ys ++ [y]) σ (upd H D (.lst (ys ++ [y])))) : cPut n D Pv i σ y H :=
  ⟨ys, h, by omega, n - (i + 1), by omega, rfl, hi, ys ++ [y], upd_same, by rw [List.length_append]; show ys.length + 1 ≤ i + 1; omega, p⟩
theorem cSkip.of {i : Nat} {σ : St} {H : Hp} {ys : List V} (hi : i < n) (hl : ys.length ≤ i) (h : H D = some (.lst ys)) (p : Pv (i + 1) ys σ H) : cSkip n D Pv i σ H :=
  ⟨n - (i + 1), by omega, rfl, hi, ys, h, by omega, p⟩
theorem comp_list {K : PySem.W.Frag} {a : Addr} {xs : List V} {g : TG} {tt : TT} {te : TE} {σ0 : St} {Q : Hp → Prop} {H1 : Hp} (Pv : Nat → List V → St → Hp → Prop) (h0 : Pv 0 [] σ0 (upd H1 D (.lst [])))
    (hl : ∀ i ys σ H, i ≤ xs.length → Pv i ys σ H → SqL K H a xs)
    (hs : ∀ i x ys σ H, xs[i]? = some x → i < xs.length → ys.length ≤ i → H D = some (.lst ys) → Pv i ys σ H → g x σ H fun σ2 H3 => tt σ2 H3 fun b H4 => if b = true then te σ2 H4 (cPut xs.length D Pv i σ2) else cSkip xs.length D Pv i σ2 H4)
    (hd : ∀ ys σ H, H D = some (.lst ys) → ys.length ≤ xs.length → Pv xs.length ys σ H → Q H) : cLoop (Itl K a) g tt te σ0 D Q H1 := by
  refine ⟨CW xs.length D Pv, ⟨xs.length, by simp, Nat.zero_le _, [], upd_same, Nat.le_refl _, h0⟩, ?_⟩
  rintro i m σ H ⟨rfl, hi, ys, hD, hle, p⟩
  have q := hl i ys σ H hi p
  by_cases hlt : i < xs.length
  · refine .inr ⟨⟨xs, xs[i], q, by simp [hlt]⟩, fun x H' y => ?_⟩
    obtain ⟨e, y⟩ := y
    subst e
    exact hs i x ys σ _ (y xs q) hlt hle hD p
  · have e : i = xs.length := by omega
    subst e
    exact .inl ⟨⟨xs, q, Nat.le_refl _⟩, hd ys σ H hD hle p⟩
end
end L2

set_option Elab.async false
set_option linter.all false
set_option maxRecDepth 100000
set_option maxHeartbeats 4000000
namespace L2
open PySem PySem.Spec PyProof.Rows

mutual
inductive Is (H : Hp) (L : Addr → Prop) : V → PyData → Prop where
  | non : Is H L .non .none
  | bl (b : Bool) : Is H L (.bl b) (.bool b)
  | int (i : Int) : Is H L (.int i) (.int i)
  | str (x : Str) : Is H L (.str x) (.str x)
  | lst {a : Addr} {xs : List V} {ds : List PyData} : L a → H a = some (.lst xs) → IsAll H L xs ds → Is H L (.ref a) (.list ds)
  | tup {a : Addr} {xs : List V} {ds : List PyData} : H a = some (.tup xs) → IsAll H L xs ds → Is H L (.ref a) (.tuple ds)
inductive IsAll (H : Hp) (L : Addr → Prop) : List V → List PyData → Prop where
  | nil : IsAll H L [] []
  | cons {x : V} {xs : List V} {d : PyData} {ds : List PyData} : Is H L x d → IsAll H L xs ds → IsAll H L (x :: xs) (d :: ds)
end
section
variable {H H' : Hp} {L L' : Addr → Prop}
mutual
theorem Is.frame (hl : ∀ a xs, L a → H a = some (.lst xs) → L' a ∧ H' a = some (.lst xs)) (ht : ∀ a xs, H a = some (.tup xs) → H' a = some (.tup xs)) : ∀ {v : V} {d : PyData}, Is H L v d → Is H' L' v d
  | _, _, .non => .non
  | _, _, .bl b => .bl b
  | _, _, .int i => .int i
  | _, _, .str x => .str x
  | _, _, .lst p e r => .lst (hl _ _ p e).1 (hl _ _ p e).2 (IsAll.frame hl ht r)
  | _, _, .tup e r => .tup (ht _ _ e) (IsAll.frame hl ht r)
theorem IsAll.frame (hl : ∀ a xs, L a → H a = some (.lst xs) → L' a ∧ H' a = some (.lst xs)) (ht : ∀ a xs, H a = some (.tup xs) → H' a = some (.tup xs)) : ∀ {xs : List V} {ds : List PyData}, IsAll H L xs ds → IsAll H' L' xs ds
  | _, _, .nil => .nil
  | _, _, .cons h r => .cons (Is.frame hl ht h) (IsAll.frame hl ht r)
end
theorem Is.same (h : Same H H') {v : V} {d : PyData} (x : Is H L v d) : Is H' L v d := x.frame (fun a xs p e => ⟨p, h _ _ e⟩) fun a xs e => h _ _ e
theorem IsAll.same (h : Same H H') {v : List V} {d : List PyData} (x : IsAll H L v d) : IsAll H' L v d := x.frame (fun a xs p e => ⟨p, h _ _ e⟩) fun a xs e => h _ _ e
theorem IsAll.length : ∀ {xs : List V} {ds : List PyData}, IsAll H L xs ds → xs.length = ds.length
  | _, _, .nil => rfl
  | _, _, .cons _ r => by simp [IsAll.length r]
end

section
variable {X : Cx} {pins : List (Addr × Obj)} {σ : St} {H : Hp} {s : Shared} {L L' : Addr → Prop}
end
noncomputable abbrev Shp (d : PyData) : Prop := SeqAt.shaped d = true
noncomputable def rEqD : R2 := fun x y H Q => ∃ (L L' : Addr → Prop) (d e : PyData), Is H L x d ∧ Is H L' y e ∧ Shp d ∧ Shp e ∧ Q (.bl (PyData.eqv d e)) H
noncomputable def rNeD : R2 := fun x y H Q => ∃ (L L' : Addr → Prop) (d e : PyData), Is H L x d ∧ Is H L' y e ∧ Shp d ∧ Shp e ∧ Q (.bl (!PyData.eqv d e)) H
section
variable {X : Cx}
end
mutual
noncomputable def plainD : PyData → Bool
  | .none => true
  | .int _ => true
  | .str _ => true
  | .list ds => plainDs ds
  | .tuple ds => plainDs ds
  | _ => false
noncomputable def plainDs : List PyData → Bool
  | [] => true
  | d :: ds => plainD d && plainDs ds
end
mutual
theorem eqv_iff : ∀ (d e : PyData), plainD d = true → plainD e = true → (PyData.eqv d e = true ↔ d = e)
  | .none, e, _, he => by cases e <;> simp_all [PyData.eqv, plainD]
  | .int i, e, _, he => by cases e <;> simp_all [PyData.eqv, plainD]
  | .str i, e, _, he => by cases e <;> simp_all [PyData.eqv, plainD]
  | .list ds, e, hd, he => by
    cases e with
    | list es =>
      rw [plainD] at hd he
      rw [PyData.eqv, PyData.list.injEq]
      exact eqvAll_iff ds es hd he
    | _ => simp_all [PyData.eqv, plainD]
  | .tuple ds, e, hd, he => by
    cases e with
    | tuple es =>
      rw [plainD] at hd he
      rw [PyData.eqv, PyData.tuple.injEq]
      exact eqvAll_iff ds es hd he
    | _ => simp_all [PyData.eqv, plainD]
  | .bool b, e, hd, _ => by simp [plainD] at hd
  | .dict b, e, hd, _ => by simp [plainD] at hd
theorem eqvAll_iff : ∀ (ds es : List PyData), plainDs ds = true → plainDs es = true → (PyData.eqvAll ds es = true ↔ ds = es)
  | [], [], _, _ => by simp [PyData.eqvAll]
  | [], _ :: _, _, _ => by simp [PyData.eqvAll]
  | _ :: _, [], _, _ => by simp [PyData.eqvAll]
  | d :: ds, e :: es, hd, he => by
    rw [plainDs, Bool.and_eq_true] at hd he
    rw [PyData.eqvAll, Bool.and_eq_true, eqv_iff d e hd.1 he.1, eqvAll_iff ds es hd.2 he.2, List.cons.injEq]
end
theorem eqv_eq {d e : PyData} (h : plainD d = true) (k : plainD e = true) (q : d = e) : PyData.eqv d e = true := (eqv_iff d e h k).mpr q
theorem eqv_ne {d e : PyData} (h : plainD d = true) (k : plainD e = true) (q : d ≠ e) : PyData.eqv d e = false := Bool.eq_false_iff.mpr fun z => q ((eqv_iff d e h k).mp z)
noncomputable def fr (a b : Int) : PyData := .tuple [.int a, .int b]
theorem shp_fr (a b : Int) : Shp (fr a b) := rfl
theorem plain_fr (a b : Int) : plainD (fr a b) = true := rfl
theorem fr_inj {a b c d : Int} : fr a b = fr c d ↔ a = c ∧ b = d := by
  unfold fr
  simp
theorem Is.fr {H : Hp} {L : Addr → Prop} {p : Addr} {a b : Int} (h : H p = some (.tup [.int a, .int b])) : Is H L (.ref p) (fr a b) := .tup h (.cons (.int a) (.cons (.int b) .nil))
end L2

set_option Elab.async false
set_option linter.all false
set_option maxRecDepth 100000
set_option maxHeartbeats 4000000
namespace L2
open PySem PySem.Spec PyProof.Rows
theorem gcd_pos' {t b : Int} (hb : b ≠ 0) : 0 < (Int.gcd t b : Int) := by
  have := Int.gcd_pos_of_ne_zero_right t hb
  omega
theorem fdiv_of_dvd {t g : Int} (hg : 0 < g) : t.fdiv g = t / g := Int.fdiv_eq_ediv_of_nonneg t (by omega)
theorem fdiv_neg_of_dvd {t g : Int} (hg : 0 < g) (h : g ∣ t) : t.fdiv (-g) = -(t / g) := by
  obtain ⟨k, rfl⟩ := h
  rw [Int.mul_ediv_cancel_left _ (by omega)]
  have e : g * k = (-k) * (-g) := by rw [Int.neg_mul_neg, Int.mul_comm]
  rw [e, Int.mul_fdiv_cancel _ (by omega)]
noncomputable def shr (t b : Int) : Int := if b < 0 then -(Int.gcd t b : Int) else (Int.gcd t b : Int)
theorem low_num {t b : Int} (hb : b ≠ 0) : t.fdiv (shr t b) = (Rat.divInt t b).num := by
  have hg := gcd_pos' (t := t) hb
  have hd : (Int.gcd t b : Int) ∣ t := Int.gcd_dvd_left ..
  rw [Rat.num_divInt, Int.gcd_comm b t]
  unfold shr
  by_cases h : b < 0
  · rw [if_pos h, fdiv_neg_of_dvd hg hd, Int.sign_eq_neg_one_of_neg h, Int.neg_one_mul, Int.neg_ediv_of_dvd hd]
  · rw [if_neg h, fdiv_of_dvd hg, Int.sign_eq_one_of_pos (by omega), Int.one_mul]
theorem low_den {t b : Int} (hb : b ≠ 0) : b.fdiv (shr t b) = ((Rat.divInt t b).den : Int) := by
  have hg := gcd_pos' (t := t) hb
  have hd : (Int.gcd t b : Int) ∣ b := Int.gcd_dvd_right ..
  rw [Rat.den_divInt, if_neg hb, Int.gcd_comm b t]
  unfold shr
  by_cases h : b < 0
  · have e : (b.natAbs : Int) = -b := by omega
    rw [if_pos h, fdiv_neg_of_dvd hg hd, Int.natCast_ediv, e, Int.neg_ediv_of_dvd hd]
  · have e : (b.natAbs : Int) = b := by omega
    rw [if_neg h, fdiv_of_dvd hg, Int.natCast_ediv, e]
theorem shr_ne {t b : Int} (hb : b ≠ 0) : shr t b ≠ 0 := by
  have hg := gcd_pos' (t := t) hb
  unfold shr
  split <;> omega
theorem shr_bt {n : Nat} {t b : Int} (hb : b ≠ 0) (h : Bt n b) : Bt n (shr t b) := by
  have h1 : Bt n (Int.gcd t b : Int) := by
    refine Bt.of_le h ?_
    have := Int.gcd_le_natAbs_right t hb
    omega
  unfold shr
  split
  · exact h1.neg
  · exact h1
theorem num_bt {n : Nat} {t b : Int} (hb : b ≠ 0) (h : Bt n t) : Bt n (Rat.divInt t b).num := by
  rw [Rat.num_divInt]
  refine Bt.of_le h ?_
  refine Nat.le_trans (Int.natAbs_ediv_le_natAbs _ _) ?_
  rw [Int.natAbs_mul]
  have : b.sign.natAbs ≤ 1 := by
    rw [Int.natAbs_sign]
    split <;> omega
  calc b.sign.natAbs * t.natAbs ≤ 1 * t.natAbs := Nat.mul_le_mul_right _ this
    _ = t.natAbs := Nat.one_mul _
theorem den_bt {n : Nat} {t b : Int} (hb : b ≠ 0) (h : Bt n b) : Bt n ((Rat.divInt t b).den : Int) := by
  rw [Rat.den_divInt, if_neg hb]
  refine Bt.of_le h ?_
  show ((b.natAbs / b.gcd t : Nat) : Int).natAbs ≤ _
  rw [Int.natAbs_natCast]
  exact Nat.div_le_self _ _
theorem den_ne (q : Rat) : (q.den : Int) ≠ 0 := by
  have := q.den_pos
  omega
theorem mul_ne {a b : Int} (ha : a ≠ 0) (hb : b ≠ 0) : a * b ≠ 0 := Int.mul_ne_zero ha hb
theorem rat_plus (q r : Rat) : Rat.divInt (q.num * (r.den : Int) + r.num * (q.den : Int)) ((q.den : Int) * (r.den : Int)) = q + r := by
  rw [Rat.add_def', ← Int.natCast_mul, Rat.divInt_ofNat]
theorem rat_minus (q r : Rat) : Rat.divInt (q.num * (r.den : Int) - r.num * (q.den : Int)) ((q.den : Int) * (r.den : Int)) = q - r := by
  rw [Rat.sub_def', ← Int.natCast_mul, Rat.divInt_ofNat]
theorem rat_times (q r : Rat) : Rat.divInt (q.num * r.num) ((q.den : Int) * (r.den : Int)) = q * r := by
  rw [Rat.mul_def', ← Int.natCast_mul, Rat.divInt_ofNat]
theorem rat_divided (q r : Rat) : Rat.divInt (q.num * (r.den : Int)) ((q.den : Int) * r.num) = q / r := by
  rw [Rat.div_def, Rat.inv_def]
  conv => rhs; rw [← Rat.num_divInt_den q]
  rw [Rat.divInt_mul_divInt]
noncomputable def frV (q : Rat) : List V := [.int q.num, .int (q.den : Int)]
noncomputable def FQ (H : Hp) (v : V) (q : Rat) : Prop := ∃ p, v = .ref p ∧ H p = some (.tup (frV q))
noncomputable def frD (q : Rat) : PyData := fr q.num (q.den : Int)
theorem FQ.is {H : Hp} {v : V} {q : Rat} {L : Addr → Prop} (h : FQ H v q) : Is H L v (frD q) := by
  obtain ⟨p, rfl, e⟩ := h
  exact Is.fr e
theorem FQ.same {H H' : Hp} {v : V} {q : Rat} (s : Same H H') (h : FQ H v q) : FQ H' v q := by
  obtain ⟨p, rfl, e⟩ := h
  exact ⟨p, rfl, s _ _ e⟩
theorem frD_inj {q r : Rat} : frD q = frD r ↔ q = r := by
  unfold frD
  rw [fr_inj]
  constructor
  · rintro ⟨h1, h2⟩
    exact Rat.ext h1 (by omega)
  · rintro rfl
    exact ⟨rfl, rfl⟩
theorem eqv_fr (q r : Rat) : PyData.eqv (frD q) (frD r) = decide (q = r) := by
  by_cases h : q = r
  · rw [decide_eq_true h]
    exact eqv_eq (plain_fr _ _) (plain_fr _ _) (frD_inj.mpr h)
  · rw [decide_eq_false h]
    exact eqv_ne (plain_fr _ _) (plain_fr _ _) fun z => h (frD_inj.mp z)
noncomputable def BQ (n : Nat) (q : Rat) : Prop := Bt n q.num ∧ Bt n (q.den : Int)
theorem BQ.mono {m n : Nat} {q : Rat} (h : BQ m q) (k : m ≤ n) : BQ n q := ⟨h.1.mono k, h.2.mono k⟩
theorem BQ.div {n : Nat} {t b : Int} (hb : b ≠ 0) (h : Bt n t) (k : Bt n b) : BQ n (Rat.divInt t b) := ⟨num_bt hb h, den_bt hb k⟩
theorem BQ.plus {n : Nat} {q r : Rat} (h : BQ n q) (k : BQ n r) : BQ (n + n + 1) (q + r) := by
  rw [← rat_plus]
  exact .div (mul_ne (den_ne _) (den_ne _)) ((h.1.mul k.2).add' (k.1.mul h.2)) ((h.2.mul k.2).mono (by omega))
theorem BQ.minus {n : Nat} {q r : Rat} (h : BQ n q) (k : BQ n r) : BQ (n + n + 1) (q - r) := by
  rw [← rat_minus]
  exact .div (mul_ne (den_ne _) (den_ne _)) ((h.1.mul k.2).sub' (k.1.mul h.2)) ((h.2.mul k.2).mono (by omega))
theorem BQ.times {n : Nat} {q r : Rat} (h : BQ n q) (k : BQ n r) : BQ (n + n) (q * r) := by
  rw [← rat_times]
  exact .div (mul_ne (den_ne _) (den_ne _)) (h.1.mul k.1) (h.2.mul k.2)
theorem BQ.divided {n : Nat} {q r : Rat} (h : BQ n q) (k : BQ n r) (hr : r ≠ 0) : BQ (n + n) (q / r) := by
  rw [← rat_divided]
  exact .div (mul_ne (den_ne _) fun z => hr (Rat.num_eq_zero.mp z)) (h.1.mul k.2) (h.2.mul k.1)
end L2

set_option Elab.async false
set_option linter.all false
set_option maxRecDepth 100000
set_option maxHeartbeats 4000000
namespace L2
open PySem PySem.Spec PyProof.Rows
section
variable {X : Cx}
end
end L2
namespace L2
open PySem PySem.Spec PyProof.Rows
section
variable {X : Cx} {K : PySem.W.Frag} {a b o e : Expr} {ta tb tl to : TE} {pos : Pos}
theorem ix_listK (hK : X.K = K) : IxR X (rIxL K) := hK ▸ ix_list
theorem ix_seqK (hK : X.K = K) : IxR X (rIx K) := hK ▸ ix_seq
theorem sl_listK (hK : X.K = K) : SlR X (rSlL K) := hK ▸ sl_list
noncomputable def rLen (K : PySem.W.Frag) : List V → Hp → VK → Prop := fun xs H Q => ∃ p ys, xs = [.ref p] ∧ (SqL K H p ys ∨ SqT K H p ys) ∧ Q (.int ys.length) H
theorem call_lenK (hK : X.K = K) : CallR X (.builtin "len") (rLen K) := by subst hK; exact call_len_seq
noncomputable def rListOf (K : PySem.W.Frag) : List V → Hp → VK → Prop := fun xs H Q => ∃ p ys, xs = [.ref p] ∧ (SqL K H p ys ∨ SqT K H p ys) ∧ ∀ l, H l = none → Q (.ref l) (upd H l (.lst ys))
theorem call_listK (hK : X.K = K) : CallR X (.type "list") (rListOf K) := by subst hK; exact call_list_of
noncomputable def tTru (K : PySem.W.Frag) (ta : TE) : TT := fun σ H Q => ta σ H fun x H' => ∃ k, TruV K x H' k ∧ Q k H'
theorem pt_truK (hK : X.K = K) (ha : PE X a ta) (he : ∀ whole, isTrue a X.env whole = (do let v ← whole; standAt a.pos; holding [v] (truthy v))) : PT X a (tTru K ta) := by subst hK; exact pt_truth ha he
theorem pi_listK {tg l : Expr} (hK : X.K = K) (hl : PE X l tl) : PI X tg l (iList K tl) := by subst hK; exact pi_list hl
end
end L2

set_option Elab.async false
set_option linter.all false
set_option maxRecDepth 100000
set_option maxHeartbeats 4000000
namespace L2
open PySem PySem.Spec PyProof.Rows
theorem same_new {H : Hp} {p : Addr} (h : H p = none) (o : HO) : Same H (upd H p o) := fun b u q => by rw [upd_ne (ne_of_none q h)]; exact q
noncomputable def But (p : Addr) (H H' : Hp) : Prop := ∀ b o, b ≠ p → H b = some o → H' b = some o
theorem Same.but {H H' : Hp} (h : Same H H') (p : Addr) : But p H H' := fun b o _ e => h b o e
theorem But.trans {p : Addr} {H H1 H2 : Hp} (a : But p H H1) (b : But p H1 H2) : But p H H2 := fun c o n e => b c o n (a c o n e)
theorem But.upd (p : Addr) (H : Hp) (o : HO) : But p H (upd H p o) := fun b u n e => by rw [upd_ne n]; exact e
noncomputable def Pl (H : Hp) (p : Addr) (n : Nat) : Prop := ∃ a b c : Int, H p = some (.lst [.int a, .int b, .int c]) ∧ 0 ≤ c ∧ c ≤ n
theorem Pl.same {H H' : Hp} {p : Addr} {n : Nat} (s : Same H H') (h : Pl H p n) : Pl H' p n := by
  obtain ⟨a, b, c, e, h1, h2⟩ := h
  exact ⟨a, b, c, s _ _ e, h1, h2⟩
theorem Pl.mono {H : Hp} {p : Addr} {m n : Nat} (h : Pl H p m) (k : m ≤ n) : Pl H p n := by
  obtain ⟨a, b, c, e, h1, h2⟩ := h
  exact ⟨a, b, c, e, h1, by omega⟩
theorem Pl.at {H : Hp} {p : Addr} {n : Nat} (h : Pl H p n) : ∃ xs, H p = some (.lst xs) := by
  obtain ⟨a, b, c, e, h1, h2⟩ := h
  exact ⟨_, e⟩
noncomputable def spLow : Sp := fun vs H Q _ => ∃ t b : Int, vs = [.int t, .int b] ∧ b ≠ 0 ∧ Bt 9000 b ∧ ∀ v H', Same H H' → FQ H' v (Rat.divInt t b) → Q v H'
noncomputable def spPool (K : PySem.W.Frag) : Sp := fun vs H Q _ => ∃ (a : Addr) (ns : List Int) (k : Int), vs = [.ref a, .int k] ∧ SqL K H a (ns.map V.int) ∧ 0 ≤ k ∧ k ≤ 1000 ∧ ∀ p H', H p = none → Same H H' → Pl H' p 23000 → Q (.ref p) H'
noncomputable def spTake : Sp := fun vs H Q _ => ∃ (p : Addr) (n : Nat) (many : Int), vs = [.ref p, .int many] ∧ Pl H p n ∧ n ≤ 1000000000 ∧ 0 < many ∧ Bt 9000 many ∧ ∀ (r : Int) H', 0 ≤ r → r < many → But p H H' → Pl H' p (n + 1) → Q (.int r) H'
noncomputable def spFigures : Sp := fun vs H Q _ => ∃ (p : Addr) (n : Nat), vs = [.ref p] ∧ Pl H p n ∧ n ≤ 900000000 ∧ ∀ (r : Int) H', 0 ≤ r → r < 10 ^ 40 → But p H H' → Pl H' p (n + 6) → Q (.int r) H'
namespace B
theorem boot_abs : bootBuiltins "abs" = some (.builtin "abs") := by decide +kernel
theorem boot_len : bootBuiltins "len" = some (.builtin "len") := by decide +kernel
theorem boot_max : bootBuiltins "max" = some (.builtin "max") := by decide +kernel
theorem boot_min : bootBuiltins "min" = some (.builtin "min") := by decide +kernel
theorem boot_isinstance : bootBuiltins "isinstance" = some (.builtin "isinstance") := by decide +kernel
theorem boot_int : bootBuiltins "int" = some (.type "int") := by decide +kernel
theorem boot_bool : bootBuiltins "bool" = some (.type "bool") := by decide +kernel
theorem boot_list : bootBuiltins "list" = some (.type "list") := by decide +kernel
theorem boot_tuple : bootBuiltins "tuple" = some (.type "tuple") := by decide +kernel
theorem boot_range : bootBuiltins "range" = some (.type "range") := by decide +kernel
theorem boot_set : bootBuiltins "set" = some (.type "set") := by decide +kernel
end B
theorem bt_lit {n : Nat} {x : Int} (h : x.natAbs < 2 ^ n) : Bt n x := h
theorem abs_eq (i : Int) : (if i < 0 then -i else i) = (i.natAbs : Int) := by split <;> omega
theorem fmod_pos {a b : Int} (hb : 0 < b) : a.fmod b = a % b := Int.fmod_eq_emod_of_nonneg a (by omega)
theorem gcd_step {x y : Int} (hx : 0 ≤ x) (hy : 0 < y) : Int.gcd y (x.fmod y) = Int.gcd x y := by
  rw [fmod_pos hy, Int.gcd_comm x y]
  have e := Int.emod_add_mul_ediv x y
  conv => rhs; rw [← e]
  rw [Int.gcd_add_mul_left_right]
theorem two_le : (2 : Nat) ≤ sizeLine := by decide
theorem bt9 {x : Int} (h : x.natAbs < 2 ^ 200) : Bt 9000 x := Bt.mono (m := 200) h (by decide)
end L2

set_option Elab.async false
set_option linter.all false
set_option maxRecDepth 100000
set_option maxHeartbeats 4000000
namespace L2
open PySem PySem.Spec PyProof.Rows
section
variable {X : Cx} {K : PySem.W.Frag} {pos : Pos}
end
end L2
namespace L2
open PySem PySem.Spec PyProof.Rows
theorem rNe_fr {H : Hp} {x y : V} {q r : Rat} {Q : VK} (fx : FQ H x q) (fy : FQ H y r) (h : Q (.bl (!decide (q = r))) H) : rNeD x y H Q :=
  ⟨fun _ => True, fun _ => True, _, _, fx.is, fy.is, shp_fr _ _, shp_fr _ _, by rw [eqv_fr]; exact h⟩
theorem rEq_fr {H : Hp} {x y : V} {q r : Rat} {Q : VK} (fx : FQ H x q) (fy : FQ H y r) (h : Q (.bl (decide (q = r))) H) : rEqD x y H Q :=
  ⟨fun _ => True, fun _ => True, _, _, fx.is, fy.is, shp_fr _ _, shp_fr _ _, by rw [eqv_fr]; exact h⟩
theorem rNe_eq {H : Hp} {x y : V} {q r : Rat} {Q : VK} (fx : FQ H x q) (fy : FQ H y r) (e : q = r) (h : Q (.bl false) H) : rNeD x y H Q := rNe_fr fx fy (by rw [decide_eq_true e]; exact h)
theorem rEq_eq {H : Hp} {x y : V} {q r : Rat} {Q : VK} (fx : FQ H x q) (fy : FQ H y r) (e : q = r) (h : Q (.bl true) H) : rEqD x y H Q := rEq_fr fx fy (by rw [decide_eq_true e]; exact h)
theorem FQ.new {H : Hp} {p : Addr} {a b : Int} {q : Rat} (h1 : q.num = a) (h2 : (q.den : Int) = b) : FQ (upd H p (.tup [.int a, .int b])) (.ref p) q := ⟨p, rfl, by rw [upd_same]; unfold frV; rw [h1, h2]⟩
theorem ix_num {K : PySem.W.Frag} {H : Hp} {x : V} {q : Rat} {Q : VK} (f : FQ H x q) (h : Q (.int q.num) H) : rIxT K x (.int 0) H Q := by
  obtain ⟨p, rfl, e⟩ := f
  exact ⟨p, _, _, _, rfl, rfl, SqT.of e, rfl, h⟩
theorem ix_den {K : PySem.W.Frag} {H : Hp} {x : V} {q : Rat} {Q : VK} (f : FQ H x q) (h : Q (.int (q.den : Int)) H) : rIxT K x (.int 1) H Q := by
  obtain ⟨p, rfl, e⟩ := f
  exact ⟨p, _, _, _, rfl, rfl, SqT.of e, rfl, h⟩
theorem num_ne {q : Rat} (h : q ≠ 0) : q.num ≠ 0 := fun z => h (Rat.num_eq_zero.mp z)
theorem rat_self (q : Rat) : Rat.divInt q.num (q.den : Int) = q := Rat.num_divInt_den q
end L2
namespace L2
open PySem PySem.Spec PyProof.Rows
section
variable {X : Cx}
theorem pc_int' {i j pos} : PE X (.Constant (.int i) j pos) (fun _ H Q => Q (.int i) H) := pe_int
end
end L2
namespace L2
open PySem PySem.Spec PyProof.Rows
theorem BQ.n {n : Nat} {q : Rat} (h : BQ n q) : Bt n q.num := h.1
theorem BQ.d {n : Nat} {q : Rat} (h : BQ n q) : Bt n (q.den : Int) := h.2
theorem denR (q : Rat) : (((q.den : Int)) : Rat) ≠ 0 := by
  intro z
  exact den_ne q (Rat.intCast_eq_zero_iff.mp z)
theorem numR (q : Rat) : ((q.num : Int) : Rat) = q * (((q.den : Int)) : Rat) := by
  have h := rat_self q
  rw [Rat.divInt_eq_div] at h
  have d := denR q
  conv => rhs; lhs; rw [← h]
  grind
end L2
namespace L2
theorem Same.tr {H H1 H2 : Hp} (b : Same H1 H2) (a : Same H H1) : Same H H2 := a.trans b
end L2
namespace L2
end L2

set_option Elab.async false
set_option linter.all false
set_option maxRecDepth 100000
set_option maxHeartbeats 4000000
namespace L2
open PySem PySem.Spec PyProof.Rows
variable {G : PySem.W.Frag}

noncomputable def KS (G : PySem.W.Frag) (a : Addr) (ns : List Int) : Prop := ∃ (o : Obj) (its : Array Value) (n : Nat), G.lookup a = some o ∧ o.cls = .type "list" ∧ o.dict = none ∧ o.data = .seq its n ∧ its.size ≤ sizeLine ∧ Vals (ns.map V.int) its.toList
theorem KS.sq {G : PySem.W.Frag} {H : Hp} {a : Addr} {ns : List Int} (h : KS G a ns) : SqL G H a (ns.map V.int) := .inr h
noncomputable def exD (C : Addr) : PyData := .dict [(.int (C : Nat), .none)]
structure ExCls (G : PySem.W.Frag) (C : Addr) : Prop where
  ga : PySem.W.findIn G (.ref C) "__getattribute__" = some (some (.builtin "BaseException.__getattribute__"))
  gt : PySem.W.findIn G (.ref C) "__getattr__" = some none
  cl : PySem.W.findIn G (.ref C) "__class__" = some (some (.builtin "object.__class__"))
  isB : PySem.W.subIn G (.ref C) (.type "BaseException") = some true
  isO : PySem.W.subIn G (.ref C) (.type "object") = some true
  isC : (PySem.W.clsIn G C).isSome = true
  k1 : PySem.W.kitOne G (.ref C) (.type "int") = some false
  k2 : PySem.W.kitOne G (.ref C) (.type "bool") = some false
  k3 : PySem.W.kitOne G (.ref C) (.type "str") = some false
  k4 : PySem.W.kitOne G (.ref C) (.type "list") = some false
  k5 : PySem.W.kitOne G (.ref C) (.type "tuple") = some false
noncomputable def ExO (C a : Addr) (h : Heap) : Prop := ∃ o vs, h.get? a = some o ∧ o.cls = .ref C ∧ o.data = .fields vs
inductive ImO where
  | tup (xs : List V)
  | ext (φ : Heap → Prop)
noncomputable def ImO.ho : ImO → HO
  | .tup xs => .tup xs
  | .ext φ => .ext φ
theorem ImO.nl {H : Hp} {a : Addr} {x : ImO} {ys : List V} (h : H a = some x.ho) (h' : H a = some (.lst ys)) : False := by
  rw [h] at h'
  cases x <;> cases h'
mutual
inductive Da (G : PySem.W.Frag) (H : Hp) (L : Addr → Prop) : V → PyData → Prop where
  | non : Da G H L .non .none
  | bl (b : Bool) : Da G H L (.bl b) (.bool b)
  | int (i : Int) : Da G H L (.int i) (.int i)
  | str (x : Str) : Da G H L (.str x) (.str x)
  | lst {a : Addr} {xs : List V} {ds : List PyData} : L a → Rd H a (.lst xs) → Das G H L xs ds → Da G H L (.ref a) (.list ds)
  | tup {a : Addr} {xs : List V} {ds : List PyData} : H a = some (.tup xs) → Das G H L xs ds → Da G H L (.ref a) (.tuple ds)
  | scr {a : Addr} {ns : List Int} : KS G a ns → Da G H L (.ref a) (.list (ns.map PyData.int))
  | exc {a C : Addr} : ExCls G C → H a = some (.ext (ExO C a)) → Da G H L (.ref a) (exD C)
inductive Das (G : PySem.W.Frag) (H : Hp) (L : Addr → Prop) : List V → List PyData → Prop where
  | nil : Das G H L [] []
  | cons {x : V} {xs : List V} {d : PyData} {ds : List PyData} : Da G H L x d → Das G H L xs ds → Das G H L (x :: xs) (d :: ds)
end
section
variable {H H' : Hp} {L L' : Addr → Prop}
mutual
theorem Da.frame (hl : ∀ a xs, L a → Rd H a (.lst xs) → L' a ∧ Rd H' a (.lst xs)) (ht : ∀ a (xs : ImO), H a = some xs.ho → H' a = some xs.ho) : ∀ {v : V} {d : PyData}, Da G H L v d → Da G H' L' v d
  | _, _, .non => .non
  | _, _, .bl b => .bl b
  | _, _, .int i => .int i
  | _, _, .str x => .str x
  | _, _, .lst p e r => .lst (hl _ _ p e).1 (hl _ _ p e).2 (Das.frame hl ht r)
  | _, _, .tup (xs := xs) e r => .tup (ht _ (.tup xs) e) (Das.frame hl ht r)
  | _, _, .scr k => .scr k
  | _, _, .exc c e => .exc c (ht _ (.ext _) e)
theorem Das.frame (hl : ∀ a xs, L a → Rd H a (.lst xs) → L' a ∧ Rd H' a (.lst xs)) (ht : ∀ a (xs : ImO), H a = some xs.ho → H' a = some xs.ho) : ∀ {xs : List V} {ds : List PyData}, Das G H L xs ds → Das G H' L' xs ds
  | _, _, .nil => .nil
  | _, _, .cons h r => .cons (Da.frame hl ht h) (Das.frame hl ht r)
end
theorem Rd.same {a : Addr} {u : HO} (s : Same H H') (h : Rd H a u) : Rd H' a u := h.imp (s _ _) fun ⟨o, h⟩ => ⟨o, s _ _ h⟩
theorem Rd.some {a : Addr} {u : HO} (h : Rd H a u) : H a ≠ Option.none := by
  rcases h with h | ⟨o, h⟩ <;> rw [h] <;> intro z <;> cases z
theorem Da.same (h : Same H H') {v : V} {d : PyData} (x : Da G H L v d) : Da G H' L v d := x.frame (fun a xs p e => ⟨p, e.same h⟩) fun a xs e => h _ _ e
theorem Das.same (h : Same H H') {v : List V} {d : List PyData} (x : Das G H L v d) : Das G H' L v d := x.frame (fun a xs p e => ⟨p, e.same h⟩) fun a xs e => h _ _ e
theorem Da.wide (h : ∀ a, L a → H a ≠ none → L' a) {v : V} {d : PyData} (x : Da G H L v d) : Da G H L' v d := x.frame (fun a xs p e => ⟨h a p e.some, e⟩) fun a xs e => e
theorem Das.wide (h : ∀ a, L a → H a ≠ none → L' a) {v : List V} {d : List PyData} (x : Das G H L v d) : Das G H L' v d := x.frame (fun a xs p e => ⟨h a p e.some, e⟩) fun a xs e => e
theorem Das.length : ∀ {xs : List V} {ds : List PyData}, Das G H L xs ds → xs.length = ds.length
  | _, _, .nil => rfl
  | _, _, .cons _ r => by simp [Das.length r]
theorem Das.append : ∀ {xs ys : List V} {ds es : List PyData}, Das G H L xs ds → Das G H L ys es → Das G H L (xs ++ ys) (ds ++ es)
  | _, _, _, _, .nil, k => k
  | _, _, _, _, .cons h r, k => .cons h (Das.append r k)
theorem Das.get : ∀ {xs : List V} {ds : List PyData} {i : Nat} {d : PyData}, Das G H L xs ds → ds[i]? = some d → ∃ x, xs[i]? = some x ∧ Da G H L x d
  | _, _, _, _, .nil, e => by simp at e
  | _, _, 0, _, .cons h _, e => by simp at e; subst e; exact ⟨_, rfl, h⟩
  | _, _, i + 1, d, .cons _ r, e => by
    obtain ⟨x, h1, h2⟩ := Das.get (i := i) (d := d) r (by simpa using e)
    exact ⟨x, by simpa using h1, h2⟩
theorem Das.take : ∀ {xs : List V} {ds : List PyData} (n : Nat), Das G H L xs ds → Das G H L (xs.take n) (ds.take n)
  | _, _, 0, _ => .nil
  | _, _, _ + 1, .nil => .nil
  | _, _, n + 1, .cons r t => .cons r (Das.take n t)
theorem Das.drop : ∀ {xs : List V} {ds : List PyData} (n : Nat), Das G H L xs ds → Das G H L (xs.drop n) (ds.drop n)
  | _, _, 0, r => r
  | _, _, _ + 1, .nil => .nil
  | _, _, n + 1, .cons _ t => Das.drop n t
theorem Das.ints : ∀ (ns : List Int), Das G H L (ns.map V.int) (ns.map PyData.int)
  | [] => .nil
  | n :: ns => .cons (.int n) (Das.ints ns)
theorem Das.int_inv : ∀ {xs : List V} {ns : List Int}, Das G H L xs (ns.map PyData.int) → xs = ns.map V.int
  | _, [], .nil => rfl
  | _, _ :: _, .cons h r => by cases h; rw [Das.int_inv r]; rfl
end
theorem reads_ints {h : Heap} : ∀ (ns : List Int) {us : List Value}, Vals (ns.map V.int) us → ∃ as, ReadsAll h us (ns.map PyData.int) as
  | [], _, .nil => ⟨_, .nil⟩
  | n :: ns, _, .cons r rs => by
    obtain ⟨t, e⟩ := (show ∃ t, _ = Value.int n t from r)
    subst e
    obtain ⟨bs, k'⟩ := reads_ints ns rs
    exact ⟨_, .cons (.int n t) k'⟩
section
variable {X : Cx} {pins : List (Addr × Obj)} {σ : St} {H : Hp} {s : Shared} {L L' : Addr → Prop}
mutual
theorem Da.reads (hG : X.K = G) (I : Inv X pins σ H s) : ∀ {v : V} {d : PyData} {u : Value}, Da G H L v d → RelV v u → d.canLay0 = true → ∃ as, Reads s.heap u d as
  | _, _, _, .non, r, _ => by cases (show _ = Value.none from r); exact ⟨_, .none⟩
  | _, _, _, .bl b, r, _ => by cases (show _ = Value.bool b from r); exact ⟨_, .bool b⟩
  | _, _, _, .int i, r, _ => by obtain ⟨t, e⟩ := (show ∃ t, _ = Value.int i t from r); subst e; exact ⟨_, .int i t⟩
  | _, _, _, .str x, r, _ => by obtain ⟨t, e⟩ := (show ∃ t, _ = Value.str x t from r); subst e; exact ⟨_, .str x t⟩
  | _, _, _, .lst (a := a) (xs := xs) _ e q, r, hcl => by
    cases (show _ = Value.ref a from r)
    obtain ⟨_, its, n, vs, h1⟩ := (show ObjOk X.prog X.w H s.heap a (.lst xs) from e.ok I.hok)
    obtain ⟨as, k⟩ := Das.reads hG I q vs (by simpa [PyData.canLay0] using hcl)
    exact ⟨_, Reads.list h1 rfl rfl (by simpa using k)⟩
  | _, _, _, .tup (a := a) (xs := xs) e q, r, hcl => by
    cases (show _ = Value.ref a from r)
    obtain ⟨_, its, vs, h1⟩ := (show ObjOk X.prog X.w H s.heap a (.tup xs) from I.hok a _ e)
    obtain ⟨o, ho, hc, n, hd⟩ := h1
    obtain ⟨as, k⟩ := Das.reads hG I q vs (by simpa [PyData.canLay0] using hcl)
    exact ⟨_, Reads.tuple ho hc hd (by simpa using k)⟩
  | _, _, _, .scr (a := a) (ns := ns) k, r, _ => by
    cases (show _ = Value.ref a from r)
    subst hG
    obtain ⟨its, vs, ⟨o, n, ho, hc, hd, hs⟩, _⟩ := I.list (k.sq (H := H))
    obtain ⟨as, q⟩ := reads_ints ns vs
    exact ⟨_, Reads.list ho hc hs (by simpa using q)⟩
  | _, _, _, .exc _ e, r, hc => by rw [exD, PyData.canLay0] at hc; cases hc
theorem Das.reads (hG : X.K = G) (I : Inv X pins σ H s) : ∀ {xs : List V} {ds : List PyData} {us : List Value}, Das G H L xs ds → Vals xs us → PyData.canLayAll0 ds = true → ∃ as, ReadsAll s.heap us ds as
  | _, _, _, .nil, .nil, _ => ⟨_, .nil⟩
  | _, _, _, .cons h q, .cons r rs, hc => by
    rw [PyData.canLayAll0, Bool.and_eq_true] at hc
    obtain ⟨as, k⟩ := Da.reads hG I h r hc.1
    obtain ⟨bs, k'⟩ := Das.reads hG I q rs hc.2
    exact ⟨_, .cons k k'⟩
end
end

inductive OT where
  | fz (d : PyData)
  | nd (ts : List OT)
mutual
noncomputable def OT.data : OT → PyData
  | .fz d => d
  | .nd ts => .list (OT.datas ts)
noncomputable def OT.datas : List OT → List PyData
  | [] => []
  | t :: ts => t.data :: OT.datas ts
end
theorem OT.datas_map : ∀ (ts : List OT), OT.datas ts = ts.map OT.data
  | [] => rfl
  | t :: ts => by rw [OT.datas, OT.datas_map ts]; rfl
@[simp] theorem OT.data_fz (d : PyData) : (OT.fz d).data = d := by rw [OT.data]
@[simp] theorem OT.data_nd (ts : List OT) : (OT.nd ts).data = .list (ts.map OT.data) := by rw [OT.data, OT.datas_map]
@[simp] theorem OT.map_fz (ds : List PyData) : (ds.map OT.fz).map OT.data = ds := by
  rw [List.map_map]
  exact (List.map_congr_left fun d _ => OT.data_fz d).trans (List.map_id _)
mutual
inductive Own (G : PySem.W.Frag) (H : Hp) (L : Addr → Prop) : V → OT → List Addr → Prop where
  | fz {v : V} {d : PyData} : Da G H L v d → Own G H L v (.fz d) []
  | nd {a : Addr} {xs : List V} {ts : List OT} {bs : List Addr} : H a = some (.lst xs) → Owns G H L xs ts bs → Own G H L (.ref a) (.nd ts) (a :: bs)
inductive Owns (G : PySem.W.Frag) (H : Hp) (L : Addr → Prop) : List V → List OT → List Addr → Prop where
  | nil : Owns G H L [] [] []
  | cons {x : V} {xs : List V} {t : OT} {ts : List OT} {as bs : List Addr} : Own G H L x t as → Owns G H L xs ts bs → Owns G H L (x :: xs) (t :: ts) (as ++ bs)
end
section
variable {H H' : Hp} {L L' : Addr → Prop}
mutual
theorem Own.frame (hl : ∀ a xs, L a → Rd H a (.lst xs) → L' a ∧ Rd H' a (.lst xs)) (ht : ∀ a (xs : ImO), H a = some xs.ho → H' a = some xs.ho) :
    ∀ {v : V} {t : OT} {as : List Addr}, (∀ a ∈ as, ∀ xs, H a = some (.lst xs) → H' a = some (.lst xs)) → Own G H L v t as → Own G H' L' v t as
  | _, _, _, _, .fz h => .fz (h.frame hl ht)
  | _, _, _, ha, .nd e r => .nd (ha _ (.head _) _ e) (Owns.frame hl ht (fun a m => ha a (.tail _ m)) r)
theorem Owns.frame (hl : ∀ a xs, L a → Rd H a (.lst xs) → L' a ∧ Rd H' a (.lst xs)) (ht : ∀ a (xs : ImO), H a = some xs.ho → H' a = some xs.ho) :
    ∀ {xs : List V} {ts : List OT} {as : List Addr}, (∀ a ∈ as, ∀ xs, H a = some (.lst xs) → H' a = some (.lst xs)) → Owns G H L xs ts as → Owns G H' L' xs ts as
  | _, _, _, _, .nil => .nil
  | _, _, _, ha, .cons h r => .cons (Own.frame hl ht (fun a m => ha a (List.mem_append_left _ m)) h) (Owns.frame hl ht (fun a m => ha a (List.mem_append_right _ m)) r)
end
theorem Own.same (h : Same H H') {v : V} {t : OT} {as : List Addr} (x : Own G H L v t as) : Own G H' L v t as := x.frame (fun a xs p e => ⟨p, e.same h⟩) (fun a xs e => h _ _ e) fun a _ xs e => h _ _ e
theorem Own.wide (h : ∀ a, L a → H a ≠ none → L' a) {v : V} {t : OT} {as : List Addr} (x : Own G H L v t as) : Own G H L' v t as := x.frame (fun a xs p e => ⟨h a p e.some, e⟩) (fun a xs e => e) fun a _ xs e => e
theorem Owns.wide (h : ∀ a, L a → H a ≠ none → L' a) {v : List V} {t : List OT} {as : List Addr} (x : Owns G H L v t as) : Owns G H L' v t as := x.frame (fun a xs p e => ⟨h a p e.some, e⟩) (fun a xs e => e) fun a _ xs e => e
theorem Owns.same (h : Same H H') {v : List V} {t : List OT} {as : List Addr} (x : Owns G H L v t as) : Owns G H' L v t as := x.frame (fun a xs p e => ⟨p, e.same h⟩) (fun a xs e => h _ _ e) fun a _ xs e => h _ _ e
mutual
theorem Own.da (h : ∀ a, L a → H a ≠ none → L' a) : ∀ {v : V} {t : OT} {as : List Addr}, (∀ a ∈ as, L' a) → Own G H L v t as → Da G H L' v t.data
  | _, _, _, _, .fz k => by rw [OT.data_fz]; exact k.wide h
  | _, _, _, ha, .nd e r => by
    rw [OT.data]
    exact .lst (ha _ (.head _)) (.inl e) (Owns.das h (fun a m => ha a (.tail _ m)) r)
theorem Owns.das (h : ∀ a, L a → H a ≠ none → L' a) : ∀ {v : List V} {t : List OT} {as : List Addr}, (∀ a ∈ as, L' a) → Owns G H L v t as → Das G H L' v (OT.datas t)
  | _, _, _, _, .nil => .nil
  | _, _, _, ha, .cons k r => .cons (Own.da h (fun a m => ha a (List.mem_append_left _ m)) k) (Owns.das h (fun a m => ha a (List.mem_append_right _ m)) r)
end
mutual
theorem Own.some : ∀ {v : V} {t : OT} {as : List Addr}, Own G H L v t as → ∀ a ∈ as, ∃ xs, H a = some (.lst xs)
  | _, _, _, .fz _, _, m => nomatch m
  | _, _, _, .nd e r, a, m => by
    rcases List.mem_cons.mp m with rfl | m
    · exact ⟨_, e⟩
    · exact Owns.some r a m
theorem Owns.some : ∀ {v : List V} {t : List OT} {as : List Addr}, Owns G H L v t as → ∀ a ∈ as, ∃ xs, H a = some (.lst xs)
  | _, _, _, .nil, _, m => nomatch m
  | _, _, _, .cons k r, a, m => by
    rcases List.mem_append.mp m with m | m
    · exact Own.some k a m
    · exact Owns.some r a m
end
theorem Owns.length : ∀ {xs : List V} {ts : List OT} {as : List Addr}, Owns G H L xs ts as → xs.length = ts.length
  | _, _, _, .nil => rfl
  | _, _, _, .cons _ r => by simp [Owns.length r]
theorem Das.owns : ∀ {xs : List V} {ds : List PyData}, Das G H L xs ds → Owns G H L xs (ds.map OT.fz) []
  | _, _, .nil => .nil
  | _, _, .cons h r => .cons (.fz h) (Das.owns r)
end
end L2

set_option Elab.async false
set_option linter.all false
set_option maxRecDepth 100000
set_option maxHeartbeats 4000000
namespace L2
open PySem PySem.Spec PyProof.Rows
variable {G : PySem.W.Frag}

noncomputable abbrev DEnv := List (Option OT)
noncomputable abbrev Fp := Nat → List Addr
structure MC (G : PySem.W.Frag) where
  H₀ : Hp
  as₀ : Addr → Prop
  L : Addr → Prop
  σ₀ : St
noncomputable def Foot (fp : Fp) (a : Addr) : Prop := ∃ i, a ∈ fp i
noncomputable def Lf (C : MC G) (fp : Fp) (ex : Addr → Prop) (a : Addr) : Prop := ¬ Foot fp a ∧ ¬ ex a ∧ (C.L a ∨ C.H₀ a = none)
structure Rel (C : MC G) (io : List Nat) (H : Hp) (σ : St) (δ : DEnv) (fp : Fp) (ex : Addr → Prop) : Prop where
  len : σ.length = δ.length
  own : ∀ (i : Nat) (t : OT), δ[i]? = some (some t) → ∃ v, σ[i]? = some (some v) ∧ Own G H (Lf C fp ex) v t (fp i)
  emp : ∀ i : Nat, (∀ t, δ[i]? ≠ some (some t)) → fp i = []
  nd : ∀ i, (fp i).Nodup
  dj : ∀ i j a, a ∈ fp i → a ∈ fp j → i = j
  dx : ∀ i a, a ∈ fp i → ¬ ex a
  xa : ∀ a, ex a → H a ≠ none
  fr : ∀ b o, C.H₀ b = some o → ¬ C.as₀ b → H b = some o
  al : ∀ b, H b = none → C.H₀ b = none
  new : ∀ i a, a ∈ fp i → (i ∈ io ∧ C.as₀ a) ∨ C.H₀ a = none
  io : ∀ i ∈ io, σ[i]? = C.σ₀[i]?
structure Stp (p : Bool) (H : Hp) (δ : DEnv) (fp : Fp) (H' : Hp) (δ' : DEnv) (fp' : Fp) : Prop where
  keep : ∀ b o, H b = some o → (p = true ∨ ¬ Foot fp b) → H' b = some o
  env : p = true → δ' = δ ∧ fp' = fp
  grow : ∀ a, Foot fp' a → Foot fp a ∨ H a = none
  al : ∀ b, H' b = none → H b = none
section
variable {C : MC G} {io : List Nat} {H H' H'' : Hp} {σ : St} {δ δ' δ'' : DEnv} {fp fp' fp'' : Fp} {ex ex' : Addr → Prop} {p p' c : Bool} {v : V} {d : PyData} {r : OT} {new : List Addr}
theorem Rel.foot (R : Rel C io H σ δ fp ex) {a : Addr} (h : Foot fp a) : ∃ xs, H a = some (.lst xs) := by
  obtain ⟨i, h⟩ := h
  by_cases q : ∃ t, δ[i]? = some (some t)
  · obtain ⟨t, q⟩ := q
    obtain ⟨v, _, o⟩ := R.own i t q
    exact o.some a h
  · rw [R.emp i (fun t z => q ⟨t, z⟩)] at h
    exact nomatch h
theorem Rel.footSome (R : Rel C io H σ δ fp ex) {a : Addr} (h : H a = none) : ¬ Foot fp a := fun z => by
  obtain ⟨xs, e⟩ := R.foot z
  rw [h] at e
  cases e
theorem Stp.refl (p : Bool) (H : Hp) (δ : DEnv) (fp : Fp) : Stp p H δ fp H δ fp := ⟨fun _ _ h _ => h, fun _ => ⟨rfl, rfl⟩, fun _ h => .inl h, fun _ h => h⟩
theorem Stp.same (h : Same H H') (hn : ∀ b, H' b = none → H b = none) : Stp p H δ fp H' δ fp := ⟨fun _ _ q _ => h _ _ q, fun _ => ⟨rfl, rfl⟩, fun _ h => .inl h, hn⟩
theorem Same.al (h : Same H H') : ∀ b, H' b = none → H b = none := fun _ q => h.free q
theorem Stp.trans (a : Stp p H δ fp H' δ' fp') (b : Stp p' H' δ' fp' H'' δ'' fp'') : Stp (p && p') H δ fp H'' δ'' fp'' where
  keep := fun x o e h => by
    rcases h with h | h
    · rw [Bool.and_eq_true] at h
      exact b.keep x o (a.keep x o e (.inl h.1)) (.inl h.2)
    · refine b.keep x o (a.keep x o e (.inr h)) (.inr fun z => ?_)
      rcases a.grow x z with z | z
      · exact h z
      · rw [e] at z; cases z
  env := fun h => by
    rw [Bool.and_eq_true] at h
    obtain ⟨e1, e2⟩ := a.env h.1
    obtain ⟨e3, e4⟩ := b.env h.2
    exact ⟨e3.trans e1, e4.trans e2⟩
  grow := fun x h => by
    rcases b.grow x h with h | h
    · exact a.grow x h
    · exact .inr (a.al x h)
  al := fun x h => a.al x (b.al x h)
theorem Rel.frameL (R : Rel C io H σ δ fp ex) (S : Stp p H δ fp H' δ' fp') (hc : p = true ∨ c = true) (hx : ∀ a, ex' a → ex a ∨ H a = none) :
    (∀ a xs, (c = true → Lf C fp ex a) → Rd H a (.lst xs) → (c = true → Lf C fp' ex' a) ∧ Rd H' a (.lst xs)) ∧ (∀ a (xs : ImO), H a = some xs.ho → H' a = some xs.ho) := by
  have nf : ∀ a, Foot fp a → ∃ xs, H a = some (.lst xs) := fun a h => R.foot h
  refine ⟨fun a xs l q => ⟨fun hc' => ?_, ?_⟩, fun a xs q => S.keep a _ q (.inr fun z => ?_)⟩
  · obtain ⟨l1, l2, l3⟩ := l hc'
    refine ⟨fun z => ?_, fun z => ?_, l3⟩
    · rcases S.grow a z with z | z
      · exact l1 z
      · exact q.some z
    · rcases hx a z with z | z
      · exact l2 z
      · exact q.some z
  · have hk : p = true ∨ ¬ Foot fp a := by
      rcases hc with h | h
      · exact .inl h
      · exact .inr (l h).1
    rcases q with q | ⟨o, q⟩
    · exact .inl (S.keep a _ q hk)
    · exact .inr ⟨o, S.keep a _ q hk⟩
  · obtain ⟨ys, e⟩ := nf a z
    exact ImO.nl q e
theorem Rel.own_step (R : Rel C io H σ δ fp ex) (S : Stp p H δ fp H' δ' fp') (hc : p = true ∨ c = true) (hx : ∀ a, ex' a → ex a ∨ H a = none) (hn : ∀ a ∈ new, ex a)
    (x : Own G H (fun a => c = true → Lf C fp ex a) v r new) : Own G H' (fun a => c = true → Lf C fp' ex' a) v r new :=
  x.frame (R.frameL S hc hx).1 (R.frameL S hc hx).2 fun a m xs e => S.keep a _ e (.inr fun ⟨i, z⟩ => R.dx i a z (hn a m))
theorem Rel.owns_step (R : Rel C io H σ δ fp ex) (S : Stp p H δ fp H' δ' fp') (hc : p = true ∨ c = true) (hx : ∀ a, ex' a → ex a ∨ H a = none) (hn : ∀ a ∈ new, ex a) {vs : List V} {rs : List OT}
    (x : Owns G H (fun a => c = true → Lf C fp ex a) vs rs new) : Owns G H' (fun a => c = true → Lf C fp' ex' a) vs rs new :=
  x.frame (R.frameL S hc hx).1 (R.frameL S hc hx).2 fun a m xs e => S.keep a _ e (.inr fun ⟨i, z⟩ => R.dx i a z (hn a m))
theorem Rel.drop (R : Rel C io H σ δ fp ex) (h : ∀ a, ex' a → ex a) : Rel C io H σ δ fp ex' :=
  ⟨R.len, fun i t e => by
    obtain ⟨v, e1, o⟩ := R.own i t e
    exact ⟨v, e1, o.wide fun a l _ => ⟨l.1, fun z => l.2.1 (h a z), l.2.2⟩⟩, R.emp, R.nd, R.dj, fun i a m z => R.dx i a m (h a z), fun a z => R.xa a (h a z), R.fr, R.al, R.new, R.io⟩
theorem Rel.made (R : Rel C io H σ δ fp ex) (s : Same H H') (hn : ∀ a ∈ new, H a = none ∧ H' a ≠ none) : Rel C io H' σ δ fp (fun a => ex a ∨ a ∈ new) :=
  ⟨R.len, fun i t e => by
    obtain ⟨v, e1, o⟩ := R.own i t e
    refine ⟨v, e1, (o.wide fun a l q => ⟨l.1, fun z => ?_, l.2.2⟩).same s⟩
    rcases z with z | z
    · exact l.2.1 z
    · exact q (hn a z).1, R.emp, R.nd, R.dj, fun i a m z => by
      rcases z with z | z
      · exact R.dx i a m z
      · exact R.footSome (hn a z).1 ⟨i, m⟩, fun a z => by
      rcases z with z | z
      · intro q; exact R.xa a z (s.free q)
      · exact (hn a z).2, fun b o e n => s _ _ (R.fr b o e n), fun b q => R.al b (s.free q), R.new, R.io⟩
end

noncomputable abbrev MEt := DEnv → (OT → DEnv → Prop) → Prop
noncomputable abbrev MAt := DEnv → (List OT → DEnv → Prop) → Prop
noncomputable abbrev MTt := DEnv → (Bool → DEnv → Prop) → Prop
noncomputable abbrev exu (ex : Addr → Prop) (new : List Addr) : Addr → Prop := fun a => ex a ∨ a ∈ new
structure RE (C : MC G) (io : List Nat) (p c : Bool) (H : Hp) (σ : St) (δ : DEnv) (fp : Fp) (ex : Addr → Prop) (H' : Hp) (v : V) (r : OT) (δ' : DEnv) (fp' : Fp) (new : List Addr) : Prop where
  rel : Rel C io H' σ δ' fp' (exu ex new)
  stp : Stp p H δ fp H' δ' fp'
  own : Own G H' (fun a => c = true → Lf C fp' (exu ex new) a) v r new
  nd : new.Nodup
  fresh : ∀ a ∈ new, H a = none
structure RA (C : MC G) (io : List Nat) (p c : Bool) (H : Hp) (σ : St) (δ : DEnv) (fp : Fp) (ex : Addr → Prop) (H' : Hp) (v : List V) (r : List OT) (δ' : DEnv) (fp' : Fp) (new : List Addr) : Prop where
  rel : Rel C io H' σ δ' fp' (exu ex new)
  stp : Stp p H δ fp H' δ' fp'
  own : Owns G H' (fun a => c = true → Lf C fp' (exu ex new) a) v r new
  nd : new.Nodup
  fresh : ∀ a ∈ new, H a = none
noncomputable def SE (G : PySem.W.Frag) (io : List Nat) (p c : Bool) (t : TE) (m : MEt) : Prop := ∀ (C : MC G) (H : Hp) (σ : St) (δ : DEnv) (fp : Fp) (ex : Addr → Prop) (K : OT → DEnv → Prop) (Q : VK), Rel C io H σ δ fp ex → m δ K →
  (∀ H' v r δ' fp' new, RE C io p c H σ δ fp ex H' v r δ' fp' new → K r δ' → Q v H') → t σ H Q
noncomputable def SA (G : PySem.W.Frag) (io : List Nat) (p c : Bool) (t : TA) (m : MAt) : Prop := ∀ (C : MC G) (H : Hp) (σ : St) (δ : DEnv) (fp : Fp) (ex : Addr → Prop) (K : List OT → DEnv → Prop) (Q : List V → Hp → Prop), Rel C io H σ δ fp ex → m δ K →
  (∀ H' v r δ' fp' new, RA C io p c H σ δ fp ex H' v r δ' fp' new → K r δ' → Q v H') → t σ H Q
noncomputable def STt (G : PySem.W.Frag) (io : List Nat) (p : Bool) (t : TT) (m : MTt) : Prop := ∀ (C : MC G) (H : Hp) (σ : St) (δ : DEnv) (fp : Fp) (ex : Addr → Prop) (K : Bool → DEnv → Prop) (Q : Bool → Hp → Prop), Rel C io H σ δ fp ex → m δ K →
  (∀ H' b δ' fp', Rel C io H' σ δ' fp' ex → Stp p H δ fp H' δ' fp' → K b δ' → Q b H') → t σ H Q
noncomputable def ME (X : Cx) (io : List Nat) (p c : Bool) (e : Expr) (m : MEt) : Prop := ∃ t, PE X e t ∧ SE X.K io p c t m
noncomputable def MA (X : Cx) (io : List Nat) (p c : Bool) (e : List Expr) (m : MAt) : Prop := ∃ t, PA X e t ∧ SA X.K io p c t m
noncomputable def MT (X : Cx) (io : List Nat) (p : Bool) (e : Expr) (m : MTt) : Prop := ∃ t, PT X e t ∧ STt X.K io p t m
noncomputable def MW (X : Cx) (io : List Nat) (p : Bool) (e : Expr) (m : MTt) : Prop := ∃ t, PW X e t ∧ STt X.K io p t m

section
variable {C : MC G} {io : List Nat} {H H' H'' : Hp} {σ : St} {δ δ' δ'' : DEnv} {fp fp' fp'' : Fp} {ex ex' : Addr → Prop} {p p' c : Bool} {v : V} {d : PyData} {r : OT} {vs : List V} {rs : List OT} {new : List Addr}
theorem Rel.newOk (R : Rel C io H σ δ fp ex) {a : Addr} (h : H a = none) : ¬ Foot fp a ∧ ¬ ex a ∧ C.H₀ a = none := ⟨R.footSome h, fun z => R.xa a z h, R.al a h⟩
theorem RE.da (R : RE C io p c H σ δ fp ex H' v r δ' fp' new) (R0 : Rel C io H σ δ fp ex) : Da G H' (fun a => c = true → Lf C fp' ex a) v r.data := by
  refine R.own.da (fun a l _ h => ?_) (fun a m _ => ?_)
  · exact ⟨(l h).1, fun z => (l h).2.1 (.inl z), (l h).2.2⟩
  · exact ⟨fun ⟨i, z⟩ => R.rel.dx i a z (.inr m), (R0.newOk (R.fresh a m)).2.1, .inr (R0.newOk (R.fresh a m)).2.2⟩
theorem RA.das (R : RA C io p c H σ δ fp ex H' vs rs δ' fp' new) (R0 : Rel C io H σ δ fp ex) : Das G H' (fun a => c = true → Lf C fp' ex a) vs (OT.datas rs) := by
  refine R.own.das (fun a l _ h => ?_) (fun a m _ => ?_)
  · exact ⟨(l h).1, fun z => (l h).2.1 (.inl z), (l h).2.2⟩
  · exact ⟨fun ⟨i, z⟩ => R.rel.dx i a z (.inr m), (R0.newOk (R.fresh a m)).2.1, .inr (R0.newOk (R.fresh a m)).2.2⟩
theorem RE.base (R : RE C io p c H σ δ fp ex H' v r δ' fp' new) : Rel C io H' σ δ' fp' ex := R.rel.drop fun a z => .inl z
theorem RA.base (R : RA C io p c H σ δ fp ex H' vs rs δ' fp' new) : Rel C io H' σ δ' fp' ex := R.rel.drop fun a z => .inl z
theorem exu_nil {a : Addr} : exu ex [] a ↔ ex a := by simp [exu]
theorem RE.fz (R : Rel C io H' σ δ' fp' ex) (S : Stp p H δ fp H' δ' fp') (h : Da G H' (fun a => c = true → Lf C fp' ex a) v d) : RE C io p c H σ δ fp ex H' v (.fz d) δ' fp' [] :=
  ⟨R.drop fun a z => exu_nil.mp z, S, .fz (h.wide fun a l _ hc => ⟨(l hc).1, fun z => (l hc).2.1 (exu_nil.mp z), (l hc).2.2⟩), .nil, fun a m => nomatch m⟩
theorem RE.tree {H1 : Hp} (R0 : Rel C io H σ δ fp ex) (R : Rel C io H1 σ δ' fp' ex) (S : Stp p H δ fp H1 δ' fp') (s : Same H1 H') (hn : ∀ a ∈ new, H1 a = none) (nd : new.Nodup)
    (o : Own G H' (fun a => ((c = true → Lf C fp' ex a) ∨ H1 a = none) ∧ a ∉ new) v r new) : RE C io p c H σ δ fp ex H' v r δ' fp' new := by
  refine ⟨R.made s fun a m => ⟨hn a m, fun z => ?_⟩, ?_, o.wide fun a l q hc => ?_, nd, fun a m => S.al a (hn a m)⟩
  · obtain ⟨xs, e⟩ := o.some a m
    rw [z] at e; cases e
  · have := S.trans (p' := true) (Stp.same (p := true) (δ := δ') (fp := fp') s s.al)
    rwa [Bool.and_true] at this
  · rcases l.1 with l1 | l1
    · exact ⟨(l1 hc).1, fun z => z.elim (l1 hc).2.1 l.2, (l1 hc).2.2⟩
    · exact ⟨R.footSome l1, fun z => z.elim (fun z => R.xa a z l1) l.2, .inr (R.al a l1)⟩
end

inductive ScD : V → PyData → Prop where
  | non : ScD .non .none
  | bl (b : Bool) : ScD (.bl b) (.bool b)
  | int (i : Int) : ScD (.int i) (.int i)
  | str (x : Str) : ScD (.str x) (.str x)
theorem ScD.da {H : Hp} {L : Addr → Prop} {v : V} {d : PyData} (h : ScD v d) : Da G H L v d := by
  cases h
  · exact .non
  · exact .bl _
  · exact .int _
  · exact .str _
section
variable {X : Cx} {io : List Nat} {p p' c c' : Bool} {e a b : Expr} {m ma mb : MEt} {es : List Expr}
noncomputable def mVar (i : Nat) : MEt := fun δ K => match δ[i]? with | some (some (.fz d)) => K (.fz d) δ | _ => False
noncomputable def mOwn (i : Nat) : MEt := fun δ K => match δ[i]? with | some (some t) => K (.fz t.data) δ | _ => False
noncomputable def mC (d : PyData) : MEt := fun δ K => K (.fz d) δ
theorem mv (i : Nat) {x : Str} {pos : Pos} (hN : X.N[i]? = some x := by rfl) (hv : Vis X.env.scope x := by first | exact Or.inl rfl | exact Or.inr (Or.inl rfl) | exact Or.inr (Or.inr rfl)) (hd : (x == ("__debug__" : Str)) = false := by decide)
    (hcd : (x == ("__classdict__" : Str)) = false := by decide) : ME X io true true (.Name x pos) (mVar i) := by
  refine ⟨_, pv i hN hv hd hcd, fun C H σ δ fp ex K Q R h k => ?_⟩
  unfold mVar at h
  split at h
  · rename_i d hd
    obtain ⟨v, e, o⟩ := R.own i _ hd
    refine ⟨v, e, k H v _ δ fp [] (.fz R (.refl _ _ _ _) ?_) h⟩
    generalize fp i = as at o
    cases o with
    | fz q => exact q.wide fun a l _ _ => l
  · exact h.elim
theorem mo (i : Nat) {x : Str} {pos : Pos} (hN : X.N[i]? = some x := by rfl) (hv : Vis X.env.scope x := by first | exact Or.inl rfl | exact Or.inr (Or.inl rfl) | exact Or.inr (Or.inr rfl)) (hd : (x == ("__debug__" : Str)) = false := by decide)
    (hcd : (x == ("__classdict__" : Str)) = false := by decide) : ME X io true false (.Name x pos) (mOwn i) := by
  refine ⟨_, pv i hN hv hd hcd, fun C H σ δ fp ex K Q R h k => ?_⟩
  unfold mOwn at h
  split at h
  · rename_i d hd
    obtain ⟨v, e, o⟩ := R.own i _ hd
    exact ⟨v, e, k H v _ δ fp [] (.fz R (.refl _ _ _ _) (o.da (fun a _ _ z => (nomatch z)) fun a _ z => (nomatch z))) h⟩
  · exact h.elim
theorem m_const {t : V} {d : PyData} (h : PE X e (tC t)) (s : ScD t d) : ME X io true true e (mC d) :=
  ⟨_, h, fun C H σ δ fp ex K Q R h k => k H t _ δ fp [] (.fz R (.refl _ _ _ _) s.da) h⟩
theorem mc_int {i j pos} : ME X io true true (.Constant (.int i) j pos) (mC (.int i)) := m_const pe_int (.int i)
theorem mc_bl {b j pos} : ME X io true true (.Constant (.bool b) j pos) (mC (.bool b)) := m_const pe_bl (.bl b)
theorem mc_non {j pos} : ME X io true true (.Constant .none j pos) (mC .none) := m_const pe_non .non
theorem SE.two {ta tb : TE} (ha : SE G io p c ta ma) (hb : SE G io p' c' tb mb) (hc : p' = true ∨ c = true) {C : MC G} {H : Hp} {σ : St} {δ : DEnv} {fp : Fp} {ex : Addr → Prop} {K : OT → OT → DEnv → Prop} {Q : V → V → Hp → Prop}
    (R : Rel C io H σ δ fp ex) (h : ma δ fun x δ1 => mb δ1 fun y δ2 => K x y δ2)
    (k : ∀ H' x y u v δ' fp', Rel C io H' σ δ' fp' ex → Stp (p && p') H δ fp H' δ' fp' → Da G H' (fun a => (c && c') = true → Lf C fp' ex a) x u.data → Da G H' (fun a => (c && c') = true → Lf C fp' ex a) y v.data → K u v δ' → Q x y H') :
    ta σ H fun x H1 => tb σ H1 fun y H2 => Q x y H2 := by
  refine ha C H σ δ fp ex _ _ R h fun H1 x u δ1 fp1 new1 r1 h1 => ?_
  refine hb C H1 σ δ1 fp1 (exu ex new1) _ _ r1.rel h1 fun H2 y v δ2 fp2 new2 r2 h2 => ?_
  have o1 := r1.rel.own_step (ex' := exu (exu ex new1) new2) r2.stp (c := c) hc (fun a z => z.imp id fun z => r2.fresh a z) (fun a m => .inr m) r1.own
  have R2 : Rel C io H2 σ δ2 fp2 ex := r2.rel.drop fun a z => .inl (.inl z)
  have q1 : Da G H2 (fun a => c = true → Lf C fp2 ex a) x u.data := by
    refine o1.da (fun a l _ z => ?_) (fun a m z => ?_)
    · exact ⟨(l z).1, fun w => (l z).2.1 (.inl (.inl w)), (l z).2.2⟩
    · have := R.newOk (r1.fresh a m)
      exact ⟨fun ⟨i, w⟩ => r2.rel.dx i a w (.inl (.inr m)), this.2.1, .inr this.2.2⟩
  have q2 := r2.da r1.rel
  refine k H2 x y u v δ2 fp2 R2 (r1.stp.trans r2.stp) (q1.wide fun a l _ z => l (by rw [Bool.and_eq_true] at z; exact z.1)) (q2.wide fun a l _ z => ?_) h2
  have l := l (by rw [Bool.and_eq_true] at z; exact z.2)
  exact ⟨l.1, fun w => l.2.1 (.inl w), l.2.2⟩

noncomputable def P2s (G : PySem.W.Frag) (r : R2) (rp : PyData → PyData → (PyData → Prop) → Prop) : Prop := ∀ (H : Hp) (L : Addr → Prop) (x y : V) (d e : PyData) (k : PyData → Prop) (Q : VK), Da G H L x d → Da G H L y e → rp d e k → (∀ v d', ScD v d' → k d' → Q v H) → r x y H Q
noncomputable def P2 (G : PySem.W.Frag) (r : R2) (rp : PyData → PyData → (OT → Prop) → Prop) : Prop := ∀ (H : Hp) (L : Addr → Prop) (x y : V) (d e : PyData) (k : OT → Prop) (Q : VK), Da G H L x d → Da G H L y e → rp d e k →
  (∀ H' v o new, Same H H' → Own G H' (fun a => (L a ∨ H a = none) ∧ a ∉ new) v o new → new.Nodup → (∀ a ∈ new, H a = none) → k o → Q v H') → r x y H Q
noncomputable def mBinS (rp : PyData → PyData → (PyData → Prop) → Prop) (ma mb : MEt) : MEt := fun δ K => ma δ fun x δ1 => mb δ1 fun y δ2 => rp x.data y.data fun d => K (.fz d) δ2
noncomputable def mBin (rp : PyData → PyData → (OT → Prop) → Prop) (ma mb : MEt) : MEt := fun δ K => ma δ fun x δ1 => mb δ1 fun y δ2 => rp x.data y.data fun d => K d δ2
theorem sBinS {r : R2} {rp} {ta tb : TE} (P : P2s G r rp) (ha : SE G io p c ta ma) (hb : SE G io p' c' tb mb) (hc : p' = true ∨ c = true) : SE G io (p && p') true (tOp r ta tb) (mBinS rp ma mb) := by
  intro C H σ δ fp ex K Q R h k
  refine SE.two (K := fun x y δ2 => rp x.data y.data fun d => K (.fz d) δ2) (Q := fun x y H2 => r x y H2 Q) ha hb hc R h fun H' x y u v δ' fp' R' S q1 q2 h' => ?_
  exact P H' _ x y _ _ _ _ q1 q2 h' fun w d' sc h'' => k H' w _ δ' fp' [] (.fz R' S sc.da) h''
theorem sBin {r : R2} {rp} {ta tb : TE} (P : P2 G r rp) (ha : SE G io p c ta ma) (hb : SE G io p' c' tb mb) (hc : p' = true ∨ c = true) : SE G io (p && p') (c && c') (tOp r ta tb) (mBin rp ma mb) := by
  intro C H σ δ fp ex K Q R h k
  refine SE.two (K := fun x y δ2 => rp x.data y.data fun d => K d δ2) (Q := fun x y H2 => r x y H2 Q) ha hb hc R h fun H' x y u v δ' fp' R' S q1 q2 h' => ?_
  exact P H' _ x y _ _ _ _ q1 q2 h' fun H2 w o new s ow nd hn h'' => k H2 w o δ' fp' new (RE.tree R R' S s hn nd ow) h''
theorem m_opS {op : Operator} {r : R2} {rp} {pos : Pos} (ho : OpR X (binaryOp op) r) (P : P2s X.K r rp) (ha : ME X io p c a ma) (hb : ME X io p' c' b mb) (hc : p' = true ∨ c = true) : ME X io (p && p') true (.BinOp a op b pos) (mBinS rp ma mb) :=
  let ⟨_, A, sa⟩ := ha
  let ⟨_, B, sb⟩ := hb
  ⟨_, pe_op ho A B, sBinS P sa sb hc⟩
theorem m_op {op : Operator} {r : R2} {rp} {pos : Pos} (ho : OpR X (binaryOp op) r) (P : P2 X.K r rp) (ha : ME X io p c a ma) (hb : ME X io p' c' b mb) (hc : p' = true ∨ c = true) : ME X io (p && p') (c && c') (.BinOp a op b pos) (mBin rp ma mb) :=
  let ⟨_, A, sa⟩ := ha
  let ⟨_, B, sb⟩ := hb
  ⟨_, pe_op ho A B, sBin P sa sb hc⟩
theorem m_cmp {op : CmpOp} {r : R2} {rp} {pos : Pos} (ho : OpR X (compareOp op) r) (P : P2s X.K r rp) (ha : ME X io p c a ma) (hb : ME X io p' c' b mb) (hc : p' = true ∨ c = true) (hm : behindInMarks op b = false) : ME X io (p && p') true (.Compare a [op] [b] pos) (mBinS rp ma mb) :=
  let ⟨_, A, sa⟩ := ha
  let ⟨_, B, sb⟩ := hb
  ⟨_, pe_cmpR ho A B hm, sBinS P sa sb hc⟩
theorem m_ix {r : R2} {rp} {pos : Pos} (ho : IxR X r) (P : P2 X.K r rp) (ha : ME X io p c a ma) (hb : ME X io p' c' b mb) (hc : p' = true ∨ c = true) (hs : PlainIx b) : ME X io (p && p') (c && c') (.Subscript a b pos) (mBin rp ma mb) :=
  let ⟨_, A, sa⟩ := ha
  let ⟨_, B, sb⟩ := hb
  ⟨_, pe_ix ho A B hs, sBin P sa sb hc⟩
noncomputable def kB (K : Bool → DEnv → Prop) : OT → DEnv → Prop := fun o δ => match o with | .fz (.bool b) => K b δ | _ => False
theorem sTest {t : TE} (h : SE G io p c t m) : STt G io p (tTest t) (fun δ K => m δ (kB K)) := by
  intro C H σ δ fp ex K Q R h' k
  refine h C H σ δ fp ex _ _ R h' fun H' v r δ' fp' new r1 h1 => ?_
  cases r with
  | nd ts => exact h1.elim
  | fz d =>
    cases d with
    | bool b =>
      cases r1.own with
      | fz q =>
        cases q
        exact ⟨b, rfl, k H' b δ' fp' r1.base r1.stp h1⟩
    | _ => exact h1.elim
theorem mt_cmp {op : CmpOp} {r : R2} {rp} {pos : Pos} (ho : OpR X (compareOp op) r) (P : P2s X.K r rp) (ha : ME X io p c a ma) (hb : ME X io p' c' b mb) (hc : p' = true ∨ c = true) (hm : behindInMarks op b = false) :
    MT X io (p && p') (.Compare a [op] [b] pos) (fun δ K => mBinS rp ma mb δ (kB K)) :=
  let ⟨_, A, sa⟩ := ha
  let ⟨_, B, sb⟩ := hb
  ⟨_, pt_cmpR ho A B hm, sTest (sBinS P sa sb hc)⟩
end
end L2

set_option Elab.async false
set_option linter.all false
set_option maxRecDepth 100000
set_option maxHeartbeats 4000000
namespace L2
open PySem PySem.Spec PyProof.Rows
variable {G : PySem.W.Frag}

section
variable {X : Cx} {io : List Nat} {p p' p'' c c' : Bool} {e a b : Expr} {m ma mb : MEt} {es rest : List Expr} {ta tb : MTt} {pos : Pos}
noncomputable def mNot (t : MTt) : MTt := fun δ K => t δ fun b δ' => K (!b) δ'
noncomputable def mAnd (t u : MTt) : MTt := fun δ K => t δ fun b δ' => if b = true then u δ' K else K false δ'
noncomputable def mOr (t u : MTt) : MTt := fun δ K => t δ fun b δ' => if b = true then K true δ' else u δ' K
theorem mt_not (h : MT X io p a ta) : MT X io p (.UnaryOp .Not a pos) (mNot ta) :=
  let ⟨_, A, sa⟩ := h
  ⟨_, pt_not A, fun C H σ δ fp ex K Q R h k => sa C H σ δ fp ex _ _ R h fun H' b δ' fp' R' S h' => k H' (!b) δ' fp' R' S h'⟩
theorem mw_or1 (h : MT X io p a ta) : MW X io p (.BoolOp .Or [a] pos) ta :=
  let ⟨_, A, sa⟩ := h
  ⟨_, pw_or1 A, sa⟩
theorem Stp.andL {H H' : Hp} {δ δ' : DEnv} {fp fp' : Fp} (S : Stp p H δ fp H' δ' fp') : Stp (p && p') H δ fp H' δ' fp' := by
  have := S.trans (Stp.refl p' H' δ' fp')
  exact this
theorem mw_or (h : MT X io p a ta) (g : MW X io p' (.BoolOp .Or (b :: rest) pos) tb) : MW X io (p && p') (.BoolOp .Or (a :: b :: rest) pos) (mOr ta tb) :=
  let ⟨_, A, sa⟩ := h
  let ⟨_, B, sb⟩ := g
  ⟨_, pw_or A B, fun C H σ δ fp ex K Q R h k => sa C H σ δ fp ex _ _ R h fun H' b δ' fp' R' S h' => by
    cases b with
    | true =>
      rw [if_pos rfl] at h' ⊢
      exact k H' true δ' fp' R' S.andL h'
    | false =>
      rw [if_neg Bool.false_ne_true] at h' ⊢
      exact sb C H' σ δ' fp' ex _ _ R' h' fun H2 b2 δ2 fp2 R2 S2 h2 => k H2 b2 δ2 fp2 R2 (S.trans S2) h2⟩
theorem MW.mt (h : MW X io p e ta) : MT X io p e ta :=
  let ⟨_, A, sa⟩ := h
  ⟨_, A.pt, sa⟩
noncomputable def truD : PyData → Option Bool
  | .none => some false
  | .bool b => some b
  | .int i => some (i != 0)
  | .list ds => some (!ds.isEmpty)
  | .tuple ds => some (!ds.isEmpty)
  | _ => none
noncomputable def mTru (m : MEt) : MTt := fun δ K => m δ fun r δ' => match truD r.data with | some b => K b δ' | none => False
theorem Das.isEmpty {H : Hp} {L : Addr → Prop} {xs : List V} {ds : List PyData} (h : Das G H L xs ds) : xs.isEmpty = ds.isEmpty := by cases h <;> rfl
theorem mt_tru (ha : ME X io p c a ma) (he : ∀ whole, isTrue a X.env whole = (do let v ← whole; standAt a.pos; holding [v] (truthy v))) : MT X io p a (mTru ma) :=
  let ⟨_, A, sa⟩ := ha
  ⟨_, pt_truK rfl A he, fun C H σ δ fp ex K' Q R h k => sa C H σ δ fp ex _ _ R h fun H' v r δ' fp' new r1 h1 => by
    have q := r1.da R
    generalize r.data = d at q h1
    cases q with
    | non => exact ⟨_, rfl, k H' _ δ' fp' r1.base r1.stp h1⟩
    | bl b => exact ⟨_, rfl, k H' _ δ' fp' r1.base r1.stp h1⟩
    | int b => exact ⟨_, rfl, k H' _ δ' fp' r1.base r1.stp h1⟩
    | str x => exact h1.elim
    | lst _ e q => exact ⟨_, .inl ⟨_, .inl e, rfl⟩, k H' _ δ' fp' r1.base r1.stp (by rw [q.isEmpty]; exact h1)⟩
    | tup e q => exact ⟨_, .inr (.inl ⟨_, .inl (.inl e), rfl⟩), k H' _ δ' fp' r1.base r1.stp (by rw [q.isEmpty]; exact h1)⟩
    | scr q => exact ⟨_, .inl ⟨_, q.sq, rfl⟩, k H' _ δ' fp' r1.base r1.stp (by simpa [truD] using h1)⟩
    | exc _ _ => exact h1.elim⟩
noncomputable def asB (d : PyData) (k : Bool → Prop) : Prop := match d with | .bool b => k b | _ => False
noncomputable def mAndV (a b : MEt) : MEt := fun δ K => a δ fun x δ1 => asB x.data fun c => if c = true then b δ1 K else K (.fz (.bool false)) δ1
noncomputable def mOrV (a b : MEt) : MEt := fun δ K => a δ fun x δ1 => asB x.data fun c => if c = true then K (.fz (.bool true)) δ1 else b δ1 K
noncomputable def mNotV (a : MEt) : MEt := fun δ K => a δ fun x δ1 => asB x.data fun c => K (.fz (.bool (!c))) δ1
noncomputable def mIf (t : MTt) (a b : MEt) : MEt := fun δ K => t δ fun c δ1 => if c = true then a δ1 K else b δ1 K
theorem Da.boolInv {H : Hp} {L : Addr → Prop} {v : V} {d : PyData} {k : Bool → Prop} (q : Da G H L v d) (h : asB d k) : ∃ b, v = .bl b ∧ k b := by
  cases q with
  | bl b => exact ⟨b, rfl, h⟩
  | _ => exact h.elim
theorem RE.step {C : MC G} {H H1 H2 : Hp} {σ : St} {δ δ1 δ2 : DEnv} {fp fp1 fp2 : Fp} {ex : Addr → Prop} {v : V} {r : OT} {new : List Addr} (S : Stp p H δ fp H1 δ1 fp1) (R : RE C io p' c H1 σ δ1 fp1 ex H2 v r δ2 fp2 new) :
    RE C io (p && p') c H σ δ fp ex H2 v r δ2 fp2 new := ⟨R.rel, S.trans R.stp, R.own, R.nd, fun a m => S.al a (R.fresh a m)⟩
theorem m_one {op} (h : ME X io p c a ma) : ME X io p c (.BoolOp op [a] pos) ma :=
  let ⟨_, A, sa⟩ := h
  ⟨_, pe_one A, sa⟩
theorem m_and (ha : ME X io p c a ma) (hb : ME X io p' c' (.BoolOp .And (b :: rest) pos) mb) : ME X io (p && p') c' (.BoolOp .And (a :: b :: rest) pos) (mAndV ma mb) :=
  let ⟨_, A, sa⟩ := ha
  let ⟨_, B, sb⟩ := hb
  ⟨_, pe_and A B, fun C H σ δ fp ex K Q R h k => sa C H σ δ fp ex _ _ R h fun H' v r δ' fp' new r1 h1 => by
    obtain ⟨b, rfl, h1⟩ := (r1.da R).boolInv h1
    refine ⟨b, rfl, ?_⟩
    cases b with
    | true =>
      rw [if_pos rfl] at h1 ⊢
      exact sb C H' σ δ' fp' ex _ _ r1.base h1 fun H2 w r2 δ2 fp2 new2 R2 h2 => k H2 w r2 δ2 fp2 new2 (R2.step r1.stp) h2
    | false =>
      rw [if_neg Bool.false_ne_true] at h1 ⊢
      exact k H' _ _ δ' fp' [] (RE.fz r1.base r1.stp.andL (.bl false)) h1⟩
theorem m_not (ha : ME X io p c a ma) : ME X io p true (.UnaryOp .Not a pos) (mNotV ma) :=
  let ⟨_, A, sa⟩ := ha
  ⟨_, pe_not A, fun C H σ δ fp ex K Q R h k => sa C H σ δ fp ex _ _ R h fun H' v r δ' fp' new r1 h1 => by
    obtain ⟨b, rfl, h1⟩ := (r1.da R).boolInv h1
    exact ⟨b, rfl, k H' _ _ δ' fp' [] (RE.fz r1.base r1.stp (.bl _)) h1⟩⟩
theorem Stp.cast {p p' : Bool} {H H' : Hp} {δ δ' : DEnv} {fp fp' : Fp} (h : p' = true → p = true) (S : Stp p H δ fp H' δ' fp') : Stp p' H δ fp H' δ' fp' :=
  ⟨fun b o e q => S.keep b o e (q.imp h id), fun q => S.env (h q), S.grow, S.al⟩
end

section
variable {X : Cx} {io : List Nat} {p p' p'' c c' : Bool} {e a b : Expr} {m ma mb : MEt} {es rest : List Expr} {mr : MAt} {pos : Pos}
noncomputable def mNil : MAt := fun δ K => K [] δ
noncomputable def mCons (m : MEt) (mr : MAt) : MAt := fun δ K => m δ fun r δ1 => mr δ1 fun rs δ2 => K (r :: rs) δ2
theorem ma_nil : MA X io true true [] mNil := ⟨_, pa_nil, fun C H σ δ fp ex K Q R h k => k H [] [] δ fp [] ⟨R.drop fun a z => exu_nil.mp z, .refl _ _ _ _, .nil, .nil, fun a m => nomatch m⟩ h⟩
theorem ma_cons (ha : ME X io p c e m) (hr : MA X io p' c' es mr) (hc : p' = true ∨ c = true) (hs : starEach (e :: es) X.env = (false, eval e X.env) :: starEach es X.env := by rfl) : MA X io (p && p') (c && c') (e :: es) (mCons m mr) := by
  obtain ⟨tA, A, sa⟩ := ha
  obtain ⟨tB, B, sb⟩ := hr
  refine ⟨_, pa_cons A B hs, fun C H σ δ fp ex K Q R h k => ?_⟩
  refine sa C H σ δ fp ex _ _ R h fun H1 x u δ1 fp1 new1 r1 h1 => ?_
  refine sb C H1 σ δ1 fp1 (exu ex new1) _ _ r1.rel h1 fun H2 ys us δ2 fp2 new2 r2 h2 => ?_
  have o1 := r1.rel.own_step (ex' := exu (exu ex new1) new2) r2.stp (c := c) hc (fun a z => z.imp id fun z => r2.fresh a z) (fun a m => .inr m) r1.own
  have eqx : ∀ a, exu ex (new1 ++ new2) a → exu (exu ex new1) new2 a := fun a z => by
    rcases z with z | z
    · exact .inl (.inl z)
    · rcases List.mem_append.mp z with z | z
      · exact .inl (.inr z)
      · exact .inr z
  refine k H2 (x :: ys) (u :: us) δ2 fp2 (new1 ++ new2) ⟨r2.rel.drop eqx, r1.stp.trans r2.stp, .cons (o1.wide fun a l _ z => ?_) (r2.own.wide fun a l _ z => ?_), ?_, ?_⟩ h2
  · have l := l (by rw [Bool.and_eq_true] at z; exact z.1)
    exact ⟨l.1, fun w => l.2.1 (eqx a w), l.2.2⟩
  · have l := l (by rw [Bool.and_eq_true] at z; exact z.2)
    exact ⟨l.1, fun w => l.2.1 (eqx a w), l.2.2⟩
  · refine List.nodup_append.mpr ⟨r1.nd, r2.nd, fun a m b m' z => ?_⟩
    subst z
    obtain ⟨xs, e⟩ := r1.own.some a m
    rw [r2.fresh a m'] at e
    cases e
  · intro a m
    rcases List.mem_append.mp m with m | m
    · exact r1.fresh a m
    · exact r1.stp.al a (r2.fresh a m)
noncomputable def mTup (m : MAt) : MEt := fun δ K => m δ fun rs δ' => rs.length ≤ sizeLine ∧ K (.fz (.tuple (OT.datas rs))) δ'
noncomputable def mLst (m : MAt) : MEt := fun δ K => m δ fun rs δ' => rs.length ≤ sizeLine ∧ K (.nd rs) δ'
theorem m_tup {x1} (h : MA X io p c es mr) : ME X io p c (.Tuple es x1 pos) (mTup mr) := by
  obtain ⟨tA, A, sa⟩ := h
  refine ⟨_, pe_tup A, fun C H σ δ fp ex K Q R h k => ?_⟩
  refine sa C H σ δ fp ex _ _ R h fun H1 vs rs δ1 fp1 new1 r1 h1 => ⟨by rw [r1.own.length]; exact h1.1, fun q hq => ?_⟩
  have s := same_new hq (.tup vs)
  have R1 := r1.base
  have S := r1.stp.trans (p' := true) (Stp.same (p := true) (δ := δ1) (fp := fp1) s s.al)
  rw [Bool.and_true] at S
  refine k _ _ _ δ1 fp1 [] (.fz ?_ S (.tup upd_same ((r1.das R).same s))) h1.2
  exact (R1.made (new := []) s fun a m => nomatch m).drop fun a z => .inl z
theorem m_lst (h : MA X io p c es mr) : ME X io p c (.List es pos) (mLst mr) := by
  obtain ⟨tA, A, sa⟩ := h
  refine ⟨_, pe_lst A, fun C H σ δ fp ex K Q R h k => ?_⟩
  refine sa C H σ δ fp ex _ _ R h fun H1 vs rs δ1 fp1 new1 r1 h1 => ⟨by rw [r1.own.length]; exact h1.1, fun q hq => ?_⟩
  have s := same_new hq (.lst vs)
  have S := r1.stp.trans (p' := true) (Stp.same (p := true) (δ := δ1) (fp := fp1) s s.al)
  rw [Bool.and_true] at S
  have hqn : q ∉ new1 := fun m => by
    obtain ⟨xs, e⟩ := r1.own.some q m
    rw [hq] at e; cases e
  have R2 := (r1.rel.made (new := [q]) s fun a m => by
    rcases List.mem_singleton.mp m with rfl
    exact ⟨hq, by rw [upd_same]; intro z; cases z⟩)
  have eqx : ∀ a, exu ex (q :: new1) a → exu (exu ex new1) [q] a := fun a z => by
    rcases z with z | z
    · exact .inl (.inl z)
    · rcases List.mem_cons.mp z with z | z
      · exact .inr (List.mem_singleton.mpr z)
      · exact .inl (.inr z)
  refine k _ _ _ δ1 fp1 (q :: new1) ⟨R2.drop eqx, S, .nd upd_same ((r1.own.wide fun a l w z => ?_).same s), List.nodup_cons.mpr ⟨hqn, r1.nd⟩, fun a m => ?_⟩ h1.2
  · have l := l z
    refine ⟨l.1, fun y => ?_, l.2.2⟩
    rcases eqx a y with y | y
    · exact l.2.1 y
    · rcases List.mem_singleton.mp y with rfl
      exact w hq
  · rcases List.mem_cons.mp m with rfl | m
    · exact r1.stp.al _ hq
    · exact r1.fresh a m
end
end L2

set_option Elab.async false
set_option linter.all false
set_option maxRecDepth 100000
set_option maxHeartbeats 4000000
namespace L2
open PySem PySem.Spec PyProof.Rows
variable {G : PySem.W.Frag}

noncomputable def spD (G : PySem.W.Frag) (S : List PyData → (OT → Prop) → Prop) : Sp := fun vs H Q _ => ∃ L ds k, Das G H L vs ds ∧ S ds k ∧
  ∀ r v H' new, k r → Same H H' → Own G H' (fun a => (L a ∨ H a = none) ∧ a ∉ new) v r new → new.Nodup → (∀ a ∈ new, H a = none) → Q v H'
noncomputable def spI (G : PySem.W.Frag) (S : OT → List PyData → (OT → OT → Prop) → Prop) : Sp := fun vs H Q _ => ∃ L v0 t0 as vs' ds k, vs = v0 :: vs' ∧ Own G H L v0 t0 as ∧ as.Nodup ∧ (∀ a ∈ as, ¬ L a) ∧ Das G H L vs' ds ∧ S t0 ds k ∧
  ∀ r t' v H' new as', k r t' → (∀ b o, H b = some o → b ∉ as → H' b = some o) → (∀ b, H' b = none → H b = none) →
    Own G H' (fun a => (L a ∨ H a = none) ∧ a ∉ new ∧ a ∉ as') v r new → Own G H' (fun a => (L a ∨ H a = none) ∧ a ∉ new ∧ a ∉ as') v0 t' as' → (as' ++ new).Nodup → (∀ a ∈ new, H a = none) → (∀ a ∈ as', a ∈ as ∨ H a = none) → Q v H'
section
variable {X : Cx} {io : List Nat} {p p' p'' c c' : Bool} {e a b : Expr} {m ma mb : MEt} {es rest : List Expr} {mr : MAt} {pos : Pos}
variable {CX : CXT} {k : Nat} {f : Addr} {fd : FuncData} {ps : List Str} {E : XK} {x : Str} {pp : Pos}
noncomputable def mCall (S : List PyData → (OT → Prop) → Prop) (mr : MAt) : MEt := fun δ K => mr δ fun rs δ1 => S (OT.datas rs) fun r => K r δ1
theorem sCall {S} {t : TA} (sa : SA G io p c t mr) : SE G io p c (tCall (spD G S) [] E t) (mCall S mr) := by
  intro C H σ δ fp ex K Q R h kk
  refine sa C H σ δ fp ex _ _ R h fun H1 vs rs δ1 fp1 new1 r1 h1 => ?_
  rw [List.append_nil]
  refine ⟨_, _, _, r1.das R, h1, fun r v H' new kr s o nd hn => ?_⟩
  exact kk H' v r δ1 fp1 new (RE.tree R r1.base r1.stp s hn nd o) kr
theorem m_call {S} (F : FnOk X.prog X.w X.K X.mg X.base CX k f fd ps (spD X.K S)) (hr : Room k X.A) (hg : Gl X x) (hm : X.mg x = some (.ref f)) (hk : PySem.W.keepIn X.K (.ref f) = true) (hb : Binds X.K fd ps []) (hx : Passes CX X E)
    (ha : MA X io p c (e :: es) mr) (hdb : (x == ("__debug__" : Str)) = false := by decide) (he : starEach (e :: es) X.env = (false, eval e X.env) :: starEach es X.env := by rfl) (hpl : (backTo pos (starEach es X.env)).any (·.1) = false := by rfl) :
    ME X io p c (.Call (.Name x pp) (e :: es) [] pos) (mCall S mr) := by
  obtain ⟨_, A, sa⟩ := ha
  exact ⟨_, pe_call F hr hg hm hk hb .nil hx A hdb he hpl, sCall sa⟩
noncomputable def mCallI (i : Nat) (S : OT → List PyData → (OT → OT → Prop) → Prop) (mr : MAt) : MEt := fun δ K => match δ[i]? with
  | some (some _) => mr δ fun rs δ1 => match δ1[i]? with
    | some (some t) => S t (OT.datas rs) fun r t' => K r (δ1.set i (some t'))
    | _ => False
  | _ => False
noncomputable def fpu (fp : Fp) (i : Nat) (as : List Addr) : Fp := fun j => if j = i then as else fp j
theorem fpu_same {fp : Fp} {i : Nat} {as : List Addr} : fpu fp i as i = as := if_pos rfl
theorem fpu_ne {fp : Fp} {i j : Nat} {as : List Addr} (h : j ≠ i) : fpu fp i as j = fp j := if_neg h
theorem Foot.of_u {fp : Fp} {i : Nat} {as : List Addr} {a : Addr} (h : Foot (fpu fp i as) a) : a ∈ as ∨ ∃ j, j ≠ i ∧ a ∈ fp j := by
  obtain ⟨j, h⟩ := h
  by_cases e : j = i
  · subst e; rw [fpu_same] at h; exact .inl h
  · rw [fpu_ne e] at h; exact .inr ⟨j, e, h⟩
theorem Rel.change {C : MC G} {H H' : Hp} {σ : St} {δ : DEnv} {fp : Fp} {ex : Addr → Prop} {i : Nat} {t t' : OT} {v : V} {as' new : List Addr} (R : Rel C io H σ δ fp ex) (hi : δ[i]? = some (some t)) (hv : σ[i]? = some (some v))
    (keep : ∀ b o, H b = some o → b ∉ fp i → H' b = some o) (al : ∀ b, H' b = none → H b = none) (o : Own G H' (Lf C (fpu fp i as') (exu ex new)) v t' as') (nd : as'.Nodup) (new' : ∀ a ∈ as', a ∈ fp i ∨ H a = none)
    (hn : ∀ a ∈ new, H a = none ∧ H' a ≠ none ∧ a ∉ as') :
    Rel C io H' σ (δ.set i (some t')) (fpu fp i as') (exu ex new) ∧ Stp false H δ fp H' (δ.set i (some t')) (fpu fp i as') := by
  have hil : i < δ.length := (List.getElem?_eq_some_iff.mp hi).1
  have apart : ∀ j a, j ≠ i → a ∈ fp j → a ∉ as' := fun j a e m z => by
    rcases new' a z with z | z
    · exact e (R.dj j i a m z)
    · exact R.footSome z ⟨j, m⟩
  constructor
  · refine ⟨by rw [List.length_set]; exact R.len, fun j t'' e => ?_, fun j h => ?_, fun j => ?_, fun j k a h1 h2 => ?_, fun j a h z => ?_, fun a z w => z.elim (fun z => R.xa a z (al a w)) (fun z => (hn a z).2.1 w), fun b ob e n => ?_, fun b z => R.al b (al b z), fun j a h => ?_, R.io⟩
    · by_cases ej : j = i
      · subst ej
        rw [List.getElem?_set_self hil] at e
        cases e
        exact ⟨v, hv, by rw [fpu_same]; exact o⟩
      · rw [List.getElem?_set_ne (Ne.symm ej)] at e
        obtain ⟨w, e1, o1⟩ := R.own j t'' e
        refine ⟨w, e1, ?_⟩
        rw [fpu_ne ej]
        refine o1.frame (fun a xs l q => ?_) (fun a xs q => keep a _ q fun z => ?_) fun a m xs q => keep a _ q fun z => ej (R.dj j i a m z)
        · have na : a ∉ fp i := fun z => l.1 ⟨i, z⟩
          refine ⟨⟨fun z => ?_, fun z => z.elim l.2.1 fun z => q.some (hn a z).1, l.2.2⟩, ?_⟩
          · rcases z.of_u with z | ⟨k, _, z⟩
            · rcases new' a z with z | z
              · exact na z
              · exact q.some z
            · exact l.1 ⟨k, z⟩
          · rcases q with q | ⟨u, q⟩
            · exact .inl (keep a _ q na)
            · exact .inr ⟨u, keep a _ q na⟩
        · obtain ⟨ys, e⟩ := R.foot ⟨i, z⟩
          exact ImO.nl q e
    · by_cases ej : j = i
      · subst ej
        exact absurd (List.getElem?_set_self hil) (h t')
      · rw [fpu_ne ej]
        refine R.emp j fun t'' z => h t'' ?_
        rw [List.getElem?_set_ne (Ne.symm ej)]
        exact z
    · by_cases ej : j = i
      · subst ej; rw [fpu_same]; exact nd
      · rw [fpu_ne ej]; exact R.nd j
    · by_cases ej : j = i
      · subst ej
        rw [fpu_same] at h1
        by_cases ek : k = j
        · exact ek.symm
        · rw [fpu_ne ek] at h2
          exact absurd h1 (apart k a ek h2)
      · rw [fpu_ne ej] at h1
        by_cases ek : k = i
        · subst ek
          rw [fpu_same] at h2
          exact absurd h2 (apart j a ej h1)
        · rw [fpu_ne ek] at h2
          exact R.dj j k a h1 h2
    · by_cases ej : j = i
      · subst ej
        rw [fpu_same] at h
        rcases z with z | z
        · rcases new' a h with w | w
          · exact R.dx _ a w z
          · exact R.xa a z w
        · exact (hn a z).2.2 h
      · rw [fpu_ne ej] at h
        rcases z with z | z
        · exact R.dx j a h z
        · exact R.footSome (hn a z).1 ⟨j, h⟩
    · refine keep b ob (R.fr b ob e n) fun z => ?_
      rcases R.new i b z with w | w
      · exact n w.2
      · rw [e] at w; cases w
    · by_cases ej : j = i
      · subst ej
        rw [fpu_same] at h
        rcases new' a h with w | w
        · exact R.new _ a w
        · exact .inr (R.al a w)
      · rw [fpu_ne ej] at h
        exact R.new j a h
  · refine ⟨fun b ob e q => keep b ob e fun z => (q.resolve_left (by decide)) ⟨i, z⟩, fun z => (nomatch z), fun a z => ?_, al⟩
    rcases z.of_u with z | ⟨j, _, z⟩
    · exact (new' a z).imp (fun w => ⟨i, w⟩) id
    · exact .inl ⟨j, z⟩
theorem sCallI {S} {i : Nat} {t : TA} (sa : SA G io p true t mr) : SE G io false true (tCall (spI G S) [] E (tCons (tVar i) t)) (mCallI i S mr) := by
  intro C H σ δ fp ex K Q R h kk
  unfold mCallI at h
  split at h
  case h_2 => exact h.elim
  rename_i t0 hi0
  obtain ⟨v0, hv, _⟩ := R.own i t0 hi0
  refine ⟨v0, hv, ?_⟩
  refine sa C H σ δ fp ex _ _ R h fun H1 vs rs δ1 fp1 new1 r1 h1 => ?_
  show spI G S ((v0 :: vs) ++ []) H1 Q E
  rw [List.append_nil]
  split at h1
  case h_2 => exact h1.elim
  rename_i t1 hi1
  have R1 := r1.base
  obtain ⟨v1, hv1, o1⟩ := R1.own i t1 hi1
  rw [hv] at hv1
  cases hv1
  refine ⟨Lf C fp1 ex, v0, t1, fp1 i, vs, _, _, rfl, o1, R1.nd i, fun a m l => l.1 ⟨i, m⟩, (r1.das R).wide fun a l _ => l rfl, h1, ?_⟩
  intro r t' v H' new as' kr keep al orr ot nd hn ha
  have nd2 := List.nodup_append.mp nd
  have lw : ∀ a, ((Lf C fp1 ex a ∨ H1 a = none) ∧ a ∉ new ∧ a ∉ as') → H' a ≠ none → Lf C (fpu fp1 i as') (exu ex new) a := fun a l _ => by
    have hf : ¬ Foot (fpu fp1 i as') a := fun z => by
      rcases z.of_u with z | ⟨j, _, z⟩
      · exact l.2.2 z
      · rcases l.1 with l1 | l1
        · exact l1.1 ⟨j, z⟩
        · exact R1.footSome l1 ⟨j, z⟩
    rcases l.1 with l1 | l1
    · exact ⟨hf, fun z => z.elim l1.2.1 l.2.1, l1.2.2⟩
    · have := R1.newOk l1
      exact ⟨hf, fun z => z.elim this.2.1 l.2.1, .inr this.2.2⟩
  have hnn : ∀ a ∈ new, H' a ≠ none := fun a m z => by
    obtain ⟨xs, e⟩ := orr.some a m
    rw [z] at e; cases e
  obtain ⟨R2, S2⟩ := R1.change (new := new) hi1 hv keep al (ot.wide lw) nd2.1 ha (fun a m => ⟨hn a m, hnn a m, fun z => nd2.2.2 a z a m rfl⟩)
  refine kk H' v r _ _ new ⟨R2, ?_, orr.wide fun a l q _ => lw a l q, nd2.2.1, fun a m => r1.stp.al a (hn a m)⟩ kr
  exact (r1.stp.trans S2).cast fun z => nomatch z
theorem m_callI {S} {i : Nat} {y : Str} {py : Pos} (F : FnOk X.prog X.w X.K X.mg X.base CX k f fd ps (spI X.K S)) (hr : Room k X.A) (hg : Gl X x) (hm : X.mg x = some (.ref f)) (hk : PySem.W.keepIn X.K (.ref f) = true) (hb : Binds X.K fd ps []) (hx : Passes CX X E)
    (ha : MA X io p true es mr) (hN : X.N[i]? = some y := by rfl) (hv : Vis X.env.scope y := by first | exact Or.inl rfl | exact Or.inr (Or.inl rfl) | exact Or.inr (Or.inr rfl)) (hd : (y == ("__debug__" : Str)) = false := by decide)
    (hcd : (y == ("__classdict__" : Str)) = false := by decide)
    (hdb : (x == ("__debug__" : Str)) = false := by decide) (he : starEach (.Name y py :: es) X.env = (false, eval (.Name y py) X.env) :: starEach es X.env := by rfl) (hpl : (backTo pos (starEach es X.env)).any (·.1) = false := by rfl) :
    ME X io false true (.Call (.Name x pp) (.Name y py :: es) [] pos) (mCallI i S mr) := by
  obtain ⟨_, A, sa⟩ := ha
  exact ⟨_, pe_call F hr hg hm hk hb .nil hx (pa_cons (pv i hN hv hd hcd) A he) hdb he hpl, sCallI sa⟩

noncomputable def PNs (G : PySem.W.Frag) (r : List V → Hp → VK → Prop) (rp : List PyData → (PyData → Prop) → Prop) : Prop := ∀ (H : Hp) (L : Addr → Prop) (xs : List V) (ds : List PyData) (k : PyData → Prop) (Q : VK), Das G H L xs ds → rp ds k → (∀ v d', ScD v d' → k d' → Q v H) → r xs H Q
noncomputable def PN (G : PySem.W.Frag) (r : List V → Hp → VK → Prop) (rp : List PyData → (OT → Prop) → Prop) : Prop := ∀ (H : Hp) (L : Addr → Prop) (xs : List V) (ds : List PyData) (k : OT → Prop) (Q : VK), Das G H L xs ds → rp ds k →
  (∀ H' v o new, Same H H' → Own G H' (fun a => (L a ∨ H a = none) ∧ a ∉ new) v o new → new.Nodup → (∀ a ∈ new, H a = none) → k o → Q v H') → r xs H Q
noncomputable def mBlS (rp : List PyData → (PyData → Prop) → Prop) (mr : MAt) : MEt := fun δ K => mr δ fun rs δ1 => rp (OT.datas rs) fun d => K (.fz d) δ1
noncomputable def mBl (rp : List PyData → (OT → Prop) → Prop) (mr : MAt) : MEt := fun δ K => mr δ fun rs δ1 => rp (OT.datas rs) fun o => K o δ1
theorem sBlS {r rp} {t : TA} (P : PNs G r rp) (sa : SA G io p c t mr) : SE G io p true (tCB r t) (mBlS rp mr) := fun C H σ δ fp ex K Q R h kk =>
  sa C H σ δ fp ex _ _ R h fun H1 vs rs δ1 fp1 new1 r1 h1 => P H1 _ vs _ _ _ (r1.das R) h1 fun v d' sc h2 => kk H1 v _ δ1 fp1 [] (.fz r1.base r1.stp sc.da) h2
theorem sBl {r rp} {t : TA} (P : PN G r rp) (sa : SA G io p c t mr) : SE G io p c (tCB r t) (mBl rp mr) := fun C H σ δ fp ex K Q R h kk =>
  sa C H σ δ fp ex _ _ R h fun H1 vs rs δ1 fp1 new1 r1 h1 => P H1 _ vs _ _ _ (r1.das R) h1 fun H' v o new s ow nd hn h2 => kk H' v o δ1 fp1 new (RE.tree R r1.base r1.stp s hn nd ow) h2
variable {id T : String} {r : List V → Hp → VK → Prop}
theorem m_blS {rp} (P : PNs X.K r rp) (hc : CallR X (.builtin id) r) (hg : Gl X x) (hm : X.mg x = none) (hv : bootBuiltins x = some (.builtin id)) (ha : MA X io p c (e :: es) mr) (hn : x ≠ "__name__" := by decide) (hdb : (x == ("__debug__" : Str)) = false := by decide)
    (he : starEach (e :: es) X.env = (false, eval e X.env) :: starEach es X.env := by rfl) (hpl : (backTo pos (starEach es X.env)).any (·.1) = false := by rfl) : ME X io p true (.Call (.Name x pp) (e :: es) [] pos) (mBlS rp mr) := by
  obtain ⟨_, A, sa⟩ := ha
  exact ⟨_, pe_callB hc hg hm hv A hn hdb he hpl, sBlS P sa⟩
theorem m_tyS {rp} (P : PNs X.K r rp) (hc : CallR X (.type T) r) (hg : Gl X x) (hm : X.mg x = none) (hv : bootBuiltins x = some (.type T)) (ha : MA X io p c (e :: es) mr) (hn : x ≠ "__name__" := by decide) (hdb : (x == ("__debug__" : Str)) = false := by decide)
    (he : starEach (e :: es) X.env = (false, eval e X.env) :: starEach es X.env := by rfl) (hpl : (backTo pos (starEach es X.env)).any (·.1) = false := by rfl) : ME X io p true (.Call (.Name x pp) (e :: es) [] pos) (mBlS rp mr) := by
  obtain ⟨_, A, sa⟩ := ha
  exact ⟨_, pe_callTy hc hg hm hv A hn hdb he hpl, sBlS P sa⟩
theorem m_ty {rp} (P : PN X.K r rp) (hc : CallR X (.type T) r) (hg : Gl X x) (hm : X.mg x = none) (hv : bootBuiltins x = some (.type T)) (ha : MA X io p c (e :: es) mr) (hn : x ≠ "__name__" := by decide) (hdb : (x == ("__debug__" : Str)) = false := by decide)
    (he : starEach (e :: es) X.env = (false, eval e X.env) :: starEach es X.env := by rfl) (hpl : (backTo pos (starEach es X.env)).any (·.1) = false := by rfl) : ME X io p c (.Call (.Name x pp) (e :: es) [] pos) (mBl rp mr) := by
  obtain ⟨_, A, sa⟩ := ha
  exact ⟨_, pe_callTy hc hg hm hv A hn hdb he hpl, sBl P sa⟩
end
end L2

set_option Elab.async false
set_option linter.all false
set_option maxRecDepth 100000
set_option maxHeartbeats 4000000
namespace L2
open PySem PySem.Spec PyProof.Rows
variable {G : PySem.W.Frag}

mutual
noncomputable def flatD : PyData → Bool
  | .none => true
  | .bool _ => true
  | .int _ => true
  | .str _ => true
  | .tuple ds => flatDs ds
  | .list _ => false
  | .dict _ => false
noncomputable def flatDs : List PyData → Bool
  | [] => true
  | d :: ds => flatD d && flatDs ds
end
structure EndsM where
  nx : DEnv → Prop
  rt : OT → DEnv → Prop
  bk : DEnv → Prop := fun _ => False
  ct : DEnv → Prop := fun _ => False
noncomputable abbrev MSt := EndsM → DEnv → Prop
noncomputable abbrev Kp (H : Hp) (fp : Fp) (H' : Hp) (fp' : Fp) : Prop := Stp false H [] fp H' [] fp'
theorem Stp.kp {p : Bool} {H H' : Hp} {δ δ' : DEnv} {fp fp' : Fp} (S : Stp p H δ fp H' δ' fp') : Kp H fp H' fp' := ⟨fun b o e q => S.keep b o e (.inr (q.resolve_left (by decide))), fun z => (nomatch z), S.grow, S.al⟩
theorem Kp.trans {H H1 H2 : Hp} {fp fp1 fp2 : Fp} (a : Kp H fp H1 fp1) (b : Kp H1 fp1 H2 fp2) : Kp H fp H2 fp2 := Stp.trans a b
theorem Kp.refl (H : Hp) (fp : Fp) : Kp H fp H fp := Stp.refl _ _ _ _
structure RelEnds (C : MC G) (io : List Nat) (ex : Addr → Prop) (H : Hp) (fp : Fp) (D : EndsM) (D' : Ends) : Prop where
  nx : ∀ H' σ' δ' fp', Rel C io H' σ' δ' fp' ex → Kp H fp H' fp' → D.nx δ' → D'.nx σ' H'
  bk : ∀ H' σ' δ' fp', Rel C io H' σ' δ' fp' ex → Kp H fp H' fp' → D.bk δ' → D'.bk σ' H'
  ct : ∀ H' σ' δ' fp', Rel C io H' σ' δ' fp' ex → Kp H fp H' fp' → D.ct δ' → D'.ct σ' H'
  rt : ∀ H' σ' v r δ' fp' new, Rel C io H' σ' δ' fp' (exu ex new) → Own G H' (Lf C fp' (exu ex new)) v r new → new.Nodup → (∀ a ∈ new, C.H₀ a = none) → D.rt r δ' → D'.rt v H'
theorem RelEnds.shift {C : MC G} {io : List Nat} {ex : Addr → Prop} {H H1 : Hp} {fp fp1 : Fp} {D : EndsM} {D' : Ends} (E : RelEnds C io ex H fp D D') (k : Kp H fp H1 fp1) : RelEnds C io ex H1 fp1 D D' :=
  ⟨fun H' σ' δ' fp' R q => E.nx H' σ' δ' fp' R (k.trans q), fun H' σ' δ' fp' R q => E.bk H' σ' δ' fp' R (k.trans q), fun H' σ' δ' fp' R q => E.ct H' σ' δ' fp' R (k.trans q), E.rt⟩
noncomputable def SS (G : PySem.W.Frag) (io : List Nat) (t : TS) (m : MSt) : Prop := ∀ (C : MC G) (H : Hp) (σ : St) (δ : DEnv) (fp : Fp) (ex : Addr → Prop) (D : EndsM) (D' : Ends), Rel C io H σ δ fp ex → m D δ → RelEnds C io ex H fp D D' → t D' σ H
noncomputable def MS (X : Cx) (io : List Nat) (st : Stmt) (m : MSt) : Prop := ∃ t, PS X st t ∧ SS X.K io t m
noncomputable def MSs (X : Cx) (io : List Nat) (st : List Stmt) (m : MSt) : Prop := ∃ t, PSs X st t ∧ SS X.K io t m

section
variable {X : Cx} {io : List Nat} {p p' p'' c c' : Bool} {e a b : Expr} {m ma mb : MEt} {es rest : List Expr} {mr : MAt} {pos : Pos} {st : Stmt} {sts : List Stmt} {u w : MSt} {mt : MTt}
noncomputable def mNext : MSt := fun D δ => D.nx δ
noncomputable def Hold (w : MSt) (D : EndsM) (δ : DEnv) : Prop := w D δ
theorem Hold.go {w : MSt} {D : EndsM} {δ : DEnv} (h : w D δ) : Hold w D δ := h
noncomputable def mSeq (u w : MSt) : MSt := fun D δ => u { D with nx := Hold w D } δ
theorem mss_nil : MSs X io [] mNext := ⟨_, pss_nil, fun C H σ δ fp ex D D' R h E => E.nx H σ δ fp R (.refl _ _) h⟩
theorem mss_one (h : MS X io st u) : MSs X io [st] u :=
  let ⟨_, A, s⟩ := h
  ⟨_, pss_one A, s⟩
theorem mss_cons (h : MS X io st u) (g : MSs X io sts w) : MSs X io (st :: sts) (mSeq u w) :=
  let ⟨_, A, s⟩ := h
  let ⟨tb, B, s'⟩ := g
  ⟨_, pss_cons A B, fun C H σ δ fp ex D D' R h E => s C H σ δ fp ex _ _ R h ⟨fun H1 σ1 δ1 fp1 R1 k1 h1 => s' C H1 σ1 δ1 fp1 ex D D' R1 h1 (E.shift k1), E.bk, E.ct, E.rt⟩⟩
noncomputable def mBreak : MSt := fun D δ => D.bk δ
noncomputable def mCont : MSt := fun D δ => D.ct δ
noncomputable def mNever : MSt := fun _ _ => False
theorem ms_never : MS X io st mNever := ⟨_, ps_never, fun C H σ δ fp ex D D' R h E => h.elim⟩
noncomputable def mDrop (m : MEt) : MSt := fun D δ => m δ fun _ δ' => D.nx δ'
theorem ms_expr (he : ME X io p c e m) (hs : swapsWith e none pos.line X.env = pure false := by rfl) : MS X io (.Expr e pos) (mDrop m) :=
  let ⟨_, A, s⟩ := he
  ⟨_, ps_expr A hs, fun C H σ δ fp ex D D' R h E => s C H σ δ fp ex _ _ R h fun H' v r δ' fp' new r1 h1 => E.nx H' σ δ' fp' r1.base r1.stp.kp h1⟩
noncomputable def mRet (m : MEt) : MSt := fun D δ => m δ fun r δ' => D.rt r δ'
noncomputable def mRetS (m : MEt) : MSt := fun D δ => m δ fun r δ' => flatD r.data = true ∧ D.rt (.fz r.data) δ'
theorem ms_ret (he : ME X io p true e m) : MS X io (.Return (some e) pos) (mRet m) :=
  let ⟨_, A, s⟩ := he
  ⟨_, ps_ret A, fun C H σ δ fp ex D D' R h E => s C H σ δ fp ex _ _ R h fun H' v r δ' fp' new r1 h1 => E.rt H' σ v r δ' fp' new r1.rel (r1.own.wide fun a l _ => l rfl) r1.nd (fun a m => (R.newOk (r1.fresh a m)).2.2) h1⟩
noncomputable def mRetN : MSt := fun D δ => D.rt (.fz .none) δ
noncomputable def mRetO (i : Nat) : MSt := fun D δ => match δ[i]? with | some (some t) => D.rt t (δ.set i none) | _ => False
theorem Rel.take {C : MC G} {H : Hp} {σ : St} {δ : DEnv} {fp : Fp} {ex : Addr → Prop} {i : Nat} {t : OT} (R : Rel C io H σ δ fp ex) (hi : δ[i]? = some (some t)) : Rel C io H σ (δ.set i none) (fpu fp i []) (exu ex (fp i)) := by
  have hil : i < δ.length := (List.getElem?_eq_some_iff.mp hi).1
  have get : ∀ j (t' : OT), (δ.set i none)[j]? = some (some t') → j ≠ i ∧ δ[j]? = some (some t') := fun j t' e => by
    by_cases ej : j = i
    · subst ej; rw [List.getElem?_set_self hil] at e; cases e
    · rw [List.getElem?_set_ne (Ne.symm ej)] at e; exact ⟨ej, e⟩
  have sub : ∀ j a, a ∈ fpu fp i [] j → j ≠ i ∧ a ∈ fp j := fun j a m => by
    by_cases ej : j = i
    · subst ej; rw [fpu_same] at m; exact nomatch m
    · rw [fpu_ne ej] at m; exact ⟨ej, m⟩
  have lw : ∀ a, Lf C fp ex a → Lf C (fpu fp i []) (exu ex (fp i)) a := fun a l => ⟨fun ⟨j, z⟩ => l.1 ⟨j, (sub j a z).2⟩, fun z => z.elim l.2.1 fun z => l.1 ⟨i, z⟩, l.2.2⟩
  refine ⟨by rw [List.length_set]; exact R.len, fun j t' e => ?_, fun j h => ?_, fun j => ?_, fun j k a h1 h2 => R.dj j k a (sub j a h1).2 (sub k a h2).2, fun j a h z => ?_, fun a z w => ?_, R.fr, R.al, fun j a h => R.new j a (sub j a h).2, R.io⟩
  · obtain ⟨ej, e⟩ := get j t' e
    obtain ⟨w, e1, o⟩ := R.own j t' e
    exact ⟨w, e1, by rw [fpu_ne ej]; exact o.wide fun a l _ => lw a l⟩
  · by_cases ej : j = i
    · subst ej; rw [fpu_same]
    · rw [fpu_ne ej]
      exact R.emp j fun t' z => h t' (by rw [List.getElem?_set_ne (Ne.symm ej)]; exact z)
  · by_cases ej : j = i
    · subst ej; rw [fpu_same]; exact .nil
    · rw [fpu_ne ej]; exact R.nd j
  · obtain ⟨ej, h⟩ := sub j a h
    rcases z with z | z
    · exact R.dx j a h z
    · exact ej (R.dj j i a h z)
  · rcases z with z | z
    · exact R.xa a z w
    · exact R.footSome w ⟨i, z⟩
theorem ms_retO (i : Nat) {x : Str} {px : Pos} (hio : i ∉ io := by decide) (hN : X.N[i]? = some x := by rfl) (hv : Vis X.env.scope x := by first | exact Or.inl rfl | exact Or.inr (Or.inl rfl) | exact Or.inr (Or.inr rfl)) (hd : (x == ("__debug__" : Str)) = false := by decide)
    (hcd : (x == ("__classdict__" : Str)) = false := by decide) : MS X io (.Return (some (.Name x px)) pos) (mRetO i) := by
  refine ⟨_, ps_ret (pv i hN hv hd hcd), fun C H σ δ fp ex D D' R h E => ?_⟩
  unfold mRetO at h
  split at h
  case h_2 => exact h.elim
  rename_i t hi
  obtain ⟨v, e, o⟩ := R.own i t hi
  have lw : ∀ a, Lf C fp ex a → H a ≠ none → Lf C (fpu fp i []) (exu ex (fp i)) a := fun a l _ => ⟨fun z => by
    rcases z.of_u with z | ⟨j, _, z⟩
    · exact nomatch z
    · exact l.1 ⟨j, z⟩, fun z => z.elim l.2.1 fun z => l.1 ⟨i, z⟩, l.2.2⟩
  have hn : ∀ a ∈ fp i, C.H₀ a = none := fun a m => by
    rcases R.new i a m with z | z
    · exact absurd z.1 hio
    · exact z
  exact ⟨v, e, E.rt H σ v t _ _ (fp i) (R.take hi) (o.wide lw) (R.nd i) hn h⟩
noncomputable def mIfS (t : MTt) (u w : MSt) : MSt := fun D δ => t δ fun b δ' => if b = true then u D δ' else w D δ'
theorem ms_if {cnd : Expr} {ss ss' : List Stmt} (hc : MT X io p cnd mt) (ha : MSs X io ss u) (hb : MSs X io ss' w) : MS X io (.If cnd ss ss' pos) (mIfS mt u w) :=
  let ⟨_, T, s⟩ := hc
  let ⟨_, A, sa⟩ := ha
  let ⟨_, B, sb⟩ := hb
  ⟨_, ps_if T A B, fun C H σ δ fp ex D D' R h E => s C H σ δ fp ex _ _ R h fun H' b δ' fp' R' S h' => by
    cases b with
    | true =>
      rw [if_pos rfl] at h' ⊢
      exact sa C H' σ δ' fp' ex D D' R' h' (E.shift S.kp)
    | false =>
      rw [if_neg Bool.false_ne_true] at h' ⊢
      exact sb C H' σ δ' fp' ex D D' R' h' (E.shift S.kp)⟩
theorem Rel.put {C : MC G} {H : Hp} {σ : St} {δ : DEnv} {fp : Fp} {ex : Addr → Prop} {i : Nat} {v : V} {r : OT} {new : List Addr} (R : Rel C io H σ δ fp (exu ex new)) (hio : i ∉ io) (o : Own G H (Lf C fp (exu ex new)) v r new) (nd : new.Nodup)
    (hn : ∀ a ∈ new, C.H₀ a = none ∧ ¬ ex a) : ∃ fp', Rel C io H (σ.set i (some v)) (δ.set i (some r)) fp' ex ∧ ∀ a, Foot fp' a → Foot fp a ∨ a ∈ new := by
  by_cases hil : i < δ.length
  case neg =>
    refine ⟨fp, ?_, fun a h => .inl h⟩
    have hl := R.len
    rw [List.set_eq_of_length_le (show δ.length ≤ i by omega), List.set_eq_of_length_le (show σ.length ≤ i by omega)]
    exact R.drop fun a z => .inl z
  have hsl : i < σ.length := by rw [R.len]; exact hil
  have sub : ∀ a, Foot (fpu fp i new) a → Foot fp a ∨ a ∈ new := fun a z => by
    rcases z.of_u with z | ⟨j, _, z⟩
    · exact .inr z
    · exact .inl ⟨j, z⟩
  have lw : ∀ a, Lf C fp (exu ex new) a → Lf C (fpu fp i new) ex a := fun a l => ⟨fun z => (sub a z).elim l.1 fun z => l.2.1 (.inr z), fun z => l.2.1 (.inl z), l.2.2⟩
  refine ⟨fpu fp i new, ⟨by rw [List.length_set, List.length_set]; exact R.len, fun j t' e => ?_, fun j h => ?_, fun j => ?_, fun j k a h1 h2 => ?_, fun j a h z => ?_, fun a z => R.xa a (.inl z), R.fr, R.al, fun j a h => ?_, fun j hj => ?_⟩, sub⟩
  · by_cases ej : j = i
    · subst ej
      rw [List.getElem?_set_self hil] at e
      cases e
      exact ⟨v, List.getElem?_set_self hsl, by rw [fpu_same]; exact o.wide fun a l _ => lw a l⟩
    · rw [List.getElem?_set_ne (Ne.symm ej)] at e
      obtain ⟨w, e1, o1⟩ := R.own j t' e
      exact ⟨w, by rw [List.getElem?_set_ne (Ne.symm ej)]; exact e1, by rw [fpu_ne ej]; exact o1.wide fun a l _ => lw a l⟩
  · by_cases ej : j = i
    · subst ej; exact absurd (List.getElem?_set_self hil) (h r)
    · rw [fpu_ne ej]
      exact R.emp j fun t' z => h t' (by rw [List.getElem?_set_ne (Ne.symm ej)]; exact z)
  · by_cases ej : j = i
    · subst ej; rw [fpu_same]; exact nd
    · rw [fpu_ne ej]; exact R.nd j
  · by_cases ej : j = i
    · subst ej
      rw [fpu_same] at h1
      by_cases ek : k = j
      · exact ek.symm
      · rw [fpu_ne ek] at h2
        exact absurd (.inr h1) (R.dx k a h2)
    · rw [fpu_ne ej] at h1
      by_cases ek : k = i
      · subst ek
        rw [fpu_same] at h2
        exact absurd (.inr h2) (R.dx j a h1)
      · rw [fpu_ne ek] at h2
        exact R.dj j k a h1 h2
  · by_cases ej : j = i
    · subst ej
      rw [fpu_same] at h
      exact (hn a h).2 z
    · rw [fpu_ne ej] at h
      exact R.dx j a h (.inl z)
  · by_cases ej : j = i
    · subst ej
      rw [fpu_same] at h
      exact .inr (hn a h).1
    · rw [fpu_ne ej] at h
      exact R.new j a h
  · have ej : j ≠ i := fun z => hio (z ▸ hj)
    rw [List.getElem?_set_ne (Ne.symm ej)]
    exact R.io j hj
theorem RE.put {C : MC G} {H H' : Hp} {σ : St} {δ δ' : DEnv} {fp fp' : Fp} {ex : Addr → Prop} {i : Nat} {v : V} {r : OT} {new : List Addr} (R : RE C io p true H σ δ fp ex H' v r δ' fp' new) (R0 : Rel C io H σ δ fp ex) (hio : i ∉ io) :
    ∃ fp2, Rel C io H' (σ.set i (some v)) (δ'.set i (some r)) fp2 ex ∧ Kp H fp H' fp2 := by
  obtain ⟨fp2, R2, g⟩ := R.rel.put hio (R.own.wide fun a l _ => l rfl) R.nd fun a m => ⟨(R0.newOk (R.fresh a m)).2.2, (R0.newOk (R.fresh a m)).2.1⟩
  refine ⟨fp2, R2, fun b o e q => R.stp.keep b o e (.inr (q.resolve_left (by decide))), fun z => (nomatch z), fun a z => ?_, R.stp.al⟩
  rcases g a z with z | z
  · exact R.stp.grow a z
  · exact .inr (R.fresh a z)
theorem RE.fzc {C : MC G} {H H' : Hp} {σ : St} {δ δ' : DEnv} {fp fp' : Fp} {ex : Addr → Prop} {v : V} {r : OT} {new : List Addr} (R : RE C io p c H σ δ fp ex H' v r δ' fp' new) (R0 : Rel C io H σ δ fp ex) :
    RE C io p c H σ δ fp ex H' v (.fz r.data) δ' fp' [] := .fz R.base R.stp (R.da R0)
noncomputable def mSet (i : Nat) (m : MEt) : MSt := fun D δ => m δ fun r δ' => D.nx (δ'.set i (some (.fz r.data)))
noncomputable def mSetS (i : Nat) (m : MEt) : MSt := fun D δ => m δ fun r δ' => flatD r.data = true ∧ D.nx (δ'.set i (some (.fz r.data)))
noncomputable def mSetO (i : Nat) (m : MEt) : MSt := fun D δ => m δ fun r δ' => D.nx (δ'.set i (some r))
section
variable {i : Nat} {x : Str} {px : Pos}
theorem sSet {t : TE} (s : SE G io p true t m) (hio : i ∉ io) : SS G io (tAsg t (gName i)) (mSet i m) := fun C H σ δ fp ex D D' R h E => s C H σ δ fp ex _ _ R h fun H' v r δ' fp' new r1 h1 => by
  obtain ⟨fp2, R2, k2⟩ := (r1.fzc R).put R hio
  exact E.nx H' _ _ fp2 R2 k2 h1
theorem sSetO {t : TE} (s : SE G io p true t m) (hio : i ∉ io) : SS G io (tAsg t (gName i)) (mSetO i m) := fun C H σ δ fp ex D D' R h E => s C H σ δ fp ex _ _ R h fun H' v r δ' fp' new r1 h1 => by
  obtain ⟨fp2, R2, k2⟩ := r1.put R hio
  exact E.nx H' _ _ fp2 R2 k2 h1
theorem ms_set (hN : X.N.Nodup) (hi : X.N[i]? = some x) (hx : Loc X.env.scope x) (he : ME X io p true e m) (hio : i ∉ io := by decide) (hs : swapsWith e (some (.Name x px)) pos.line X.env = pure false := by rfl) (hf : X.fn x = true ∨ X.env.scope.names.lookup x = some .local := by first | exact .inl rfl | exact .inr rfl | assumption) :
    MS X io (.Assign [.Name x px] e pos) (mSet i m) :=
  let ⟨_, A, s⟩ := he
  ⟨_, ps_set hN hi hx A hs hf, sSet s hio⟩
theorem ms_setO (hN : X.N.Nodup) (hi : X.N[i]? = some x) (hx : Loc X.env.scope x) (he : ME X io p true e m) (hio : i ∉ io := by decide) (hs : swapsWith e (some (.Name x px)) pos.line X.env = pure false := by rfl) (hf : X.fn x = true ∨ X.env.scope.names.lookup x = some .local := by first | exact .inl rfl | exact .inr rfl | assumption) :
    MS X io (.Assign [.Name x px] e pos) (mSetO i m) :=
  let ⟨_, A, s⟩ := he
  ⟨_, ps_set hN hi hx A hs hf, sSetO s hio⟩
end
end
end L2

set_option Elab.async false
set_option linter.all false
set_option maxRecDepth 100000
set_option maxHeartbeats 4000000
namespace L2
open PySem PySem.Spec PyProof.Rows
variable {G : PySem.W.Frag}

noncomputable def startD (N : List Str) (ds : List PyData) : DEnv := ds.map (fun d => some (.fz d)) ++ List.replicate (N.length - ds.length) none
noncomputable def startI (N : List Str) (t : OT) (ds : List PyData) : DEnv := some t :: (ds.map (fun d => some (.fz d)) ++ List.replicate (N.length - (ds.length + 1)) none)
section
variable {H : Hp} {L : Addr → Prop} {vs : List V} {ds : List PyData} {N : List Str}
theorem startD_at {i : Nat} {t : OT} {n : Nat} (h : (ds.map (fun d => some (.fz d)) ++ List.replicate n none : DEnv)[i]? = some (some t)) : ∃ d, ds[i]? = some d ∧ t = .fz d := by
  rw [List.getElem?_append] at h
  split at h
  · rw [List.getElem?_map] at h
    cases e : ds[i]? with
    | none => rw [e] at h; cases h
    | some d => rw [e] at h; cases h; exact ⟨d, rfl, rfl⟩
  · rw [List.getElem?_replicate] at h
    split at h
    · cases h
    · cases h
theorem Rel.entry (h : Das G H L vs ds) : Rel (G := G) ⟨H, fun _ => False, L, start N vs⟩ [] H (start N vs) (startD N ds) (fun _ => []) (fun _ => False) := by
  refine ⟨?_, fun i t e => ?_, fun _ _ => rfl, fun _ => .nil, fun i j a m => (nomatch m), fun i a m => (nomatch m), fun a z => z.elim, fun b o e _ => e, fun b e => e, fun i a m => (nomatch m), fun i m => nomatch m⟩
  · unfold start startD
    simp [h.length]
  · obtain ⟨d, e', rfl⟩ := startD_at e
    obtain ⟨x, e1, q⟩ := h.get e'
    refine ⟨x, ?_, .fz (q.wide fun a l _ => ⟨fun ⟨j, z⟩ => (nomatch z), fun z => z, .inl l⟩)⟩
    unfold L2.start
    rw [List.getElem?_append_left (by rw [List.length_map]; exact (List.getElem?_eq_some_iff.mp e1).1), List.getElem?_map, e1]
    rfl
variable {P : Program} {w : World} {K : PySem.W.Frag} {mg : Str → Option Value} {base : Heap}
noncomputable def endsD (k : OT → Prop) : EndsM := { nx := fun _ => k (.fz .none), rt := fun r _ => k r }
theorem Fun.okD {x qual : Str} {st : Stmt} {f : Addr} {fd : FuncData} {N ps : List Str} {n : Nat} {S : List PyData → (OT → Prop) → Prop} (F : Fun K x qual st f fd) (Sc : FnScope N ps (defScope st)) (len : ∀ ds k, S ds k → ds.length = ps.length)
    (hbody : ∀ (cdv : Value) (A : Around) (outer : List Env) (s : Shared) (H : Hp) (E : XK), Room n (A.deeper (envOfC qual (defScope st) s.heap.objs.size f cdv)) →
      ∃ m, MSs (cxOf CX0 P w K mg base N qual (defScope st) f cdv A outer s H E).nox [] (defBody st) m ∧ ∀ ds k, S ds k → m (endsD k) (startD N ds)) : FnOk P w K mg base CX0 (n + 1) f fd ps (spD K S) := by
  refine F.ok Sc (fun vs H Q E h => ?_) (fun cdv A outer s H vs Q E hr h => ?_)
  · obtain ⟨L, ds, k, h1, h2, _⟩ := h
    rw [h1.length]
    exact len ds k h2
  · obtain ⟨L, ds, k, h1, h2, h3⟩ := h
    obtain ⟨m, ⟨t, A1, s1⟩, q⟩ := hbody cdv A outer s H E hr
    refine ⟨t, A1, s1 ⟨H, fun _ => False, L, start N vs⟩ H _ _ _ _ (endsD k) _ (Rel.entry h1) (q ds k h2) ⟨fun H' σ' δ' fp' R _ hk => ?_, fun _ _ _ _ _ _ z => z.elim, fun _ _ _ _ _ _ z => z.elim, fun H' σ' v r δ' fp' new R o nd hn hk => ?_⟩⟩
    · exact h3 _ .non H' [] hk (fun b o e => R.fr b o e id) (.fz .non) .nil fun a m => nomatch m
    · refine h3 r v H' new hk (fun b o e => R.fr b o e id) (o.wide fun a l _ => ⟨?_, fun z => l.2.1 (.inr z)⟩) nd hn
      exact l.2.2
theorem Rel.entryI {v0 : V} {t0 : OT} {as : List Addr} (o : Own G H L v0 t0 as) (nd : as.Nodup) (hL : ∀ a ∈ as, ¬ L a) (h : Das G H L vs ds) :
    Rel (G := G) ⟨H, fun a => a ∈ as, L, start N (v0 :: vs)⟩ [0] H (start N (v0 :: vs)) (startI N t0 ds) (fun i => if i = 0 then as else []) (fun _ => False) := by
  have lw : ∀ a, L a → H a ≠ none → Lf (G := G) ⟨H, fun a => a ∈ as, L, L2.start N (v0 :: vs)⟩ (fun i => if i = 0 then as else []) (fun _ => False) a := fun a l _ => ⟨fun ⟨i, z⟩ => by
    dsimp only at z
    split at z
    · exact hL a z l
    · exact (nomatch z), fun z => z, .inl l⟩
  have sub : ∀ i a, a ∈ (if i = 0 then as else []) → i = 0 ∧ a ∈ as := fun i a m => by
    split at m
    · exact ⟨by assumption, m⟩
    · exact nomatch m
  refine ⟨?_, fun i t e => ?_, fun i h => ?_, fun i => ?_, fun i j a m m' => (sub i a m).1.trans (sub j a m').1.symm, fun i a m z => z, fun a z => z.elim, fun b o e _ => e, fun b e => e, fun i a m => .inl ⟨by rw [(sub i a m).1]; exact List.mem_singleton.mpr rfl, (sub i a m).2⟩, fun i _ => rfl⟩
  · unfold L2.start L2.startI
    simp [h.length]
  · cases i with
    | zero =>
      have e' : t0 = t := by
        unfold L2.startI at e
        simpa using e
      subst e'
      exact ⟨v0, rfl, o.wide lw⟩
    | succ i =>
      have e' : (ds.map (fun d => some (.fz d)) ++ List.replicate (N.length - (ds.length + 1)) none : DEnv)[i]? = some (some t) := e
      obtain ⟨d, e2, rfl⟩ := startD_at e'
      obtain ⟨x, e1, q⟩ := h.get e2
      refine ⟨x, ?_, .fz (q.wide lw)⟩
      show (vs.map some ++ _)[i]? = _
      rw [List.getElem?_append_left (by rw [List.length_map]; exact (List.getElem?_eq_some_iff.mp e1).1), List.getElem?_map, e1]
      rfl
  · split
    · subst i
      exact absurd rfl (h t0)
    · rfl
  · split
    · exact nd
    · exact .nil
noncomputable def endsI (k : OT → OT → Prop) : EndsM := { nx := fun δ => match δ[0]? with | some (some t) => k (.fz .none) t | _ => False, rt := fun r δ => match δ[0]? with | some (some t) => k r t | _ => False }
theorem Fun.okI {x qual : Str} {st : Stmt} {f : Addr} {fd : FuncData} {N ps : List Str} {n : Nat} {S : OT → List PyData → (OT → OT → Prop) → Prop} (F : Fun K x qual st f fd) (Sc : FnScope N ps (defScope st)) (len : ∀ t ds k, S t ds k → ds.length + 1 = ps.length)
    (hbody : ∀ (cdv : Value) (A : Around) (outer : List Env) (s : Shared) (H : Hp) (E : XK), Room n (A.deeper (envOfC qual (defScope st) s.heap.objs.size f cdv)) →
      ∃ m, MSs (cxOf CX0 P w K mg base N qual (defScope st) f cdv A outer s H E).nox [0] (defBody st) m ∧ ∀ t ds k, S t ds k → m (endsI k) (startI N t ds)) : FnOk P w K mg base CX0 (n + 1) f fd ps (spI K S) := by
  refine F.ok Sc (fun vs H Q E h => ?_) (fun cdv A outer s H vs Q E hr h => ?_)
  · obtain ⟨L, v0, t0, as, vs', ds, k, rfl, _, _, _, h1, h2, _⟩ := h
    rw [List.length_cons, h1.length]
    exact len t0 ds k h2
  · obtain ⟨L, v0, t0, as, vs', ds, k, rfl, o0, nd0, hL, h1, h2, h3⟩ := h
    obtain ⟨m, ⟨t, A1, s1⟩, q⟩ := hbody cdv A outer s H E hr
    have fin : ∀ H' σ' v r δ' fp' new, Rel (G := K) ⟨H, fun a => a ∈ as, L, L2.start N (v0 :: vs')⟩ [0] H' σ' δ' fp' (exu (fun _ => False) new) → Own K H' (Lf (G := K) ⟨H, fun a => a ∈ as, L, L2.start N (v0 :: vs')⟩ fp' (exu (fun _ => False) new)) v r new → new.Nodup → (∀ a ∈ new, H a = none) →
        (match δ'[0]? with | some (some t) => k r t | _ => False) → Q v H' := by
      intro H' σ' v r δ' fp' new R o nd hn hk
      split at hk
      case h_2 => exact hk.elim
      rename_i t' e'
      obtain ⟨u, eu, ou⟩ := R.own 0 t' e'
      have hio := R.io 0 (by simp)
      rw [eu] at hio
      have : u = v0 := by
        have e2 : (L2.start N (v0 :: vs'))[0]? = some (some v0) := rfl
        have hio' : some (some u) = (L2.start N (v0 :: vs'))[0]? := hio
        rw [e2] at hio'
        cases hio'; rfl
      subst this
      refine h3 r t' v H' new (fp' 0) hk (fun b ob e nb => R.fr b ob e nb) (fun b e => R.al b e) (o.wide fun a l _ => ⟨l.2.2, fun z => l.2.1 (.inr z), fun z => l.1 ⟨0, z⟩⟩) (ou.wide fun a l _ => ⟨l.2.2, fun z => l.2.1 (.inr z), fun z => l.1 ⟨0, z⟩⟩) ?_ hn fun a m => ?_
      · exact List.nodup_append.mpr ⟨R.nd 0, nd, fun a m b m' z => by subst z; exact R.dx 0 a m (.inr m')⟩
      · rcases R.new 0 a m with z | z
        · exact .inl z.2
        · exact .inr z
    refine ⟨t, A1, s1 ⟨H, fun a => a ∈ as, L, L2.start N (v0 :: vs')⟩ H _ _ _ _ (endsI k) _ (Rel.entryI o0 nd0 hL h1) (q t0 ds k h2) ⟨fun H' σ' δ' fp' R _ hk => ?_, fun _ _ _ _ _ _ z => z.elim, fun _ _ _ _ _ _ z => z.elim, fun H' σ' v r δ' fp' new R o nd hn hk => fin H' σ' v r δ' fp' new R o nd hn hk⟩⟩
    exact fin H' σ' .non (.fz .none) δ' fp' [] (R.drop fun a z => exu_nil.mp z) (.fz .non) .nil (fun a m => nomatch m) hk
end

noncomputable abbrev MGt := PyData → DEnv → (DEnv → Prop) → Prop
noncomputable abbrev MGst := List PyData → DEnv → (DEnv → Prop) → Prop
noncomputable def SG (G : PySem.W.Frag) (io : List Nat) (c : Bool) (t : TG) (g : MGt) : Prop := ∀ (C : MC G) (H : Hp) (σ : St) (δ : DEnv) (fp : Fp) (ex : Addr → Prop) (v : V) (d : PyData) (k : DEnv → Prop) (Q : St → Hp → Prop), Rel C io H σ δ fp ex → Da G H (fun a => c = true → Lf C fp ex a) v d → g d δ k →
  (∀ σ' δ' fp', Rel C io H σ' δ' fp' ex → Kp H fp H fp' → k δ' → Q σ' H) → t v σ H Q
noncomputable def MG (X : Cx) (io : List Nat) (c : Bool) (tg : Expr) (g : MGt) : Prop := ∃ t, PG X tg t ∧ SG X.K io c t g
section
variable {X : Cx} {io : List Nat} {c : Bool} {pos : Pos} {i : Nat} {x : Str}
noncomputable def dName (i : Nat) : MGt := fun d δ k => k (δ.set i (some (.fz d)))
noncomputable def dNameS (i : Nat) : MGt := fun d δ k => flatD d = true ∧ k (δ.set i (some (.fz d)))
theorem Rel.putD {C : MC G} {H : Hp} {σ : St} {δ : DEnv} {fp : Fp} {ex : Addr → Prop} {v : V} {d : PyData} (R : Rel C io H σ δ fp ex) (hio : i ∉ io) (q : Da G H (Lf C fp ex) v d) :
    ∃ fp', Rel C io H (σ.set i (some v)) (δ.set i (some (.fz d))) fp' ex ∧ Kp H fp H fp' := by
  obtain ⟨fp', R', g⟩ := (R.drop fun a z => exu_nil.mp z).put (new := []) hio (.fz (q.wide fun a l _ => ⟨l.1, fun z => l.2.1 (exu_nil.mp z), l.2.2⟩)) .nil (fun a m => nomatch m)
  exact ⟨fp', R', fun b o e _ => e, fun z => (nomatch z), fun a z => (g a z).imp id fun z => (nomatch z), fun b e => e⟩
theorem mg_name (hN : X.N.Nodup) (hi : X.N[i]? = some x) (hx : Loc X.env.scope x) (hio : i ∉ io := by decide) (hf : X.fn x = true ∨ X.env.scope.names.lookup x = some .local := by first | exact .inl rfl | exact .inr rfl | assumption) : MG X io true (.Name x pos) (dName i) :=
  ⟨_, pg_name hN hi hx hf, fun C H σ δ fp ex v d k Q R q h kk => by
    obtain ⟨fp', R', k'⟩ := R.putD hio (q.wide fun a l _ => l rfl)
    exact kk _ _ fp' R' k' h⟩
noncomputable def dNil : MGst := fun ds δ k => ds = [] ∧ k δ
noncomputable def dCons (g : MGt) (gs : MGst) : MGst := fun ds δ k => match ds with | d :: r => g d δ fun δ' => gs r δ' k | [] => False
noncomputable def dTup (n : Nat) (gs : MGst) : MGt := fun d δ k => match d with | .tuple ds => ds.length = n ∧ gs ds δ k | _ => False
noncomputable def mAsg (m : MEt) (g : MGt) : MSt := fun D δ => m δ fun r δ' => g r.data δ' D.nx
end
end L2

set_option Elab.async false
set_option linter.all false
set_option maxRecDepth 100000
set_option maxHeartbeats 4000000
namespace L2
open PySem PySem.Spec PyProof.Rows
variable {G : PySem.W.Frag}

noncomputable def IterOk (C : MC G) (fp : Fp) (ex : Addr → Prop) (H1 : Hp) (c : Bool) (J : It) (ds : List PyData) : Prop := ∀ H' : Hp, (∀ b o, H1 b = some o → (c = false ∨ ¬ Foot fp b) → H' b = some o) → ∀ i : Nat,
  (∀ d, ds[i]? = some d → J.go i H' ∧ ∀ x H'', J.yld i H' x H'' → Same H' H'' ∧ Da G H'' (fun a => c = true → (Lf C fp ex a ∧ H1 a ≠ none)) x d) ∧ (ds[i]? = none → J.stop i H')
noncomputable abbrev MIt := DEnv → (List PyData → DEnv → Prop) → Prop
noncomputable def SI (G : PySem.W.Frag) (io : List Nat) (p c : Bool) (t : TI) (m : MIt) : Prop := ∀ (C : MC G) (H : Hp) (σ : St) (δ : DEnv) (fp : Fp) (ex : Addr → Prop) (K : List PyData → DEnv → Prop) (Q : It → Hp → Prop), Rel C io H σ δ fp ex → m δ K →
  (∀ J H1 ds δ1 fp1, Rel C io H1 σ δ1 fp1 ex → Stp p H δ fp H1 δ1 fp1 → IterOk C fp1 ex H1 c J ds → K ds δ1 → Q J H1) → t σ H Q
noncomputable def MI (X : Cx) (io : List Nat) (p c : Bool) (tg iter : Expr) (m : MIt) : Prop := ∃ t, PI X tg iter t ∧ SI X.K io p c t m
section
variable {X : Cx} {io : List Nat} {p c : Bool} {e a b tg : Expr} {m : MEt} {mr : MAt} {K : PySem.W.Frag}
noncomputable def iL (m : MEt) : MIt := fun δ K => m δ fun r δ' => match r.data with | .list ds => K ds δ' | _ => False
noncomputable def iT (m : MEt) : MIt := fun δ K => m δ fun r δ' => match r.data with | .tuple ds => K ds δ' | _ => False
theorem Rel.kept {C : MC G} {H H' : Hp} {σ : St} {δ : DEnv} {fp : Fp} {ex : Addr → Prop} (R : Rel C io H σ δ fp ex) (kp : ∀ b o, H b = some o → (c = false ∨ ¬ Foot fp b) → H' b = some o) :
    (∀ a xs, (c = true → Lf C fp ex a) → Rd H a (.lst xs) → (c = true → (Lf C fp ex a ∧ H a ≠ none)) ∧ Rd H' a (.lst xs)) ∧ (∀ a (xs : ImO), H a = some xs.ho → H' a = some xs.ho) := by
  refine ⟨fun a xs l q => ⟨fun hc => ⟨l hc, q.some⟩, ?_⟩, fun a xs q => kp a _ q (.inr fun z => ?_)⟩
  · have hk : c = false ∨ ¬ Foot fp a := by
      cases c with
      | false => exact .inl rfl
      | true => exact .inr (l rfl).1
    rcases q with q | ⟨o, q⟩
    · exact .inl (kp a _ q hk)
    · exact .inr ⟨o, kp a _ q hk⟩
  · obtain ⟨ys, e⟩ := R.foot z
    exact ImO.nl q e
theorem mi_list (h : ME X io p c e m) : MI X io p c tg e (iL m) :=
  let ⟨_, A, s⟩ := h
  ⟨_, pi_listK rfl A, fun C H σ δ fp ex K' Q R h kk => s C H σ δ fp ex _ _ R h fun H1 v r δ1 fp1 new r1 h1 => by
    have q := r1.da R
    generalize r.data = d at q h1
    cases q with
    | lst l e qs =>
      refine ⟨_, rfl, ⟨_, .inl e⟩, kk _ H1 _ δ1 fp1 r1.base r1.stp (fun H' kp i => ?_) h1⟩
      obtain ⟨f1, f2⟩ := r1.base.kept kp
      have e' := (f1 _ _ l e).2
      have qs' := qs.frame f1 f2
      refine ⟨fun d hd => ?_, fun hd => ?_⟩
      · obtain ⟨x, hx, qx⟩ := qs'.get hd
        refine ⟨⟨_, x, .inl e', hx⟩, fun y H'' hy => ?_⟩
        obtain ⟨rfl, hy⟩ := hy
        have := hy _ (.inl e')
        rw [hx] at this
        cases this
        exact ⟨Same.refl _, qx⟩
      · exact ⟨_, .inl e', by rw [qs'.length]; exact List.getElem?_eq_none_iff.mp hd⟩
    | scr ks =>
      refine ⟨_, rfl, ⟨_, ks.sq⟩, kk _ H1 _ δ1 fp1 r1.base r1.stp (fun H' kp i => ?_) h1⟩
      refine ⟨fun d hd => ?_, fun hd => ?_⟩
      · obtain ⟨x, hx, qx⟩ := (Das.ints (G := X.K) (H := H') (L := fun a => c = true → (Lf C fp1 ex a ∧ H1 a ≠ none)) _).get hd
        refine ⟨⟨_, x, ks.sq, hx⟩, fun y H'' hy => ?_⟩
        obtain ⟨rfl, hy⟩ := hy
        have := hy _ ks.sq
        rw [hx] at this
        cases this
        exact ⟨Same.refl _, qx⟩
      · refine ⟨_, ks.sq, ?_⟩
        have := List.getElem?_eq_none_iff.mp hd
        simpa using this
    | _ => exact h1.elim⟩
noncomputable def rngD (lo : Int) (n : Nat) : List PyData := (List.range n).map fun (i : Nat) => PyData.int (lo + (i : Int))
@[simp] theorem rngD_length (lo : Int) (n : Nat) : (rngD lo n).length = n := by simp [rngD]
theorem rngD_get {lo : Int} {n i : Nat} {d : PyData} (h : (rngD lo n)[i]? = some d) : i < n ∧ d = .int (lo + i) := by
  have hi : i < n := by
    have := (List.getElem?_eq_some_iff.mp h).1
    simpa using this
  unfold rngD at h
  rw [List.getElem?_map, List.getElem?_range hi] at h
  cases h
  exact ⟨hi, rfl⟩
theorem iter_rng {C : MC G} {fp : Fp} {ex : Addr → Prop} {H1 : Hp} {lo : Int} {n : Nat} : IterOk C fp ex H1 true (Itr lo n) (rngD lo n) := fun H' _ i => by
  refine ⟨fun d hd => ?_, fun hd => ?_⟩
  · obtain ⟨hi, rfl⟩ := rngD_get hd
    refine ⟨hi, fun x H'' hy => ?_⟩
    obtain ⟨rfl, rfl⟩ := hy
    exact ⟨Same.refl _, .int _⟩
  · have := List.getElem?_eq_none_iff.mp hd
    show n ≤ i
    simpa using this
noncomputable def iR1 (mr : MAt) : MIt := fun δ K => mr δ fun rs δ' => match OT.datas rs with | [.int j] => (-(2 ^ 62) ≤ j ∧ j < 2 ^ 62) ∧ K (rngD 0 j.toNat) δ' | _ => False
noncomputable def iR2 (mr : MAt) : MIt := fun δ K => mr δ fun rs δ' => match OT.datas rs with | [.int i, .int j] => (-(2 ^ 62) ≤ i ∧ i < 2 ^ 62 ∧ -(2 ^ 62) ≤ j ∧ j < 2 ^ 62) ∧ K (rngD i (j - i).toNat) δ' | _ => False
theorem mi_range1 {p' pos : Pos} (hg : Gl X "range") (hm : X.mg "range" = none) (ha : MA X io p c [a] mr) (hs : starEach [a] X.env = [(false, eval a X.env)] := by rfl) : MI X io p true tg (.Call (.Name "range" p') [a] [] pos) (iR1 mr) :=
  let ⟨_, A, s⟩ := ha
  ⟨_, pi_range1 hg hm A hs, fun C H σ δ fp ex K' Q R h kk => s C H σ δ fp ex _ _ R h fun H1 vs rs δ1 fp1 new r1 h1 => by
    have q := r1.das R
    generalize OT.datas rs = d at q h1
    split at h1
    case h_2 => exact h1.elim
    cases q with
    | cons q1 q2 =>
      cases q1
      cases q2
      exact ⟨_, rfl, h1.1.1, h1.1.2, kk _ H1 _ δ1 fp1 r1.base r1.stp iter_rng h1.2⟩⟩
theorem IterOk.at {C : MC G} {fp fp' : Fp} {ex : Addr → Prop} {H1 H' H'' : Hp} {J : It} {ds : List PyData} {x : V} {d : PyData} (g : ∀ a, Foot fp' a → Foot fp a ∨ H1 a = none) (h : Da G H'' (fun a => true = true → (Lf C fp ex a ∧ H1 a ≠ none)) x d) : Da G H'' (fun a => true = true → Lf C fp' ex a) x d :=
  h.wide fun a l _ z => ⟨fun w => (g a w).elim (l z).1.1 (l z).2, (l z).1.2.1, (l z).1.2.2⟩
noncomputable def mForB (ds : List PyData) (g : MGt) (u : MSt) (D : EndsM) (δ1 : DEnv) : Prop := ∃ I : Nat → DEnv → Prop, I 0 δ1 ∧ (∀ (i : Nat) (d : PyData) (δ' : DEnv), ds[i]? = some d → I i δ' → g d δ' fun δ2 => u { D with nx := I (i + 1), ct := I (i + 1), bk := D.nx } δ2) ∧ ∀ δ', I ds.length δ' → D.nx δ'
noncomputable def mFor (mi : MIt) (g : MGt) (u : MSt) : MSt := fun D δ => mi δ fun ds δ1 => mForB ds g u D δ1
theorem Rel.mk0 {C : MC G} {H H' : Hp} {σ : St} {δ : DEnv} {fp : Fp} {ex : Addr → Prop} (R : Rel C io H σ δ fp ex) (s : Same H H') : Rel C io H' σ δ fp ex := (R.made (new := []) s fun a m => nomatch m).drop fun a z => .inl z
theorem ms_for {iter : Expr} {body : List Stmt} {mi : MIt} {g : MGt} {u : MSt} {pos : Pos} (hp : PassesOwn (model X.prog X.w) X.A X.env X.xe) (hc : X.calm = true) (hi : MI X io p true tg iter mi) (hg : MG X io true tg g) (hb : MSs X io body u)
    (hs : ∀ x, foldedSetIterable iter X.env x = pure x := by intro _; rfl) : MS X io (.For tg iter body [] pos) (mFor mi g u) := by
  obtain ⟨_, A, s⟩ := hi
  obtain ⟨_, G, sg⟩ := hg
  obtain ⟨_, B, sb⟩ := hb
  refine ⟨_, ps_for hp hc A G B hs, fun C H σ δ fp ex D D' R h E => s C H σ δ fp ex _ _ R h fun J H1 ds δ1 fp1 R1 S1 it h1 => ?_⟩
  obtain ⟨I, h0, turn, fin⟩ := h1
  refine ⟨fun i n σ' H' => n = ds.length - i ∧ i ≤ ds.length ∧ ∃ δ' fp', Rel C io H' σ' δ' fp' ex ∧ Kp H1 fp1 H' fp' ∧ I i δ', ⟨ds.length, rfl, Nat.zero_le _, δ1, fp1, R1, .refl _ _, h0⟩, ?_⟩
  rintro i n σ2 H2 ⟨rfl, hle, δ2, fp2, R2, k2, i2⟩
  have itk := it H2 (fun b o e q => k2.keep b o e (.inr (q.resolve_left (by decide)))) i
  by_cases hlt : i < ds.length
  · have hd : ds[i]? = some ds[i] := List.getElem?_eq_getElem hlt
    obtain ⟨go, yl⟩ := itk.1 _ hd
    refine .inr ⟨go, fun σ' H' => ∃ δ' fp', Rel C io H' σ' δ' fp' ex ∧ Kp H1 fp1 H' fp' ∧ I (i + 1) δ', fun σ' H' ⟨δ', fp', R', k', i'⟩ => ⟨ds.length - (i + 1), by omega, rfl, hlt, δ', fp', R', k', i'⟩, fun x H3 hy => ?_⟩
    obtain ⟨s3, q3⟩ := yl x H3 hy
    have R3 := R2.mk0 s3
    have k3 : Kp H1 fp1 H3 fp2 := k2.trans ⟨fun b o e _ => s3 _ _ e, fun z => (nomatch z), fun a z => .inl z, s3.al⟩
    refine sg C H3 σ2 δ2 fp2 ex x _ _ _ R3 (IterOk.at (H' := H2) (J := J) (ds := ds) k2.grow q3) (turn i _ δ2 hd i2) fun σ4 δ4 fp4 R4 k4 h4 => ?_
    have k5 := k3.trans k4
    refine sb C H3 σ4 δ4 fp4 ex _ _ R4 h4 ⟨fun H' σ' δ' fp' R' k' n' => ⟨δ', fp', R', k5.trans k', n'⟩, fun H' σ' δ' fp' R' k' n' => E.nx H' σ' δ' fp' R' (S1.kp.trans (k5.trans k')) n', fun H' σ' δ' fp' R' k' n' => ⟨δ', fp', R', k5.trans k', n'⟩, E.rt⟩
  · have e : i = ds.length := by omega
    subst e
    exact .inl ⟨itk.2 (by simp), E.nx H2 σ2 δ2 fp2 R2 (S1.kp.trans k2) (fin δ2 i2)⟩
end

noncomputable def gM (G : PySem.W.Frag) (io : List Nat) (c : Bool) (g : MGt) : TG := fun v σ H Q => ∃ (C : MC G) (δ : DEnv) (fp : Fp) (ex : Addr → Prop) (d : PyData) (k : DEnv → Prop), Rel C io H σ δ fp ex ∧ Da G H (fun a => c = true → Lf C fp ex a) v d ∧ g d δ k ∧
  ∀ σ' δ' fp', Rel C io H σ' δ' fp' ex → Kp H fp H fp' → k δ' → Q σ' H
noncomputable def tM (G : PySem.W.Frag) (io : List Nat) (p c : Bool) (m : MEt) : TE := fun σ H Q => ∃ (C : MC G) (δ : DEnv) (fp : Fp) (ex : Addr → Prop) (K : OT → DEnv → Prop), Rel C io H σ δ fp ex ∧ m δ K ∧ ∀ H' v r δ' fp' new, RE C io p c H σ δ fp ex H' v r δ' fp' new → K r δ' → Q v H'
noncomputable def ttM (G : PySem.W.Frag) (io : List Nat) (p : Bool) (m : MTt) : TT := fun σ H Q => ∃ (C : MC G) (δ : DEnv) (fp : Fp) (ex : Addr → Prop) (K : Bool → DEnv → Prop), Rel C io H σ δ fp ex ∧ m δ K ∧ ∀ H' b δ' fp', Rel C io H' σ δ' fp' ex → Stp p H δ fp H' δ' fp' → K b δ' → Q b H'
noncomputable def MIfs (X : Cx) (io : List Nat) (p : Bool) (ifs : List Expr) (m : MTt) : Prop := ∃ t, PIfs X ifs t ∧ STt X.K io p t m
section
variable {X : Cx} {io : List Nat} {p c : Bool} {e tg : Expr} {m : MEt} {mt : MTt} {g : MGt} {ifs : List Expr}
theorem MG.canon (h : MG X io c tg g) : PG X tg (gM X.K io c g) := by
  obtain ⟨t, A, s⟩ := h
  intro pins sh σ H v u Q I r ⟨C, δ, fp, ex, d, k, R, q, h, kk⟩
  exact A pins sh σ H v u Q I r (s C H σ δ fp ex v d k Q R q h kk)
theorem ME.canon (h : ME X io p c e m) : PE X e (tM X.K io p c m) := by
  obtain ⟨t, A, s⟩ := h
  intro pins sh σ H Q I ⟨C, δ, fp, ex, K, R, h, kk⟩
  exact A pins sh σ H Q I (s C H σ δ fp ex K Q R h kk)
theorem MIfs.canon (h : MIfs X io p ifs mt) : PIfs X ifs (ttM X.K io p mt) := by
  obtain ⟨t, A, s⟩ := h
  intro pins sh σ H Q I ⟨C, δ, fp, ex, K, R, h, kk⟩
  exact A pins sh σ H Q I (s C H σ δ fp ex K Q R h kk)
noncomputable def mTrue : MTt := fun δ K => K true δ
theorem mif_nil : MIfs X io true [] mTrue := ⟨_, pif_nil, fun C H σ δ fp ex K Q R h kk => kk H true δ fp R (.refl _ _ _ _) h⟩
end
end L2

set_option Elab.async false
set_option linter.all false
set_option maxRecDepth 100000
set_option maxHeartbeats 4000000
namespace L2
open PySem PySem.Spec PyProof.Rows
variable {G : PySem.W.Frag}

noncomputable def blk (n : Nat) (caps : List Nat) (δ : DEnv) : DEnv := List.replicate n none ++ caps.map fun i => (δ[i]?).getD none
noncomputable def blkFp (n : Nat) (caps : List Nat) (fp : Fp) : Fp := fun k => if k < n then [] else match caps[k - n]? with | some i => fp i | none => []
noncomputable def blkIo (n : Nat) (caps : List Nat) : List Nat := (List.range caps.length).map (· + n)
noncomputable def blkC (C : MC G) (H1 : Hp) (fp : Fp) (σ0 : St) : MC G := ⟨H1, Foot fp, fun a => (C.L a ∨ C.H₀ a = none) ∧ ¬ Foot fp a, σ0⟩
noncomputable def blkEx (ex : Addr → Prop) (D : Addr) (fp fpb : Fp) (a : Addr) : Prop := ex a ∨ a = D ∨ (Foot fp a ∧ ¬ Foot fpb a)
section
variable {C : MC G} {io : List Nat} {H1 H' : Hp} {σ : St} {δ : DEnv} {fp : Fp} {ex : Addr → Prop} {own : List Str} {caps : List Nat} {D : Addr} {n : Nat}
theorem blkFp_at {k : Nat} {a : Addr} (h : a ∈ blkFp n caps fp k) : ∃ i, n ≤ k ∧ caps[k - n]? = some i ∧ a ∈ fp i := by
  unfold blkFp at h
  split at h
  · exact nomatch h
  · split at h
    · rename_i i e
      exact ⟨i, by omega, e, h⟩
    · exact nomatch h
theorem blkFp_of {j i : Nat} (h : caps[j]? = some i) : blkFp n caps fp (n + j) = fp i := by
  unfold blkFp
  rw [if_neg (by omega), show n + j - n = j by omega, h]
theorem blk_at {k : Nat} {t : OT} (h : (blk n caps δ)[k]? = some (some t)) : ∃ i, n ≤ k ∧ caps[k - n]? = some i ∧ δ[i]? = some (some t) := by
  unfold blk at h
  rw [List.getElem?_append] at h
  split at h
  · rw [List.getElem?_replicate] at h
    split at h <;> cases h
  · rename_i hk
    rw [List.length_replicate] at hk h
    rw [List.getElem?_map] at h
    cases e : caps[k - n]? with
    | none => rw [e] at h; cases h
    | some i =>
      rw [e] at h
      refine ⟨i, by omega, rfl, ?_⟩
      simp only [Option.map_some] at h
      cases e2 : δ[i]? with
      | none => rw [e2] at h; cases h
      | some o =>
        rw [e2] at h
        simpa using h
theorem Rel.block (R : Rel C io H1 σ δ fp ex) (nd : caps.Nodup) (hD : H1 D = none) :
    Rel (blkC C H1 fp (start' own caps σ)) (blkIo own.length caps) (upd H1 D (.lst [])) (start' own caps σ) (blk own.length caps δ) (blkFp own.length caps fp) (blkEx ex D fp (blkFp own.length caps fp)) := by
  have s := same_new hD (.lst [])
  have sub : ∀ a, Foot (blkFp own.length caps fp) a → Foot fp a := fun a ⟨k, z⟩ => by
    obtain ⟨i, _, _, z⟩ := blkFp_at z
    exact ⟨i, z⟩
  have neD : ∀ a, H1 a ≠ none → a ≠ D := fun a h z => h (z ▸ hD)
  refine ⟨by unfold start' blk; simp, fun k t e => ?_, fun k h => ?_, fun k => ?_, fun k l a h1 h2 => ?_, fun k a h z => ?_, fun a z => ?_, fun b o e _ => s _ _ e, fun b e => s.free e, fun k a h => ?_, fun k _ => rfl⟩
  · obtain ⟨i, hk, e1, e2⟩ := blk_at e
    obtain ⟨v, e3, o⟩ := R.own i t e2
    refine ⟨v, ?_, ?_⟩
    · unfold start'
      rw [List.getElem?_append_right (by simpa using hk), List.length_map, List.getElem?_map, e1]
      simp [e3]
    · have ef : blkFp own.length caps fp k = fp i := by
        have := blkFp_of (n := own.length) (fp := fp) e1
        rwa [show own.length + (k - own.length) = k by omega] at this
      rw [ef]
      refine (o.wide fun a l q => ⟨fun z => l.1 (sub a z), fun z => ?_, .inl ⟨l.2.2, l.1⟩⟩).same s
      rcases z with z | z | z
      · exact l.2.1 z
      · exact neD a q z
      · exact l.1 z.1
  · unfold blkFp
    split
    · rfl
    · split
      · rename_i i e1
        refine R.emp i fun t z => h t ?_
        unfold blk
        rw [List.getElem?_append_right (by rw [List.length_replicate]; omega), List.length_replicate, List.getElem?_map, e1]
        simp [z]
      · rfl
  · unfold blkFp
    split
    · exact .nil
    · split
      · exact R.nd _
      · exact .nil
  · obtain ⟨i, hk, e1, m1⟩ := blkFp_at h1
    obtain ⟨j, hl, e2, m2⟩ := blkFp_at h2
    have := R.dj i j a m1 m2
    subst this
    have hlt := (List.getElem?_eq_some_iff.mp e1).1
    have := (List.getElem?_inj hlt nd).mp (e1.trans e2.symm)
    omega
  · obtain ⟨i, hk, e1, m⟩ := blkFp_at h
    rcases z with z | z | z
    · exact R.dx i a m z
    · exact R.footSome (z ▸ hD) ⟨i, m⟩
    · exact z.2 ⟨k, h⟩
  · rcases z with z | z | z
    · intro q; exact R.xa a z (s.free q)
    · subst z; rw [upd_same]; intro q; cases q
    · obtain ⟨xs, e⟩ := R.foot z.1
      rw [s _ _ e]; intro q; cases q
  · obtain ⟨i, hk, e1, m⟩ := blkFp_at h
    refine .inl ⟨?_, ⟨i, m⟩⟩
    have := (List.getElem?_eq_some_iff.mp e1).1
    exact List.mem_map.mpr ⟨k - own.length, by simpa using this, by omega⟩
theorem blk_lf {σ0 : St} {fp' : Fp} {ex' : Addr → Prop} {a : Addr} (hx : ∀ a, ex a → ex' a) (l : Lf (blkC C H1 fp σ0) fp' ex' a) : Lf C fp ex a ∨ H1 a = none := by
  obtain ⟨l1, l2, l3⟩ := l
  rcases l3 with l3 | l3
  · exact .inl ⟨l3.2, fun z => l2 (hx a z), l3.1⟩
  · exact .inr l3
theorem Rel.poke (R : Rel C io H' σ δ fp ex) {xs ys : List V} (hx : ex D) (hD : H' D = some (.lst xs)) (h0 : C.H₀ D = none) : Rel C io (upd H' D (.lst ys)) σ δ fp ex := by
  have nf : ¬ Foot fp D := fun ⟨i, z⟩ => R.dx i D z hx
  have kp : ∀ b o, b ≠ D → H' b = some o → upd H' D (.lst ys) b = some o := fun b o n e => by rw [upd_ne n]; exact e
  refine ⟨R.len, fun i t e => ?_, R.emp, R.nd, R.dj, R.dx, fun a z => ?_, fun b o e n => ?_, fun b e => ?_, R.new, R.io⟩
  · obtain ⟨v, e1, o⟩ := R.own i t e
    refine ⟨v, e1, o.frame (fun a zs l q => ⟨l, ?_⟩) (fun a zs q => kp a _ (fun z => ?_) q) fun a m zs q => kp a _ (fun z => nf ⟨i, z ▸ m⟩) q⟩
    · have na : a ≠ D := fun z => l.2.1 (z ▸ hx)
      rcases q with q | ⟨u, q⟩
      · exact .inl (kp a _ na q)
      · exact .inr ⟨u, kp a _ na q⟩
    · exact ImO.nl q (z ▸ hD)
  · by_cases e : a = D
    · subst e; rw [upd_same]; intro q; cases q
    · rw [upd_ne e]; exact R.xa a z
  · refine kp b o (fun z => ?_) (R.fr b o e n)
    rw [z, h0] at e; cases e
  · refine R.al b ?_
    by_cases q : b = D
    · subst q; rw [upd_same] at e; cases e
    · rwa [upd_ne q] at e
theorem Owns.poke {L : Addr → Prop} {xs ys zs : List V} {rs : List OT} {as : List Addr} (o : Owns G H' L zs rs as) (hD : H' D = Option.some (HO.lst xs)) (hL : ¬ L D) (hn : D ∉ as) : Owns G (upd H' D (.lst ys)) L zs rs as := by
  refine o.frame (fun a zs l q => ⟨l, ?_⟩) (fun a zs q => ?_) fun a m zs q => ?_
  · have na : a ≠ D := fun z => hL (z ▸ l)
    rcases q with q | ⟨u, q⟩
    · exact .inl (by rw [upd_ne na]; exact q)
    · exact .inr ⟨u, by rw [upd_ne na]; exact q⟩
  · rw [upd_ne (fun z => ImO.nl q (z ▸ hD))]; exact q
  · have na : a ≠ D := fun z => hn (by rw [← z]; exact m)
    rw [upd_ne na]; exact q
theorem Owns.snoc {L : Addr → Prop} : ∀ {xs : List V} {rs : List OT} {as bs : List Addr} {x : V} {r : OT}, Owns G H' L xs rs as → Own G H' L x r bs → Owns G H' L (xs ++ [x]) (rs ++ [r]) (as ++ bs)
  | _, _, _, _, _, _, .nil, h => by have := Owns.cons h .nil; simpa using this
  | _, _, _, _, _, _, .cons k t, h => by
    rw [List.append_assoc]
    exact .cons k (Owns.snoc t h)
end

structure BlkFin (C : MC G) (H1 : Hp) (fp1 : Fp) (ex : Addr → Prop) (n : Nat) (caps : List Nat) (σ0 : St) (D : Addr) (pb : Bool) (H' : Hp) (σ' : St) (δ' : DEnv) (fp' : Fp) (ys : List V) (rs : List OT) (new : List Addr) : Prop where
  keep : ∀ b o, H1 b = some o → (pb = true ∨ ¬ Foot (blkFp n caps fp1) b) → H' b = some o
  al : ∀ b, H' b = none → H1 b = none
  dat : H' D = some (.lst ys)
  rel : Rel (blkC C H1 fp1 σ0) (blkIo n caps) H' σ' δ' fp' (exu (blkEx ex D fp1 (blkFp n caps fp1)) new)
  grow : ∀ a, Foot fp' a → Foot (blkFp n caps fp1) a ∨ H1 a = none
  own : Owns G H' (fun a => true = true → Lf (blkC C H1 fp1 σ0) fp' (exu (blkEx ex D fp1 (blkFp n caps fp1)) new) a) ys rs new
  nd : new.Nodup
  fresh : ∀ a ∈ new, H1 a = none ∧ a ≠ D

section
variable {io : List Nat} {p c pt pe ci : Bool} {g : MGt} {mt : MTt} {me : MEt} {own : List Str} {caps : List Nat}
theorem comp_loop {C : MC G} {H1 : Hp} {σ : St} {δ1 : DEnv} {fp1 : Fp} {ex : Addr → Prop} {J : It} {ds : List PyData} {D : Addr} {Qf : Hp → Prop} (I : Nat → List OT → DEnv → Prop) (R1 : Rel C io H1 σ δ1 fp1 ex) (it : IterOk C fp1 ex H1 ci J ds)
    (hc : (pt && pe) = true ∨ ci = true) (nd : caps.Nodup) (hD : H1 D = none) (hz : ds.length ≤ sizeLine) (h0 : I 0 [] (blk own.length caps δ1))
    (turn : ∀ (i : Nat) (d : PyData) (rs : List OT) (δ' : DEnv), ds[i]? = some d → I i rs δ' → g d δ' fun δ2 => mt δ2 fun b δ3 => if b = true then me δ3 fun r δ4 => I (i + 1) (rs ++ [r]) δ4 else I (i + 1) rs δ3)
    (fin : ∀ H' σ' δ' fp' ys rs new, BlkFin C H1 fp1 ex own.length caps (start' own caps σ) D (pt && pe) H' σ' δ' fp' ys rs new → I ds.length rs δ' → Qf H') :
    cLoop J (gM G (blkIo own.length caps) ci g) (ttM G (blkIo own.length caps) pt mt) (tM G (blkIo own.length caps) pe true me) (start' own caps σ) D Qf H1 := by
  have hx : blkEx ex D fp1 (blkFp own.length caps fp1) D := .inr (.inl rfl)
  refine ⟨fun i n σ' H' => n = ds.length - i ∧ i ≤ ds.length ∧ ∃ rs ys new δ' fp', BlkFin C H1 fp1 ex own.length caps (start' own caps σ) D (pt && pe) H' σ' δ' fp' ys rs new ∧ ys.length ≤ i ∧ I i rs δ', ⟨ds.length, rfl, Nat.zero_le _, [], [], [], _, _, ⟨fun b o e _ => same_new hD _ _ _ e, (same_new hD _).al, upd_same, ?_, fun a z => .inl z, .nil, .nil, fun a m => (nomatch m)⟩, Nat.le_refl _, h0⟩, ?_⟩
  · exact (R1.block nd hD).drop fun a z => exu_nil.mp z
  rintro i n σ2 H2 ⟨rfl, hle, rs, ys, new, δ2, fp2, B, hl, i2⟩
  have subB : ∀ b, Foot (blkFp own.length caps fp1) b → Foot fp1 b := fun b ⟨k, z⟩ => by
    obtain ⟨i, _, _, z⟩ := blkFp_at z
    exact ⟨i, z⟩
  have itk := it H2 (fun b o e q => B.keep b o e (by
    rcases hc with hc | hc
    · exact .inl hc
    · rcases q with q | q
      · rw [hc] at q; cases q
      · exact .inr fun z => q (subB b z))) i
  by_cases hlt : i < ds.length
  case neg =>
    have e : i = ds.length := by omega
    subst e
    exact .inl ⟨itk.2 (by simp), fin H2 σ2 δ2 fp2 ys rs new B i2⟩
  have hd : ds[i]? = some ds[i] := List.getElem?_eq_getElem hlt
  obtain ⟨go, yl⟩ := itk.1 _ hd
  refine .inr ⟨go, fun x H3 hy => ?_⟩
  obtain ⟨s3, q3⟩ := yl x H3 hy
  have R3 := B.rel.mk0 s3
  have D3 : H3 D = some (.lst ys) := s3 _ _ B.dat
  -- the item, clean in the block
  have q3' : Da G H3 (fun a => ci = true → Lf (blkC C H1 fp1 (start' own caps σ)) fp2 (exu (blkEx ex D fp1 (blkFp own.length caps fp1)) new) a) x ds[i] := by
    refine q3.wide fun a l _ z => ?_
    obtain ⟨⟨l1, l2, l3⟩, l4⟩ := l z
    refine ⟨fun w => ?_, fun w => ?_, .inl ⟨l3, l1⟩⟩
    · rcases B.grow a w with w | w
      · exact l1 (subB a w)
      · exact l4 w
    · rcases w with (w | w | w) | w
      · exact l2 w
      · subst w; exact l4 hD
      · exact l1 w.1
      · exact l4 (B.fresh a w).1
  refine ⟨_, δ2, fp2, _, _, _, R3, q3', turn i _ rs δ2 hd i2, fun σ4 δ4 fp4 R4 k4 h4 => ?_⟩
  refine ⟨_, δ4, fp4, _, _, R4, h4, fun H5 b δ5 fp5 R5 S5 h5 => ?_⟩
  -- the state behind the test
  have keep5 : ∀ b o, H1 b = some o → ((pt && pe) = true ∨ ¬ Foot (blkFp own.length caps fp1) b) → H5 b = some o := fun b o e q => by
    refine S5.keep b o (s3 _ _ (B.keep b o e q)) ?_
    rcases q with q | q
    · rw [Bool.and_eq_true] at q; exact .inl q.1
    · refine .inr fun z => ?_
      rcases k4.grow b z with z | z
      · rcases B.grow b z with z | z
        · exact q z
        · rw [e] at z; cases z
      · rw [s3 _ _ (B.keep b o e (.inr q))] at z; cases z
  have al5 : ∀ b, H5 b = none → H1 b = none := fun b e => B.al b (s3.al b (S5.al b e))
  have grow4 : ∀ a, Foot fp4 a → Foot (blkFp own.length caps fp1) a ∨ H1 a = none := fun a z => by
    rcases k4.grow a z with z | z
    · exact B.grow a z
    · exact .inr (B.al a (s3.al a z))
  have grow5 : ∀ a, Foot fp5 a → Foot (blkFp own.length caps fp1) a ∨ H1 a = none := fun a z => by
    rcases S5.grow a z with z | z
    · exact grow4 a z
    · exact .inr (B.al a (s3.al a z))
  have D5 : H5 D = some (.lst ys) := S5.keep D _ D3 (.inr fun ⟨k, z⟩ => R4.dx k D z (.inl hx))
  have own3 := B.own.same s3
  -- the items so far behind the target and the test
  have own4 : Owns G H3 (fun a => true = true → Lf (blkC C H1 fp1 (start' own caps σ)) fp4 (exu (blkEx ex D fp1 (blkFp own.length caps fp1)) new) a) ys rs new := by
    refine own3.wide fun a l q z => ?_
    obtain ⟨l1, l2, l3⟩ := l z
    exact ⟨fun w => (k4.grow a w).elim l1 q, l2, l3⟩
  have own5 := R4.owns_step (ex' := exu (blkEx ex D fp1 (blkFp own.length caps fp1)) new) S5 (c := true) (.inr rfl) (fun a z => .inl z) (fun a m => .inr m) own4
  dsimp only at h5 ⊢
  cases b with
  | false =>
    rw [if_neg Bool.false_ne_true] at h5 ⊢
    exact ⟨ds.length - (i + 1), by omega, rfl, hlt, rs, ys, new, δ5, fp5, ⟨keep5, al5, D5, R5, grow5, own5, B.nd, B.fresh⟩, by omega, h5⟩
  | true =>
    rw [if_pos rfl] at h5 ⊢
    refine ⟨_, δ5, fp5, _, _, R5, h5, fun H6 v r δ6 fp6 nr r6 h6 => ?_⟩
    have D6 : H6 D = some (.lst ys) := r6.stp.keep D _ D5 (.inr fun ⟨k, z⟩ => R5.dx k D z (.inl hx))
    have hDnr : D ∉ nr := fun z => by
      have := r6.fresh D z
      rw [D5] at this; cases this
    have own6 := R5.owns_step (ex' := exu (exu (blkEx ex D fp1 (blkFp own.length caps fp1)) new) nr) r6.stp (c := true) (.inr rfl) (fun a z => z.imp id fun z => r6.fresh a z) (fun a m => .inr m) own5
    have eqx : ∀ a, exu (blkEx ex D fp1 (blkFp own.length caps fp1)) (new ++ nr) a → exu (exu (blkEx ex D fp1 (blkFp own.length caps fp1)) new) nr a := fun a z => by
      rcases z with z | z
      · exact .inl (.inl z)
      · rcases List.mem_append.mp z with z | z
        · exact .inl (.inr z)
        · exact .inr z
    have lw : ∀ a, (true = true → Lf (blkC C H1 fp1 (start' own caps σ)) fp6 (exu (exu (blkEx ex D fp1 (blkFp own.length caps fp1)) new) nr) a) → H6 a ≠ none → (true = true → Lf (blkC C H1 fp1 (start' own caps σ)) fp6 (exu (blkEx ex D fp1 (blkFp own.length caps fp1)) (new ++ nr)) a) :=
      fun a l _ z => ⟨(l z).1, fun w => (l z).2.1 (eqx a w), (l z).2.2⟩
    have ownA := (own6.snoc r6.own).wide lw
    refine ⟨ys, D6, by omega, ds.length - (i + 1), by omega, rfl, hlt, rs ++ [r], ys ++ [v], new ++ nr, δ6, fp6, ⟨fun b o e q => ?_, fun b e => ?_, upd_same, ?_, fun a z => ?_, ?_, ?_, fun a m => ?_⟩, by rw [List.length_append]; show ys.length + 1 ≤ i + 1; omega, h6⟩
    · have nD : b ≠ D := fun z => by rw [z, hD] at e; cases e
      rw [upd_ne nD]
      refine r6.stp.keep b o (keep5 b o e q) ?_
      rcases q with q | q
      · rw [Bool.and_eq_true] at q; exact .inl q.2
      · refine .inr fun z => ?_
        rcases grow5 b z with z | z
        · exact q z
        · rw [e] at z; cases z
    · by_cases q : b = D
      · subst q; rw [upd_same] at e; cases e
      · rw [upd_ne q] at e
        exact al5 b (r6.stp.al b e)
    · exact (r6.rel.drop eqx).poke (.inl hx) D6 hD
    · rcases r6.stp.grow a z with z | z
      · exact grow5 a z
      · exact .inr (al5 a z)
    · exact ownA.poke D6 (fun z => (z rfl).2.1 (.inl hx)) (fun m => by
        rcases List.mem_append.mp m with m | m
        · exact (B.fresh D m).2 rfl
        · exact hDnr m)
    · refine List.nodup_append.mpr ⟨B.nd, r6.nd, fun a m b m' z => ?_⟩
      subst z
      obtain ⟨xs, e⟩ := own5.some a m
      rw [r6.fresh a m'] at e; cases e
    · rcases List.mem_append.mp m with m | m
      · exact B.fresh a m
      · exact ⟨al5 a (r6.fresh a m), fun z => hDnr (z ▸ m)⟩
end
end L2

set_option Elab.async false
set_option linter.all false
set_option maxRecDepth 100000
set_option maxHeartbeats 4000000
namespace L2
open PySem PySem.Spec PyProof.Rows
variable {G : PySem.W.Frag}

section
variable {X : Cx} {io : List Nat} {p p' c pt pe ci : Bool} {g : MGt} {mt : MTt} {me m : MEt} {mi : MIt} {own : List Str} {caps : List Nat} {e : Expr}
noncomputable def mFlat (m : MEt) : MEt := fun δ K => m δ fun r δ' => flatD r.data = true ∧ K (.fz r.data) δ'
noncomputable def mFrz (m : MEt) : MEt := fun δ K => m δ fun r δ' => K (.fz r.data) δ'
noncomputable def mCompB (n : Nat) (caps : List Nat) (ds : List PyData) (g : MGt) (mt : MTt) (me : MEt) (δ1 : DEnv) (K : OT → DEnv → Prop) : Prop := ds.length ≤ sizeLine ∧ ∃ I : Nat → List OT → DEnv → Prop, I 0 [] (blk n caps δ1) ∧
  (∀ (i : Nat) (d : PyData) (rs : List OT) (δ' : DEnv), ds[i]? = some d → I i rs δ' → g d δ' fun δ2 => mt δ2 fun b δ3 => if b = true then me δ3 fun r δ4 => I (i + 1) (rs ++ [r]) δ4 else I (i + 1) rs δ3) ∧
  ∀ rs δ', I ds.length rs δ' → K (.nd rs) δ1
noncomputable def mComp (n : Nat) (caps : List Nat) (mi : MIt) (g : MGt) (mt : MTt) (me : MEt) : MEt := fun δ K => mi δ fun ds δ1 => mCompB n caps ds g mt me δ1 K
theorem sComp {wi : TI} (si : SI G io p ci wi mi) (nd : caps.Nodup) (hp : (pt && pe) = true) :
    SE G io p true (tComp own caps wi (gM G (blkIo own.length caps) ci g) (ttM G (blkIo own.length caps) pt mt) (tM G (blkIo own.length caps) pe true me)) (mComp own.length caps mi g mt me) := by
  intro C H σ δ fp ex K Q R h k
  refine si C H σ δ fp ex _ _ R h fun J H1 ds δ1 fp1 R1 S1 it h1 D hD => ?_
  obtain ⟨hz, I, h0, turn, fin⟩ := h1
  refine comp_loop I R1 it (.inl hp) nd hD hz h0 turn fun H' σ' δ' fp' ys rs new B i' => ?_
  have s : Same H1 H' := fun b o e => B.keep b o e (.inl hp)
  refine k H' (.ref D) (.nd rs) δ1 fp1 (D :: new) (RE.tree R R1 S1 s (fun a m => ?_) (List.nodup_cons.mpr ⟨fun m => (B.fresh D m).2 rfl, B.nd⟩) (.nd B.dat (B.own.wide fun a l _ => ?_))) (fin rs δ' i')
  · rcases List.mem_cons.mp m with rfl | m
    · exact hD
    · exact (B.fresh a m).1
  · refine ⟨?_, fun m => ?_⟩
    · rcases blk_lf (fun a z => .inl (.inl z)) (l rfl) with z | z
      · exact .inl fun _ => z
      · exact .inr z
    · rcases List.mem_cons.mp m with z | z
      · exact (l rfl).2.1 (.inl (.inr (.inl z)))
      · exact (l rfl).2.1 (.inr z)
noncomputable def capsOk (caps : List Nat) (o : Nat) (δ : DEnv) : Bool := caps.all fun i => i == o || match δ[i]? with | some (some (.nd _)) => false | _ => true
noncomputable def mCompIB (n : Nat) (caps : List Nat) (o q : Nat) (ds : List PyData) (g : MGt) (mt : MTt) (me : MEt) (δ1 : DEnv) (K : OT → DEnv → Prop) : Prop := ds.length ≤ sizeLine ∧ capsOk caps o δ1 = true ∧ ∃ I : Nat → List OT → DEnv → Prop, I 0 [] (blk n caps δ1) ∧
  (∀ (i : Nat) (d : PyData) (rs : List OT) (δ' : DEnv), ds[i]? = some d → I i rs δ' → g d δ' fun δ2 => mt δ2 fun b δ3 => if b = true then me δ3 fun r δ4 => I (i + 1) (rs ++ [r]) δ4 else I (i + 1) rs δ3) ∧
  ∀ rs δ', I ds.length rs δ' → match δ1[o]?, δ'[q]? with | some (some _), some (some t) => K (.nd rs) (δ1.set o (some t)) | _, _ => False
noncomputable def mCompI (n : Nat) (caps : List Nat) (o q : Nat) (mi : MIt) (g : MGt) (mt : MTt) (me : MEt) : MEt := fun δ K => mi δ fun ds δ1 => mCompIB n caps o q ds g mt me δ1 K
theorem capsOk_fp {C : MC G} {H : Hp} {σ : St} {δ : DEnv} {fp : Fp} {ex : Addr → Prop} {o : Nat} (R : Rel C io H σ δ fp ex) (h : capsOk caps o δ = true) {k : Nat} {a : Addr} {n : Nat} (m : a ∈ blkFp n caps fp k) : a ∈ fp o := by
  obtain ⟨i, _, e, m⟩ := blkFp_at m
  have := List.all_eq_true.mp h i (List.mem_of_getElem? e)
  rw [Bool.or_eq_true] at this
  rcases this with z | z
  · rw [beq_iff_eq] at z; subst z; exact m
  · by_cases q : ∃ t, δ[i]? = some (some t)
    · obtain ⟨t, q⟩ := q
      obtain ⟨v, _, ow⟩ := R.own i t q
      rw [q] at z
      cases t with
      | nd ts => cases z
      | fz d =>
        generalize fp i = as at ow m
        cases ow
        exact nomatch m
    · rw [R.emp i fun t w => q ⟨t, w⟩] at m
      exact nomatch m
theorem sCompI {wi : TI} {o q : Nat} (si : SI G io p true wi mi) (nd : caps.Nodup) (ho : caps[q - own.length]? = some o) (hq : own.length ≤ q) :
    SE G io false true (tComp own caps wi (gM G (blkIo own.length caps) true g) (ttM G (blkIo own.length caps) pt mt) (tM G (blkIo own.length caps) pe true me)) (mCompI own.length caps o q mi g mt me) := by
  intro C H σ δ fp ex K Q R h k
  refine si C H σ δ fp ex _ _ R h fun J H1 ds δ1 fp1 R1 S1 it h1 D hD => ?_
  obtain ⟨hz, hcap, I, h0, turn, fin⟩ := h1
  refine comp_loop I R1 it (.inr rfl) nd hD hz h0 turn fun H' σ' δ' fp' ys rs new B i' => ?_
  have h2 := fin rs δ' i'
  split at h2
  case h_2 => exact h2.elim
  rename_i t0 t' e0 e'
  obtain ⟨v0, ev, _⟩ := R1.own o t0 e0
  obtain ⟨v1, ev1, o1⟩ := B.rel.own q t' e'
  have hql : q - own.length < caps.length := (List.getElem?_eq_some_iff.mp ho).1
  have hio := B.rel.io q (List.mem_map.mpr ⟨q - own.length, by simpa using hql, by omega⟩)
  have hs : (start' own caps σ)[q]? = some (some v0) := by
    unfold start'
    rw [List.getElem?_append_right (by simpa using hq), List.length_map, List.getElem?_map, ho]
    simp [ev]
  have : v1 = v0 := by
    rw [ev1] at hio
    have hio' : some (some v1) = (start' own caps σ)[q]? := hio
    rw [hs] at hio'
    cases hio'; rfl
  subst this
  have lw : ∀ a, Lf (blkC C H1 fp1 (start' own caps σ)) fp' (exu (blkEx ex D fp1 (blkFp own.length caps fp1)) new) a → H' a ≠ none → Lf C (fpu fp1 o (fp' q)) (exu ex (D :: new)) a := fun a l _ => by
    have nD : a ∉ D :: new := fun m => by
      rcases List.mem_cons.mp m with z | z
      · exact l.2.1 (.inl (.inr (.inl z)))
      · exact l.2.1 (.inr z)
    have nq : a ∉ fp' q := fun z => l.1 ⟨q, z⟩
    rcases blk_lf (C := C) (fp := fp1) (ex := ex) (fun a z => .inl (.inl z)) l with z | z
    · exact ⟨fun w => by
        rcases w.of_u with w | ⟨j, _, w⟩
        · exact nq w
        · exact z.1 ⟨j, w⟩, fun w => w.elim z.2.1 nD, z.2.2⟩
    · have := R1.newOk z
      exact ⟨fun w => by
        rcases w.of_u with w | ⟨j, _, w⟩
        · exact nq w
        · exact this.1 ⟨j, w⟩, fun w => w.elim this.2.1 nD, .inr this.2.2⟩
  obtain ⟨R2, S2⟩ := R1.change (new := D :: new) (t' := t') e0 ev (fun b ob eb nb => B.keep b ob eb (.inr fun ⟨k, z⟩ => nb (capsOk_fp R1 hcap z))) B.al (o1.wide lw) (B.rel.nd q)
    (fun a m => by
      rcases B.grow a ⟨q, m⟩ with ⟨k, z⟩ | z
      · exact .inl (capsOk_fp R1 hcap z)
      · exact .inr z)
    (fun a m => by
      rcases List.mem_cons.mp m with rfl | m
      · refine ⟨hD, fun z => ?_, fun z => B.rel.dx q _ z (.inl (.inr (.inl rfl)))⟩
        rw [B.dat] at z; cases z
      · refine ⟨(B.fresh a m).1, fun z => ?_, fun z => B.rel.dx q _ z (.inr m)⟩
        obtain ⟨xs, e⟩ := B.own.some a m
        rw [z] at e; cases e)
  refine k H' (.ref D) (.nd rs) _ _ (D :: new) ⟨R2, (S1.trans S2).cast (fun z => nomatch z), .nd B.dat (B.own.wide fun a l q _ => lw a (l rfl) q), List.nodup_cons.mpr ⟨fun m => (B.fresh D m).2 rfl, B.nd⟩, fun a m => ?_⟩ h2
  rcases List.mem_cons.mp m with rfl | m
  · exact S1.al _ hD
  · exact S1.al _ (B.fresh a m).1
variable {N' : List Str} {sc : Scope} {tg elt iter : Expr} {ifs : List Expr} {pos : Pos}
theorem m_comp (S : CompScope X own caps N' sc) (hc : X.calm = true) (nd : caps.Nodup) (hi : MI X io p ci tg iter mi)
    (hg : ∀ C cells s₂ H₂ fp, MG (compCx X N' sc C cells s₂ H₂ fp) (blkIo own.length caps) ci tg g) (ht : ∀ C cells s₂ H₂ fp, MIfs (compCx X N' sc C cells s₂ H₂ fp) (blkIo own.length caps) pt ifs mt) (he : ∀ C cells s₂ H₂ fp, ME (compCx X N' sc C cells s₂ H₂ fp) (blkIo own.length caps) pe true elt me)
    (hp : (pt && pe) = true := by rfl) (hs : ∀ x, foldedSetIterable iter X.env x = pure x := by intro _; rfl) : ME X io p true (.ListComp elt [⟨tg, iter, ifs, 0⟩] sc pos) (mComp own.length caps mi g mt me) := by
  obtain ⟨_, A, si⟩ := hi
  exact ⟨_, pe_comp S hc A (fun C cells s₂ H₂ fp => (hg C cells s₂ H₂ fp).canon) (fun C cells s₂ H₂ fp => (ht C cells s₂ H₂ fp).canon) (fun C cells s₂ H₂ fp => (he C cells s₂ H₂ fp).canon) hs, sComp si nd hp⟩
theorem m_compI {o q : Nat} (S : CompScope X own caps N' sc) (hc : X.calm = true) (nd : caps.Nodup) (ho : caps[q - own.length]? = some o) (hq : own.length ≤ q) (hi : MI X io p true tg iter mi)
    (hg : ∀ C cells s₂ H₂ fp, MG (compCx X N' sc C cells s₂ H₂ fp) (blkIo own.length caps) true tg g) (ht : ∀ C cells s₂ H₂ fp, MIfs (compCx X N' sc C cells s₂ H₂ fp) (blkIo own.length caps) pt ifs mt) (he : ∀ C cells s₂ H₂ fp, ME (compCx X N' sc C cells s₂ H₂ fp) (blkIo own.length caps) pe true elt me)
    (hs : ∀ x, foldedSetIterable iter X.env x = pure x := by intro _; rfl) : ME X io false true (.ListComp elt [⟨tg, iter, ifs, 0⟩] sc pos) (mCompI own.length caps o q mi g mt me) := by
  obtain ⟨_, A, si⟩ := hi
  exact ⟨_, pe_comp S hc A (fun C cells s₂ H₂ fp => (hg C cells s₂ H₂ fp).canon) (fun C cells s₂ H₂ fp => (ht C cells s₂ H₂ fp).canon) (fun C cells s₂ H₂ fp => (he C cells s₂ H₂ fp).canon) hs, sCompI si nd ho hq⟩
section
variable {i : Nat} {y : Str} {py spos : Pos}
theorem ms_setcomp (own' : Bool) (hN : X.N.Nodup) (hy : X.N[i]? = some y) (hx : Loc X.env.scope y) (S : CompScope X own caps N' sc) (hc : X.calm = true) (nd : caps.Nodup) (hi : MI X io p ci tg iter mi)
    (hg : ∀ C cells s₂ H₂ fp, MG (compCx X N' sc C cells s₂ H₂ fp) (blkIo own.length caps) ci tg g) (ht : ∀ C cells s₂ H₂ fp, MIfs (compCx X N' sc C cells s₂ H₂ fp) (blkIo own.length caps) pt ifs mt) (he : ∀ C cells s₂ H₂ fp, ME (compCx X N' sc C cells s₂ H₂ fp) (blkIo own.length caps) pe true elt me)
    (hp : (pt && pe) = true := by rfl) (hio : i ∉ io := by decide)
    (hsw : swapsWith (.ListComp elt [⟨tg, iter, ifs, 0⟩] sc pos) (some (.Name y py)) spos.line X.env = pure true := by rfl)
    (hs : ∀ x, foldedSetIterable iter X.env x = pure x := by intro _; rfl) (hf : X.fn y = true ∨ X.env.scope.names.lookup y = some .local := by first | exact .inl rfl | exact .inr rfl | assumption) :
    MS X io (.Assign [.Name y py] (.ListComp elt [⟨tg, iter, ifs, 0⟩] sc pos) spos) (if own' = true then mSetO i (mComp own.length caps mi g mt me) else mSet i (mComp own.length caps mi g mt me)) := by
  obtain ⟨_, A, si⟩ := hi
  refine ⟨_, ps_setcomp (g := gM X.K (blkIo own.length caps) ci g) (tt := ttM X.K (blkIo own.length caps) pt mt) (te := tM X.K (blkIo own.length caps) pe true me) hN hy hx S hc A (fun C cells s₂ H₂ fp => (hg C cells s₂ H₂ fp).canon) (fun C cells s₂ H₂ fp => (ht C cells s₂ H₂ fp).canon) (fun C cells s₂ H₂ fp => (he C cells s₂ H₂ fp).canon) hsw hs hf, ?_⟩
  cases own'
  · exact sSet (sComp si nd hp) hio
  · exact sSetO (sComp si nd hp) hio
end
end
end L2

set_option Elab.async false
set_option linter.all false
set_option maxRecDepth 100000
set_option maxHeartbeats 4000000
namespace L2
open PySem PySem.Spec PyProof.Rows
variable {G : PySem.W.Frag}

section
variable {X : Cx} {pins : List (Addr × Obj)} {σ : St} {H : Hp} {s : Shared} {l : Addr} {xs : List V}
noncomputable def rCatR (K : PySem.W.Frag) : R2 := fun x y H Q => ∃ l b xs zs, x = .ref l ∧ y = .ref b ∧ SqL K H l xs ∧ SqL K H b zs ∧ xs.length + zs.length ≤ sizeLine ∧ ∀ p, H p = none → Q (.ref p) (upd H p (.lst (xs ++ zs)))
theorem Inv.lstQ {K : PySem.W.Frag} (hK : X.K = K) (I : Inv X pins σ H s) (hH : SqL K H l xs) : ∃ (its : List Value) (n : Nat), Vals xs its ∧ xs.length = its.length ∧ ∃ o, s.heap.get? l = some o ∧ o.cls = .type "list" ∧ o.dict = none ∧ o.data = .seq its.toArray n := by
  subst hK
  obtain ⟨its, r, ⟨o, n, e, h1, h2, h3⟩, _⟩ := I.list hH
  exact ⟨its, n, r, r.length, o, e, h1, h2, h3⟩
theorem op_catR {K : PySem.W.Frag} (hK : X.K = K) : OpR X (binaryOp .Add) (rCatR K) := by
  intro pins s σ H x y v u Q I rx ry h
  obtain ⟨l, b, xs, zs, rfl, rfl, hH, hB, hz, q⟩ := h
  cases rx
  cases ry
  obtain ⟨its, n, r, hl, ⟨cls, dd, data, sl⟩, ho, hc, _, hd⟩ := I.lstQ hK hH
  obtain ⟨its2, n2, r2, hl2, ⟨cls2, dd2, data2, sl2⟩, ho2, hc2, _, hd2⟩ := I.lstQ hK hB
  simp only at hc hd hc2 hd2
  subst hc hd hc2 hd2
  have ea : its.toArray ++ its2.toArray = (its ++ its2).toArray := by simp
  refine concat_meets ⟨_, ho, rfl⟩ ⟨_, ho2, rfl⟩ noFill_list_add seq_list_add PySem.F.slot_list_add PySem.F.entry_list_add (PySem.F.args_list_add_2 _ _) (list_addW l b its.toArray its2.toArray n n2 dd dd2 sl sl2 (by simp only [List.size_toArray]; omega)) ⟨ho, ho2, ?_⟩
  rw [ea]
  exact ⟨.ref _, _, I.lnew (t' := s.toks) (r.append r2) (by rw [List.length_append]; omega), rfl, q _ I.fresh⟩
end

noncomputable def asI (d : PyData) (k : Int → Prop) : Prop := match d with | .int i => k i | _ => False
noncomputable def asL (d : PyData) (k : List PyData → Prop) : Prop := match d with | .list ds => k ds | _ => False
section
variable {H : Hp} {L : Addr → Prop} {v : V} {d : PyData}
theorem Da.intInv {k : Int → Prop} (q : Da G H L v d) (h : asI d k) : ∃ i, v = .int i ∧ k i := by
  cases q with
  | int b => exact ⟨b, rfl, h⟩
  | _ => exact h.elim
theorem Da.lstInv {k : List PyData → Prop} (q : Da G H L v d) (h : asL d k) : ∃ a xs ds, v = .ref a ∧ SqL G H a xs ∧ Das G H L xs ds ∧ k ds := by
  cases q with
  | lst l e r => exact ⟨_, _, _, rfl, .inl e, r, h⟩
  | scr s => exact ⟨_, _, _, rfl, s.sq, .ints _, h⟩
  | _ => exact h.elim
end
noncomputable def d2I (C : Int → Int → Prop) (g : Int → Int → PyData) : PyData → PyData → (PyData → Prop) → Prop := fun d e k => asI d fun i => asI e fun j => C i j ∧ k (g i j)
noncomputable def d2I0 (g : Int → Int → PyData) : PyData → PyData → (PyData → Prop) → Prop := fun d e k => asI d fun i => asI e fun j => k (g i j)
theorem p2_int {C : Int → Int → Prop} {f : Int → Int → Int} : P2s G (rI C fun i j => .int (f i j)) (d2I C fun i j => .int (f i j)) := fun H L x y d e k Q hx hy h kk => by
  obtain ⟨i, rfl, h⟩ := hx.intInv h
  obtain ⟨j, rfl, h⟩ := hy.intInv h
  exact ⟨i, j, rfl, rfl, h.1, kk _ _ (.int _) h.2⟩
structure MulOk (i j : Int) : Prop where
  ok : IntMulOk i j
structure DvOk (i j : Int) : Prop where
  ok : DivOk i j
structure PwOk (i j : Int) : Prop where
  ok : CPow i j
theorem p2_pow {f : Int → Int → Int} : P2s G (rI CPow fun i j => .int (f i j)) (d2I PwOk fun i j => .int (f i j)) := fun H L x y d e k Q hx hy h kk => by
  obtain ⟨i, rfl, h⟩ := hx.intInv h
  obtain ⟨j, rfl, h⟩ := hy.intInv h
  exact ⟨i, j, rfl, rfl, h.1.ok, kk _ _ (.int _) h.2⟩
theorem p2_int0 {f : Int → Int → Int} : P2s G (rI0 fun i j => .int (f i j)) (d2I0 fun i j => .int (f i j)) := fun H L x y d e k Q hx hy h kk => by
  obtain ⟨i, rfl, h⟩ := hx.intInv h
  obtain ⟨j, rfl, h⟩ := hy.intInv h
  exact ⟨i, j, rfl, rfl, kk _ _ (.int _) h⟩
theorem p2_cmp {f : Int → Int → Bool} : P2s G (rI0 fun i j => .bl (f i j)) (d2I0 fun i j => .bool (f i j)) := fun H L x y d e k Q hx hy h kk => by
  obtain ⟨i, rfl, h⟩ := hx.intInv h
  obtain ⟨j, rfl, h⟩ := hy.intInv h
  exact ⟨i, j, rfl, rfl, kk _ _ (.bl _) h⟩
section
variable {X : Cx}
noncomputable def rEqA (K : PySem.W.Frag) : R2 := fun x y H Q => ∃ (L L' : Addr → Prop) (d e : PyData), Da K H L x d ∧ Da K H L' y e ∧ Shp d ∧ Shp e ∧ Q (.bl (PyData.eqv d e)) H
noncomputable def rNeA (K : PySem.W.Frag) : R2 := fun x y H Q => ∃ (L L' : Addr → Prop) (d e : PyData), Da K H L x d ∧ Da K H L' y e ∧ Shp d ∧ Shp e ∧ Q (.bl (!PyData.eqv d e)) H
theorem op_eqA (hu : X.A.units + 64 < cLine) : OpR X (compareOp .Eq) (rEqA X.K) := by
  intro pins s σ H x y v u Q I rx ry h
  obtain ⟨L, L', d, e, h1, h2, s1, s2, q⟩ := h
  obtain ⟨as, k1⟩ := h1.reads rfl I rx (SeqAt.canLay_of_shaped s1)
  obtain ⟨bs, k2⟩ := h2.reads rfl I ry (SeqAt.canLay_of_shaped s2)
  exact eq_dataH k1 k2 s1 s2 hu ⟨.bl _, H, I, rfl, q⟩
theorem op_neA (hu : X.A.units + 64 < cLine) : OpR X (compareOp .NotEq) (rNeA X.K) := by
  intro pins s σ H x y v u Q I rx ry h
  obtain ⟨L, L', d, e, h1, h2, s1, s2, q⟩ := h
  obtain ⟨as, k1⟩ := h1.reads rfl I rx (SeqAt.canLay_of_shaped s1)
  obtain ⟨bs, k2⟩ := h2.reads rfl I ry (SeqAt.canLay_of_shaped s2)
  exact ne_dataH k1 k2 s1 s2 hu ⟨.bl _, H, I, rfl, q⟩
end
structure ShpD (d : PyData) : Prop where
  ok : Shp d
noncomputable def dEq : PyData → PyData → (PyData → Prop) → Prop := fun d e k => ShpD d ∧ ShpD e ∧ k (.bool (PyData.eqv d e))
noncomputable def dNe : PyData → PyData → (PyData → Prop) → Prop := fun d e k => ShpD d ∧ ShpD e ∧ k (.bool (!PyData.eqv d e))
theorem p2_eq : P2s G (rEqA G) dEq := fun H L x y d e k Q hx hy h kk => ⟨L, L, d, e, hx, hy, h.1.ok, h.2.1.ok, kk _ _ (.bl _) h.2.2⟩
theorem p2_ne : P2s G (rNeA G) dNe := fun H L x y d e k Q hx hy h kk => ⟨L, L, d, e, hx, hy, h.1.ok, h.2.1.ok, kk _ _ (.bl _) h.2.2⟩
noncomputable def isNoneD : PyData → Bool
  | .none => true
  | _ => false
noncomputable def dIsN : PyData → PyData → (PyData → Prop) → Prop := fun d e k => e = .none ∧ k (.bool (isNoneD d))
noncomputable def dNotN : PyData → PyData → (PyData → Prop) → Prop := fun d e k => e = .none ∧ k (.bool (!isNoneD d))
noncomputable def scD : PyData → Bool
  | .none => true
  | .bool _ => true
  | .int _ => true
  | .str _ => true
  | _ => false
noncomputable def eqS : PyData → PyData → Bool
  | .none, .none => true
  | .bool a, .bool b => a == b
  | .bool a, .int b => (if a then 1 else 0) == b
  | .int a, .bool b => a == (if b then 1 else 0)
  | .int a, .int b => a == b
  | .str a, .str b => a == b
  | _, _ => false
noncomputable def memS (d : PyData) (ds : List PyData) : Bool := ds.any fun e => eqS e d
noncomputable def dIn (neg : Bool) : PyData → PyData → (PyData → Prop) → Prop := fun d e k => scD d = true ∧ match e with
  | .list ds => ds.all scD = true ∧ k (.bool (if neg then !memS d ds else memS d ds))
  | .tuple ds => ds.all scD = true ∧ k (.bool (if neg then !memS d ds else memS d ds))
  | _ => False
noncomputable def ixD (d e : PyData) : Option PyData := match d, e with
  | .list ds, .int i => atI ds i
  | .tuple ds, .int i => atI ds i
  | _, _ => none
noncomputable def dIx : PyData → PyData → (OT → Prop) → Prop := fun d e k => match ixD d e with | some x => k (.fz x) | none => False
theorem Das.atI {H : Hp} {L : Addr → Prop} {xs : List V} {ds : List PyData} {i : Int} {d : PyData} (h : Das G H L xs ds) (e : L2.atI ds i = some d) : ∃ x, L2.atI xs i = some x ∧ Da G H L x d := by
  unfold L2.atI at *
  rw [h.length]
  cases q : ixN ds.length i with
  | none => rw [q] at e; cases e
  | some j =>
    rw [q] at e
    exact h.get e
theorem p2_ix : P2 G (rIx G) dIx := fun H L x y d e k Q hx hy h kk => by
  unfold dIx at h
  split at h
  case h_2 => exact h.elim
  rename_i z ez
  have fin : ∀ v, Da G H L v z → Q v H := fun v q => kk H v (.fz z) [] (Same.refl _) (.fz (q.wide fun a l _ => ⟨.inl l, fun m => nomatch m⟩)) .nil (fun a m => nomatch m) h
  cases hx with
  | lst l e1 r =>
    cases hy with
    | int i =>
      obtain ⟨v, e2, q⟩ := r.atI (show L2.atI _ i = some z from ez)
      exact .inl ⟨_, _, i, v, rfl, rfl, .inl e1, e2, fin v q⟩
    | _ => cases ez
  | tup e1 r =>
    cases hy with
    | int i =>
      obtain ⟨v, e2, q⟩ := r.atI (show L2.atI _ i = some z from ez)
      exact .inr (.inl ⟨_, _, i, v, rfl, rfl, .inl (.inl e1), e2, fin v q⟩)
    | _ => cases ez
  | scr ks =>
    cases hy with
    | int i =>
      obtain ⟨v, e2, q⟩ := (Das.ints (G := G) (H := H) (L := L) _).atI (show L2.atI _ i = some z from ez)
      exact .inl ⟨_, _, i, v, rfl, rfl, ks.sq, e2, fin v q⟩
    | _ => cases ez
  | _ => cases ez
theorem Own.list {H : Hp} {L : Addr → Prop} {p : Addr} {xs : List V} {ds : List PyData} (hp : H p = none) (h : Das G H L xs ds) : Own G (upd H p (.lst xs)) (fun a => (L a ∨ H a = none) ∧ a ∉ [p]) (.ref p) (.nd (ds.map OT.fz)) [p] :=
  .nd upd_same (((h.wide fun a l q => ⟨.inl l, fun m => q (by rw [List.mem_singleton.mp m]; exact hp)⟩).same (same_new hp _)).owns)
theorem one_new {H : Hp} {p : Addr} (hp : H p = none) : ∀ a ∈ [p], H a = none := fun a m => by rw [List.mem_singleton.mp m]; exact hp
theorem one_nd (p : Addr) : [p].Nodup := List.nodup_cons.mpr ⟨fun m => (nomatch m), .nil⟩
noncomputable def dCat : PyData → PyData → (OT → Prop) → Prop := fun d e k => asL d fun ds => asL e fun es => ds.length + es.length ≤ sizeLine ∧ k (.nd ((ds ++ es).map OT.fz))
theorem p2_cat : P2 G (rCatR G) dCat := fun H L x y d e k Q hx hy h kk => by
  obtain ⟨a, xs, ds, rfl, e1, r1, h⟩ := hx.lstInv h
  obtain ⟨b, ys, es, rfl, e2, r2, h⟩ := hy.lstInv h
  exact ⟨a, b, xs, ys, rfl, rfl, e1, e2, by rw [r1.length, r2.length]; exact h.1, fun p hp => kk _ _ _ [p] (same_new hp _) (Own.list hp (r1.append r2)) (one_nd p) (one_new hp) h.2⟩
noncomputable def n1 (k : PyData → Prop) (ds : List PyData) : Prop := match ds with | [d] => k d | _ => False
noncomputable def n2 (k : PyData → PyData → Prop) (ds : List PyData) : Prop := match ds with | [d, e] => k d e | _ => False
theorem Das.one {H : Hp} {L : Addr → Prop} {vs : List V} {ds : List PyData} {k : PyData → Prop} (q : Das G H L vs ds) (h : n1 k ds) : ∃ v d, vs = [v] ∧ ds = [d] ∧ Da G H L v d ∧ k d := by
  cases q with
  | nil => exact h.elim
  | cons q r =>
    cases r with
    | nil => exact ⟨_, _, rfl, rfl, q, h⟩
    | cons _ _ => exact h.elim
theorem Das.two {H : Hp} {L : Addr → Prop} {vs : List V} {ds : List PyData} {k : PyData → PyData → Prop} (q : Das G H L vs ds) (h : n2 k ds) : ∃ v u d e, vs = [v, u] ∧ ds = [d, e] ∧ Da G H L v d ∧ Da G H L u e ∧ k d e := by
  cases q with
  | nil => exact h.elim
  | cons q r =>
    cases r with
    | nil => exact h.elim
    | cons q' r' =>
      cases r' with
      | nil => exact ⟨_, _, _, _, rfl, rfl, q, q', h⟩
      | cons _ _ => exact h.elim
noncomputable def lenD : PyData → Option Nat
  | .list ds => some ds.length
  | .tuple ds => some ds.length
  | _ => none
noncomputable def dLen : List PyData → (PyData → Prop) → Prop := fun ds k => n1 (fun d => match lenD d with | some n => k (.int n) | none => False) ds
theorem pn_len : PNs G (rLen G) dLen := fun H L xs ds k Q hx h kk => by
  obtain ⟨v, d, rfl, rfl, q, h⟩ := hx.one h
  cases q with
  | lst l e r => exact ⟨_, _, rfl, .inl (.inl e), by rw [r.length]; exact kk _ _ (.int _) h⟩
  | tup e r => exact ⟨_, _, rfl, .inr (.inl (.inl e)), by rw [r.length]; exact kk _ _ (.int _) h⟩
  | scr ks => exact ⟨_, _, rfl, .inl ks.sq, by rw [(Das.ints (G := G) (H := H) (L := L) _).length]; exact kk _ _ (.int _) h⟩
  | _ => exact h.elim
noncomputable def dAbs : List PyData → (PyData → Prop) → Prop := fun ds k => n1 (fun d => asI d fun i => k (.int (if i < 0 then -i else i))) ds
theorem pn_abs : PNs G (fun xs H Q => ∃ i, xs = [.int i] ∧ Q (.int (if i < 0 then -i else i)) H) dAbs := fun H L xs ds k Q hx h kk => by
  obtain ⟨v, d, rfl, rfl, q, h⟩ := hx.one h
  obtain ⟨i, rfl, h⟩ := q.intInv h
  exact ⟨i, rfl, kk _ _ (.int _) h⟩
noncomputable def dMax : List PyData → (PyData → Prop) → Prop := fun ds k => n2 (fun d e => asI d fun i => asI e fun j => k (.int (if j > i then j else i))) ds
theorem pn_max2 : PNs G (fun xs H Q => ∃ i j, xs = [.int i, .int j] ∧ Q (.int (if j > i then j else i)) H) dMax := fun H L xs ds k Q hx h kk => by
  obtain ⟨v, u, d, e, rfl, rfl, q, q', h⟩ := hx.two h
  obtain ⟨i, rfl, h⟩ := q.intInv h
  obtain ⟨j, rfl, h⟩ := q'.intInv h
  exact ⟨i, j, rfl, kk _ _ (.int _) h⟩
noncomputable def dMin : List PyData → (PyData → Prop) → Prop := fun ds k => n2 (fun d e => asI d fun i => asI e fun j => k (.int (if j < i then j else i))) ds
theorem pn_min2 : PNs G (fun xs H Q => ∃ i j, xs = [.int i, .int j] ∧ Q (.int (if j < i then j else i)) H) dMin := fun H L xs ds k Q hx h kk => by
  obtain ⟨v, u, d, e, rfl, rfl, q, q', h⟩ := hx.two h
  obtain ⟨i, rfl, h⟩ := q.intInv h
  obtain ⟨j, rfl, h⟩ := q'.intInv h
  exact ⟨i, j, rfl, kk _ _ (.int _) h⟩
noncomputable def dInt : List PyData → (PyData → Prop) → Prop := fun ds k => n1 (fun d => match d with | .int i => k (.int i) | .bool b => k (.int (if b then 1 else 0)) | _ => False) ds
theorem pn_int : PNs G (fun xs H Q => (∃ i, xs = [.int i] ∧ Q (.int i) H) ∨ ∃ k, xs = [.bl k] ∧ Q (.int (if k then 1 else 0)) H) dInt := fun H L xs ds k Q hx h kk => by
  obtain ⟨v, d, rfl, rfl, q, h⟩ := hx.one h
  cases q with
  | int i => exact .inl ⟨i, rfl, kk _ _ (.int _) h⟩
  | bl b => exact .inr ⟨b, rfl, kk _ _ (.int _) h⟩
  | _ => exact h.elim
noncomputable def itemsD : PyData → Option (List PyData)
  | .list ds => some ds
  | .tuple ds => some ds
  | _ => none
noncomputable def dList : List PyData → (OT → Prop) → Prop := fun ds k => n1 (fun d => match itemsD d with | some es => k (.nd (es.map OT.fz)) | none => False) ds
theorem pn_list : PN G (rListOf G) dList := fun H L xs ds k Q hx h kk => by
  obtain ⟨v, d, rfl, rfl, q, h⟩ := hx.one h
  cases q with
  | lst l e r => exact ⟨_, _, rfl, .inl (.inl e), fun p hp => kk _ _ _ [p] (same_new hp _) (Own.list hp r) (one_nd p) (one_new hp) h⟩
  | tup e r => exact ⟨_, _, rfl, .inr (.inl (.inl e)), fun p hp => kk _ _ _ [p] (same_new hp _) (Own.list hp r) (one_nd p) (one_new hp) h⟩
  | scr ks => exact ⟨_, _, rfl, .inl ks.sq, fun p hp => kk _ _ _ [p] (same_new hp _) (Own.list hp (Das.ints _)) (one_nd p) (one_new hp) h⟩
  | _ => exact h.elim
section
variable {X : Cx} {io : List Nat} {p c : Bool} {a : Expr} {ma : MEt} {pos : Pos}
noncomputable def mNeg (m : MEt) : MEt := fun δ K => m δ fun r δ' => asI r.data fun i => K (.fz (.int (-i))) δ'
theorem m_neg (ha : ME X io p c a ma) : ME X io p true (.UnaryOp .USub a pos) (mNeg ma) :=
  let ⟨_, A, s⟩ := ha
  ⟨_, pe_un un_neg A, fun C H σ δ fp ex K Q R h k => s C H σ δ fp ex _ _ R h fun H' v r δ' fp' new r1 h1 => by
    obtain ⟨i, rfl, h1⟩ := (r1.da R).intInv h1
    exact ⟨i, rfl, k H' _ _ δ' fp' [] (.fz r1.base r1.stp (.int _)) h1⟩⟩
noncomputable def isTy (T : String) : PyData → Bool
  | .none => false
  | .bool _ => T == "bool" || T == "int"
  | .int _ => T == "int"
  | .str _ => T == "str"
  | .list _ => T == "list"
  | .tuple _ => T == "tuple"
  | .dict _ => false
noncomputable def mIsi (T : String) (m : MEt) : MEt := fun δ K => m δ fun r δ' => K (.fz (.bool (isTy T r.data))) δ'
end
end L2

set_option Elab.async false
set_option linter.all false
set_option maxRecDepth 100000
set_option maxHeartbeats 4000000
namespace L2
open PySem PySem.Spec PyProof.Rows
section
variable {prog : Program} {w : World} {A : Around} {E : Value → Shared → Prop} {h : Heap} {g : Array GenState} {d : Drawn} {t : Nat} {os : OsState} {a C : Addr} {o : Obj} {K : PySem.W.Frag}
theorem xcls_ty (M : Model) (hx : h.get? a = some o) (hc : o.cls = .ref C) : PySem.W.Looks M h (typeOf (.ref a)) (.ref C) := hc ▸ (PySem.W.Looks.ld hx).andThen .now
theorem xcls_get {R : Result → Shared → Prop} (X : K.In h) (Z : ExCls K C) (hx : h.get? a = some o) (hc : o.cls = .ref C) (hq : R (.ok (.ret (.ref C))) ⟨h, g, d, t, os⟩) :
    codeAny (model prog w) A (.call (.builtin "getset_descriptor.__get__") ⟨[.builtin "object.__class__", .ref a, .ref C], []⟩) R ⟨h, g, d, t, os⟩ := by
  have L1 : PySem.W.Looks (model prog w) h (isSubtype (.ref C) (.type (".".intercalate ("object.__class__".cutAt '.').dropLast))) true := by
    rw [F.owner_object_class]
    exact PySem.W.looks_subIn X Z.isO
  have T5 : (⟨h, g, d, t, os⟩ : Shared).TypeIs (.builtin "object.__class__") "getset_descriptor" := F.typeOf_object_class
  refine codeAny_call_builtin F.slot_gs_get.plain F.entry_gs_get (F.slot_gs_get.check _ _ _ _ _ _ _ _ T5 (F.args_gs_get _ _ _) ?_)
  repeat (any_goals (first | assumption | (with_reducible refine wpAny_loadPart_at hx ?_; rw [hc]) | (with_reducible refine wpAny_bind (PySem.W.Looks.at L1 ?_)) | (with_reducible refine PySem.W.Looks.at L1 ?_) | wp_step))
  refine ⟨Code.quiet_builtin _ (by decide +kernel), codeAny_builtin F.entry_object_class ?_⟩
  repeat (any_goals (first | assumption | (with_reducible refine wpAny_loadPart_at hx ?_; rw [hc]) | wp_step))
theorem xcls_entry {tk : Tok} {Q : Fin → Shared → Prop} (X : K.In h) (Z : ExCls K C) (hx : h.get? a = some o) (hc : o.cls = .ref C) (hq : Q (.done (.ret (.ref C))) ⟨h, g, d, t, os⟩) :
    wpAny (model prog w) A (Builtin.«object.__getattribute__» ⟨[.ref a, .str "__class__" tk], []⟩) Q E ⟨h, g, d, t, os⟩ := by
  have T5 : (⟨h, g, d, t, os⟩ : Shared).TypeIs (.builtin "object.__class__") "getset_descriptor" := F.typeOf_object_class
  have g5 := F.typeOf_object_class
  have g6 := F.slot_gs_get.lookup
  have g7 := F.slot_gs_set.lookup
  have L4 := PySem.W.looks_findIn (M := model prog w) X Z.cl
  repeat (any_goals (first | assumption | (with_reducible refine wpAny_loadPart_at hx ?_; rw [hc]) | (with_reducible refine wpAny_bind (PySem.W.Looks.at L4 ?_)) | (with_reducible refine PySem.W.Looks.at L4 ?_) | wp_step))
  refine xcls_get X Z hx hc ?_
  repeat (any_goals (first | assumption | wp_step))
theorem xcls_check {M : Model} {nameV : Value} {Q : Unit → Shared → Prop} (X : K.In h) (Z : ExCls K C) (hx : h.get? a = some o) (hc : o.cls = .ref C) (hq : Q () ⟨h, g, d, t, os⟩) :
    wpAny M A (checkBuiltinCall "BaseException.__getattribute__" ⟨[.ref a, nameV], []⟩) Q E ⟨h, g, d, t, os⟩ := by
  have e1 : builtinKind "BaseException.__getattribute__" = some .slot := by decide +kernel
  have e2 : splitId "BaseException.__getattribute__" = some ("BaseException", "__getattribute__") := by decide +kernel
  have L1 := PySem.W.looks_subIn (M := M) X Z.isB
  have e3 := F.args_bexc_ga (.ref a) nameV
  simp only [checkBuiltinCall, e1, e2]
  refine wpAny_bind ?_
  unfold isInstance
  repeat (first | (with_reducible refine wpAny_loadPart_at hx ?_; rw [hc]) | (with_reducible refine wpAny_bind (PySem.W.Looks.at L1 ?_)) | (with_reducible refine PySem.W.Looks.at L1 ?_) | wp_step)
  exact hq
theorem xcls_call {tk : Tok} {R : Result → Shared → Prop} (X : K.In h) (Z : ExCls K C) (hx : h.get? a = some o) (hc : o.cls = .ref C) (hq : R (.ok (.ret (.ref C))) ⟨h, g, d, t, os⟩) :
    codeAny (model prog w) A (.call (.builtin "BaseException.__getattribute__") ⟨[.ref a, .str "__class__" tk], []⟩) R ⟨h, g, d, t, os⟩ :=
  codeAny_call_builtin F.excAttr_ValueError.ga.plain F.entry_bexc_ga (xcls_check X Z hx hc (xcls_entry X Z hx hc hq))
theorem xcls_by {tk : Tok} {fill expr : Bool} {Q : Value → Shared → Prop} (X : K.In h) (Z : ExCls K C) (hx : h.get? a = some o) (hc : o.cls = .ref C) (hq : Q (.ref C) ⟨h, g, d, t, os⟩) :
    wpAny (model prog w) A (getAttrBy (.ref a) (.str "__class__" tk) fill expr) Q E ⟨h, g, d, t, os⟩ := by
  have f3 := F.excAttr_ValueError.ga.bind (.ref a)
  have y0 : (expr && onTheHeap (Value.builtin "BaseException.__getattribute__")) = false := by cases expr <;> rfl
  have y2 : (Value.builtin "BaseException.__getattribute__" == Value.builtin "object.__getattribute__") = false := by decide +kernel
  have y1 : (onTheHeap (Value.ref C) && Value.builtin "BaseException.__getattribute__" == Value.builtin "object.__getattribute__") = false := by rw [y2]; rfl
  have L2 := PySem.W.looks_findIn (M := model prog w) X Z.ga
  have L3 := PySem.W.looks_findIn (M := model prog w) X Z.gt
  repeat (any_goals (first | assumption | (with_reducible refine wpAny_loadPart_at hx ?_; rw [hc]) | (with_reducible refine PySem.W.Looks.at L2 ?_) | (with_reducible refine PySem.W.Looks.at L3 ?_) | (with_reducible refine wpAny_bind (PySem.W.Looks.at L2 ?_)) | (with_reducible refine wpAny_bind (PySem.W.Looks.at L3 ?_)) | wp_step))
  refine xcls_call X Z hx hc ?_
  repeat (any_goals (first | assumption | wp_step))
theorem xcls_attr {Q : Option Value → Shared → Prop} (X : K.In h) (Z : ExCls K C) (hx : h.get? a = some o) (hc : o.cls = .ref C) (hq : Q (some (.ref C)) ⟨h, g, d, t + 1, os⟩) :
    wpAny (model prog w) A (getAttr? (.ref a) "__class__") Q E ⟨h, g, d, t, os⟩ := by
  unfold getAttr? getAttrBy?
  repeat (any_goals (first | assumption | with_reducible apply xcls_by X Z hx hc | wp_step))
end
theorem kitx_exc {K : PySem.W.Frag} {a C : Addr} (Z : ExCls K C) : PySem.W.KitX K (.ref a) (.ref C) (fun h => ∃ o, h.get? a = some o ∧ o.cls = .ref C) where
  ty := fun M h _ p => let ⟨_, hx, hc⟩ := p; xcls_ty M hx hc
  it := fun M h X _ => by
    have z := Z.isC
    unfold PySem.W.clsIn at z
    split at z
    · rename_i ho
      intro A' Q' E' s' k q
      unfold isType loadHead
      exact wpAny_bind (wpAny_loadPart (k _ _ (X _ _ ho)) (wpAny_pure q))
    · cases z
  ne := fun h tp dd its n sl X htp => by
    have z := Z.isC
    refine Bool.eq_false_iff.mpr fun q => ?_
    have e : C = tp := Value.ref.inj (beq_iff_eq.mp q)
    subst e
    unfold PySem.W.clsIn at z
    split at z
    · rename_i ho
      have z := (X _ _ ho).symm.trans htp
      cases z
    · cases z
  ca := fun {_ _ _ _ _ s} X p k => by
    obtain ⟨h, g, d, t, os⟩ := s
    obtain ⟨_, hx, hc⟩ := p
    exact xcls_attr X Z hx hc k
end L2

set_option Elab.async false
set_option linter.all false
set_option maxRecDepth 100000
set_option maxHeartbeats 4000000
namespace L2
open PySem PySem.Spec PyProof.Rows
variable {G : PySem.W.Frag}
noncomputable def tyD : PyData → String
  | .none => "NoneType"
  | .bool _ => "bool"
  | .int _ => "int"
  | .str _ => "str"
  | .list _ => "list"
  | .tuple _ => "tuple"
  | .dict _ => "dict"
theorem kitT {K : PySem.W.Frag} {T : String} {d : PyData} (h : T = "int" ∨ T = "bool" ∨ T = "str" ∨ T = "list" ∨ T = "tuple") (hd : ∀ kvs, d ≠ .dict kvs) : PySem.W.kitOne K (.type (tyD d)) (.type T) = some (isTy T d) := by
  rcases h with rfl | rfl | rfl | rfl | rfl <;> cases d <;> first | rfl | (exact absurd rfl (hd _)) | (unfold PySem.W.kitOne PySem.W.kitCls; rfl) | (simp only [tyD, isTy]; decide +kernel)
noncomputable def rIsiD (G : PySem.W.Frag) : List V → Hp → VK → Prop := fun xs H Q => ∃ (x : V) (T : String) (L : Addr → Prop) (d : PyData), xs = [x, .ty T] ∧ Da G H L x d ∧ (T = "int" ∨ T = "bool" ∨ T = "str" ∨ T = "list" ∨ T = "tuple") ∧ Q (.bl (isTy T d)) H
theorem call_isiD {X : Cx} (hK : X.K = G) : CallR X (.builtin "isinstance") (rIsiD G) := by
  subst hK
  intro pins s σ H xs us Q I r h
  obtain ⟨x, T, L, d, rfl, q, hT, h⟩ := h
  obtain ⟨u, w', rfl, r1, r2⟩ := vals2 r
  cases (show w' = Value.type T from r2)
  have fin : ∀ tk : Nat, EP X pins σ Q (.bool (isTy T d)) { s with toks := tk } := fun tk => ⟨.bl _, H, I.tok tk, rfl, h⟩
  cases q with
  | non => exact isinst_ok I r1 .non (kitT (d := .none) hT fun _ z => by cases z) fin
  | bl b => exact isinst_ok I r1 (.bl b) (kitT (d := .bool b) hT fun _ z => by cases z) fin
  | int b => exact isinst_ok I r1 (.int b) (kitT (d := .int b) hT fun _ z => by cases z) fin
  | str b => exact isinst_ok I r1 (.str b) (kitT (d := .str b) hT fun _ z => by cases z) fin
  | lst l e qs =>
    rename_i ds
    rcases e with e | ⟨o, e⟩
    · exact isinst_ok I r1 (.lst e) (kitT (d := .list ds) hT fun _ z => by cases z) fin
    · exact isinst_ok I r1 (.frz e) (kitT (d := .list ds) hT fun _ z => by cases z) fin
  | tup e qs =>
    rename_i ds
    exact isinst_ok I r1 (.tup e) (kitT (d := .tuple ds) hT fun _ z => by cases z) fin
  | scr ks =>
    rename_i a ns
    cases (show u = Value.ref a from r1)
    obtain ⟨its, vs, ⟨o, n, ho, hc, hd, hs⟩, _⟩ := I.list (ks.sq (H := H))
    exact PySem.W.kia_one PySem.W.kitx_list I.kIn ⟨o, ho, hc⟩ (kitT (d := .list (ns.map PyData.int)) hT fun _ z => by cases z) (fun z => nomatch z) fin
  | exc Z e =>
    rename_i a C
    cases (show u = Value.ref a from r1)
    obtain ⟨⟨o, vs, ho, hc, _⟩, _, _⟩ := (show ObjOk X.prog X.w H s.heap a (.ext (ExO C a)) from I.hok a _ e)
    refine PySem.W.kia_one (kitx_exc Z) I.kIn ⟨o, ho, hc⟩ (b := isTy T (exD C)) ?_ (fun z => nomatch z) fin
    rcases hT with rfl | rfl | rfl | rfl | rfl
    · exact Z.k1
    · exact Z.k2
    · exact Z.k3
    · exact Z.k4
    · exact Z.k5
section
variable {X : Cx} {io : List Nat} {p c p' c' : Bool} {a b e : Expr} {ma m : MEt} {pos pp p2 : Pos} {K : PySem.W.Frag}
theorem m_isi {T : Str} {T' : String} (hT : T' = "int" ∨ T' = "bool" ∨ T' = "str" ∨ T' = "list" ∨ T' = "tuple") (hg : Gl X "isinstance") (hm : X.mg "isinstance" = none) (hv : bootBuiltins "isinstance" = some (.builtin "isinstance"))
    (hg2 : Gl X T) (hm2 : X.mg T = none) (hv2 : bootBuiltins T = some (.type T')) (ha : ME X io p c a ma) (hn : T ≠ "__name__" := by decide) (hd : (T == ("__debug__" : Str)) = false := by decide)
    (he : starEach [a, .Name T p2] X.env = (false, eval a X.env) :: starEach [.Name T p2] X.env := by rfl) (he2 : starEach [.Name T p2] X.env = (false, eval (.Name T p2) X.env) :: starEach [] X.env := by rfl) (hpl : (backTo pos (starEach [.Name T p2] X.env)).any (·.1) = false := by rfl) :
    ME X io p true (.Call (.Name "isinstance" pp) [a, .Name T p2] [] pos) (mIsi T' ma) := by
  obtain ⟨_, A, s⟩ := ha
  refine ⟨_, pe_callB (call_isiD rfl) hg hm hv (pa_cons A (pa_cons (pe_bltn (v := .ty T') hg2 hm2 hv2 rfl hn hd) pa_nil he2) he) (by decide) (by decide) he hpl, ?_⟩
  intro C H σ δ fp ex K' Q R h k
  refine s C H σ δ fp ex _ _ R h fun H' v r δ' fp' new r1 h1 => ?_
  exact ⟨v, T', _, _, rfl, r1.da R, hT, k H' _ _ δ' fp' [] (.fz r1.base r1.stp (.bl _)) h1⟩
noncomputable abbrev MOt := DEnv → (Option Int → DEnv → Prop) → Prop
noncomputable def MO (X : Cx) (io : List Nat) (p : Bool) (e : Option Expr) (m : MOt) : Prop := ∃ t, PO X e t ∧ ∀ (C : MC X.K) (H : Hp) (σ : St) (δ : DEnv) (fp : Fp) (ex : Addr → Prop) (K : Option Int → DEnv → Prop) (Q : Option Int → Hp → Prop), Rel C io H σ δ fp ex → m δ K →
  (∀ H' b δ' fp', Rel C io H' σ δ' fp' ex → Stp p H δ fp H' δ' fp' → K b δ' → Q b H') → t σ H Q
noncomputable def mNoPart : MOt := fun δ K => K none δ
noncomputable def mPart (m : MEt) : MOt := fun δ K => m δ fun r δ' => asI r.data fun i => K (some i) δ'
theorem mo_none : MO X io true none mNoPart := ⟨_, po_none, fun C H σ δ fp ex K Q R h k => k H none δ fp R (.refl _ _ _ _) h⟩
theorem mo_some (h : ME X io p c e m) : MO X io p (some e) (mPart m) :=
  let ⟨_, A, s⟩ := h
  ⟨_, po_some A, fun C H σ δ fp ex K Q R h k => s C H σ δ fp ex _ _ R h fun H' v r δ' fp' new r1 h1 => by
    obtain ⟨i, rfl, h1⟩ := (r1.da R).intInv h1
    exact ⟨i, rfl, k H' _ δ' fp' r1.base r1.stp h1⟩⟩
noncomputable def cutD (ds : List PyData) (lo hi : Option Int) : List PyData := (ds.drop (HT.sIx ds.length 0 lo)).take (HT.sIx ds.length ds.length hi - HT.sIx ds.length 0 lo)
theorem Das.cut {H : Hp} {L : Addr → Prop} {xs : List V} {ds : List PyData} (h : Das G H L xs ds) (lo hi : Option Int) : Das G H L (cutV xs lo hi) (cutD ds lo hi) := by
  unfold cutV cutD
  rw [h.length]
  exact (h.drop _).take _
noncomputable def mSl (m : MEt) (ml mh : MOt) : MEt := fun δ K => m δ fun r δ1 => ml δ1 fun lo δ2 => mh δ2 fun hi δ3 => asL r.data fun ds => K (.nd ((cutD ds lo hi).map OT.fz)) δ3
theorem m_slL {lo hi : Option Expr} {ml mh : MOt} (ha : ME X io true c a ma) (hl : MO X io true lo ml) (hh : MO X io true hi mh) : ME X io true c (.Subscript a (.Slice lo hi none p2) pos) (mSl ma ml mh) := by
  obtain ⟨_, A, s⟩ := ha
  obtain ⟨_, B, sl⟩ := hl
  obtain ⟨_, D, sh⟩ := hh
  refine ⟨_, pe_slice (sl_listK rfl) A B D, ?_⟩
  intro C H σ δ fp ex K' Q R h k
  refine s C H σ δ fp ex _ _ R h fun H1 v r δ1 fp1 new r1 h1 => ?_
  refine sl C H1 σ δ1 fp1 ex _ _ r1.base h1 fun H2 l δ2 fp2 R2 S2 h2 => ?_
  refine sh C H2 σ δ2 fp2 ex _ _ R2 h2 fun H3 u δ3 fp3 R3 S3 h3 => ?_
  have s2 : Same H1 H2 := fun b o e => S2.keep b o e (.inl rfl)
  have s3 : Same H2 H3 := fun b o e => S3.keep b o e (.inl rfl)
  obtain ⟨e1, e2⟩ := r1.stp.env rfl
  obtain ⟨e3, e4⟩ := S2.env rfl
  obtain ⟨e5, e6⟩ := S3.env rfl
  have q := ((r1.da R).same s2).same s3
  obtain ⟨a', xs, ds, rfl, e, qs, h3⟩ := q.lstInv h3
  refine ⟨a', xs, rfl, e, fun p hp => ?_⟩
  have S := (r1.stp.trans S2).trans S3
  refine k _ _ _ δ3 fp3 [p] (RE.tree R R3 S (same_new hp _) (one_new hp) (one_nd p) (Own.list hp ((qs.cut l u).wide fun a l _ => ?_))) h3
  rw [e6, e4]
  exact l
theorem Owns.set {H : Hp} {L : Addr → Prop} {x : V} {r : OT} (hr : Own G H L x r []) : ∀ {xs : List V} {ts : List OT} {as : List Addr} (j : Nat), Owns G H L xs ts as → ∃ bs, Owns G H L (xs.set j x) (ts.set j r) bs ∧ bs.Sublist as
  | _, _, _, _, .nil => ⟨[], .nil, .refl _⟩
  | _, _, _, 0, .cons k t => ⟨_, .cons hr t, by simp⟩
  | _, _, _, j + 1, .cons (as := as) k t => by
    obtain ⟨bs, o, s⟩ := Owns.set hr j t
    exact ⟨as ++ bs, .cons k o, List.Sublist.append_left s as⟩
theorem Owns.get {H : Hp} {L : Addr → Prop} : ∀ {xs : List V} {ts : List OT} {as : List Addr} {j : Nat} {t : OT}, Owns G H L xs ts as → ts[j]? = Option.some t → ∃ x bs, xs[j]? = Option.some x ∧ Own G H L x t bs ∧ bs.Sublist as
  | _, _, _, _, _, .nil, e => by simp at e
  | _, _, _, 0, _, .cons k _, e => by simp at e; subst e; exact ⟨_, _, rfl, k, List.sublist_append_left _ _⟩
  | _, _, _, j + 1, t, .cons _ r, e => by
    obtain ⟨x, bs, h1, h2, h3⟩ := Owns.get (j := j) (t := t) r (by simpa using e)
    exact ⟨x, bs, by simpa using h1, h2, h3.trans (List.sublist_append_right _ _)⟩
theorem Rel.top {C : MC G} {H : Hp} {σ : St} {δ : DEnv} {fp : Fp} {ex : Addr → Prop} {i : Nat} {ts ts' : List OT} {a' : Addr} {xs ys : List V} {bs bs' : List Addr} (R : Rel C io H σ δ fp ex) (hi : δ[i]? = some (some (.nd ts))) (hv : σ[i]? = some (some (.ref a')))
    (hf : fp i = a' :: bs) (hx : H a' = some (.lst xs)) (o : Owns G H (Lf C fp ex) ys ts' bs') (hs : bs'.Sublist bs) :
    Rel C io (upd H a' (.lst ys)) σ (δ.set i (some (.nd ts'))) (fpu fp i (a' :: bs')) ex ∧ Stp false H δ fp (upd H a' (.lst ys)) (δ.set i (some (.nd ts'))) (fpu fp i (a' :: bs')) := by
  have nd := R.nd i
  rw [hf] at nd
  have hn := List.nodup_cons.mp nd
  have hm : a' ∈ fp i := by rw [hf]; exact .head _
  have ne' : ∀ a, ¬ Foot fp a → a ≠ a' := fun a h z => h ⟨i, by rw [z]; exact hm⟩
  have kp : ∀ b o, H b = some o → b ≠ a' → upd H a' (.lst ys) b = some o := fun b o e n => by rw [upd_ne n]; exact e
  have sub : ∀ a, a ∈ a' :: bs' → a ∈ fp i := fun a m => by
    rw [hf]
    rcases List.mem_cons.mp m with rfl | m
    · exact .head _
    · exact .tail _ (hs.subset m)
  have o' : Owns G (upd H a' (.lst ys)) (Lf C (fpu fp i (a' :: bs')) (exu ex [])) ys ts' bs' := by
    have f0 : ∀ a, ¬ Foot fp a → ¬ Foot (fpu fp i (a' :: bs')) a := fun a h z => by
      rcases z.of_u with z | ⟨j, _, z⟩
      · exact h ⟨i, sub a z⟩
      · exact h ⟨j, z⟩
    have f1 : ∀ a zs, Lf C fp ex a → Rd H a (.lst zs) → Lf C (fpu fp i (a' :: bs')) (exu ex []) a ∧ Rd (upd H a' (.lst ys)) a (.lst zs) := fun a zs l q => by
      refine ⟨⟨f0 a l.1, fun z => l.2.1 (exu_nil.mp z), l.2.2⟩, ?_⟩
      rcases q with q | ⟨u, q⟩
      · exact .inl (kp a _ q (ne' a l.1))
      · exact .inr ⟨u, kp a _ q (ne' a l.1)⟩
    have f2 : ∀ a (zs : ImO), H a = some zs.ho → upd H a' (.lst ys) a = some zs.ho := fun a zs q => kp a _ q fun z => ImO.nl q (z ▸ hx)
    exact o.frame f1 f2 fun a m zs q => kp a _ q fun z => hn.1 (hs.subset (z ▸ m))
  have key := R.change (new := []) (as' := a' :: bs') (t' := .nd ts') (H' := upd H a' (.lst ys)) hi hv (fun b o e nb => kp b o e fun z => nb (by rw [z]; exact hm)) (fun b e => by
      by_cases q : b = a'
      · subst q; rw [upd_same] at e; cases e
      · rwa [upd_ne q] at e) (.nd upd_same o') (List.nodup_cons.mpr ⟨fun m => hn.1 (hs.subset m), hn.2.sublist hs⟩) (fun a m => .inl (sub a m)) (fun a m => nomatch m)
  exact ⟨key.1.drop fun a z => .inl z, key.2⟩
end
end L2

set_option Elab.async false
set_option linter.all false
set_option maxRecDepth 100000
set_option maxHeartbeats 4000000
namespace L2
open PySem PySem.Spec PyProof.Rows
variable {G : PySem.W.Frag}
section
variable {X : Cx} {io : List Nat} {p c p' c' : Bool} {a b e : Expr} {ma m mi mj : MEt} {pos pp p2 apos cpos px : Pos} {K : PySem.W.Frag} {i : Nat} {x : Str}
theorem Rel.ownNd {C : MC G} {H : Hp} {σ : St} {δ : DEnv} {fp : Fp} {ex : Addr → Prop} {ts : List OT} (R : Rel C io H σ δ fp ex) (hi : δ[i]? = some (some (.nd ts))) :
    ∃ a' xs bs, σ[i]? = some (some (.ref a')) ∧ H a' = some (.lst xs) ∧ Owns G H (Lf C fp ex) xs ts bs ∧ fp i = a' :: bs := by
  obtain ⟨v, e, o⟩ := R.own i _ hi
  generalize hf : fp i = as at o
  cases o with
  | nd h r => exact ⟨_, _, _, e, h, r, rfl⟩
noncomputable def mAppend (i : Nat) (m : MEt) : MSt := fun D δ => match δ[i]? with
  | some (some (.nd _)) => m δ fun r δ1 => match δ1[i]? with
    | some (some (.nd ts)) => ts.length < sizeLine ∧ D.nx (δ1.set i (some (.nd (ts ++ [.fz r.data]))))
    | _ => False
  | _ => False
theorem ms_append (i : Nat) (he : ME X io p true e m) (hN : X.N[i]? = some x := by rfl) (hv : Vis X.env.scope x := by first | exact Or.inl rfl | exact Or.inr (Or.inl rfl) | exact Or.inr (Or.inr rfl)) (hd : (x == ("__debug__" : Str)) = false := by decide)
    (hcd : (x == ("__classdict__" : Str)) = false := by decide)
    (hbase : attributeBase (.Name x px) "append" X.env (eval (.Name x px) X.env) = eval (.Name x px) X.env := by rfl)
    (hfew : ((backTo cpos (starEach [e] X.env)).all (fun x => !x.1) && (backToKw cpos (keywordEach [] X.env)).all (fun x => x.1.isSome)
      && decide ([e].length + ([] : List Keyword).length + (if ([] : List Keyword).isEmpty then 0 else 1) < 30)) = true := by rfl)
    (hline : (apos.endLine == cpos.line) = true := by rfl) (hs : starEach [e] X.env = (false, eval e X.env) :: starEach [] X.env := by rfl) (hplain : (backTo cpos (starEach [] X.env)).any (·.1) = false := by rfl)
    (hsw : swapsWith (.Call (.Attribute (.Name x px) "append" apos) [e] [] cpos) none pos.line X.env = pure false := by rfl) :
    MS X io (.Expr (.Call (.Attribute (.Name x px) "append" apos) [e] [] cpos) pos) (mAppend i m) := by
  obtain ⟨_, A, s⟩ := he
  refine ⟨_, ps_expr (pe_bm PySem.F.plainAttrs_list PySem.F.slot_list_append PySem.F.type_list_append mt_append (pv i hN hv hd hcd) (pa_cons A pa_nil hs) hbase hfew hline hs hplain) hsw, fun C H σ δ fp ex D D' R h E => ?_⟩
  unfold mAppend at h
  split at h
  case h_2 => exact h.elim
  rename_i ts0 hi0
  obtain ⟨a', xs0, bs0, hv0, hx0, _, _⟩ := R.ownNd hi0
  refine ⟨_, hv0, .inl ⟨rfl, xs0, .inl (.inl hx0)⟩, ?_⟩
  refine s C H σ δ fp ex _ _ R h fun H1 v r δ1 fp1 new r1 h1 => ?_
  split at h1
  case h_2 => exact h1.elim
  rename_i ts1 hi1
  have R1 := r1.base
  obtain ⟨a1, xs1, bs1, hv1, hx1, o1, hf1⟩ := R1.ownNd hi1
  rw [hv0] at hv1
  cases hv1
  have q := (r1.da R).wide (L' := Lf C fp1 ex) fun a l _ => l rfl
  refine ⟨a', xs1, v, rfl, rfl, hx1, by rw [o1.length]; exact h1.1, ?_⟩
  have o2 := o1.snoc (.fz q)
  obtain ⟨R2, S2⟩ := R1.top hi1 hv0 hf1 hx1 o2 (by simp)
  exact E.nx _ σ _ _ R2 (r1.stp.kp.trans S2.kp) h1.2
noncomputable def mPut (i : Nat) (m mi : MEt) : MSt := fun D δ => m δ fun r δ1 => match δ1[i]? with
  | some (some (.nd ts)) => mi δ1 fun n _ => asI n.data fun k => match ixN ts.length k with
    | some j => D.nx (δ1.set i (some (.nd (ts.set j (.fz r.data)))))
    | none => False
  | _ => False
noncomputable def mPut2 (i : Nat) (m mi mj : MEt) : MSt := fun D δ => m δ fun r δ1 => match δ1[i]? with
  | some (some (.nd ts)) => mi δ1 fun n _ => asI n.data fun k => match ixN ts.length k with
    | some j => match ts[j]? with
      | some (.nd us) => mj δ1 fun n' _ => asI n'.data fun k' => match ixN us.length k' with
        | some j' => D.nx (δ1.set i (some (.nd (ts.set j (.nd (us.set j' (.fz r.data)))))))
        | none => False
      | _ => False
    | none => False
  | _ => False
theorem SE.pureAfter {t : TE} {C : MC G} {H : Hp} {σ : St} {δ : DEnv} {fp : Fp} {ex : Addr → Prop} {K' : OT → DEnv → Prop} {Q : VK} (s : SE G io true c t m) (R : Rel C io H σ δ fp ex) (h : m δ K') (k : ∀ H' v r, Rel C io H' σ δ fp ex → Same H H' → Da G H' (fun a => c = true → Lf C fp ex a) v r.data → K' r δ → Q v H') : t σ H Q :=
  s C H σ δ fp ex _ _ R h fun H1 v r δ1 fp1 new r1 h1 => by
    obtain ⟨e1, e2⟩ := r1.stp.env rfl
    have q := r1.da R
    have R1 := r1.base
    rw [e1] at R1 h1
    rw [e2] at R1 q
    exact k H1 v r R1 (fun b o e => r1.stp.keep b o e (.inl rfl)) q h1
theorem Owns.deep {H : Hp} {L : Addr → Prop} {b' : Addr} {ws ws' : List V} {us us' : List OT} (hb : H b' = Option.some (HO.lst ws)) (hL : ¬ L b') (hc : ∀ cs, Owns G H L ws us cs → ∃ cs', Owns G H L ws' us' cs' ∧ cs'.Sublist cs) :
    ∀ {xs : List V} {ts : List OT} {as : List Addr} {j : Nat}, Owns G H L xs ts as → as.Nodup → xs[j]? = Option.some (.ref b') → ts[j]? = Option.some (.nd us) → ∃ as', Owns G (upd H b' (.lst ws')) L xs (ts.set j (.nd us')) as' ∧ as'.Sublist as ∧ b' ∈ as
  | _, _, _, _, .nil, _, e, _ => by simp at e
  | _, _, _, 0, .cons (as := as) (bs := bs) k t, nd, e, e' => by
    simp at e e'
    subst e e'
    have nd' := List.nodup_append.mp nd
    have kp : ∀ a o, a ≠ b' → H a = Option.some o → upd H b' (.lst ws') a = Option.some o := fun a o n q => by rw [upd_ne n]; exact q
    have f1 : ∀ a zs, L a → Rd H a (.lst zs) → L a ∧ Rd (upd H b' (.lst ws')) a (.lst zs) := fun a zs l q => ⟨l, by
      have na : a ≠ b' := fun z => hL (z ▸ l)
      rcases q with q | ⟨u, q⟩
      · exact .inl (kp a _ na q)
      · exact .inr ⟨u, kp a _ na q⟩⟩
    have f2 : ∀ a (zs : ImO), H a = Option.some zs.ho → upd H b' (.lst ws') a = Option.some zs.ho := fun a zs q => kp a _ (fun z => ImO.nl q (z ▸ hb)) q
    cases k with
    | nd h r =>
      rename_i xs0 as0
      rw [hb] at h
      cases h
      have nd2 := List.nodup_cons.mp nd'.1
      obtain ⟨cs', o', s'⟩ := hc _ r
      refine ⟨b' :: cs' ++ bs, .cons (.nd upd_same (o'.frame f1 f2 fun a m zs q => kp a _ (fun z => nd2.1 (s'.subset (z ▸ m))) q)) (t.frame f1 f2 fun a m zs q => kp a _ (fun z => nd'.2.2 b' (.head _) a m z.symm) q), List.Sublist.append_right (List.Sublist.cons₂ _ s') bs, List.mem_append_left _ (.head _)⟩
  | _, _, _, j + 1, .cons (as := as) (bs := bs) k t, nd, e, e' => by
    have nd' := List.nodup_append.mp nd
    obtain ⟨as', o, s, m⟩ := Owns.deep hb hL hc (j := j) t nd'.2.1 (by simpa using e) (by simpa using e')
    have nb : b' ∉ as := fun z => nd'.2.2 b' z b' m rfl
    refine ⟨as ++ as', .cons ?_ o, List.Sublist.append_left s as, List.mem_append_right _ m⟩
    have kp : ∀ a o, a ≠ b' → H a = Option.some o → upd H b' (.lst ws') a = Option.some o := fun a o n q => by rw [upd_ne n]; exact q
    refine k.frame (fun a zs l q => ⟨l, ?_⟩) (fun a zs q => kp a _ (fun z => ImO.nl q (z ▸ hb)) q) fun a m' zs q => kp a _ (fun z => nb (z ▸ m')) q
    have na : a ≠ b' := fun z => hL (z ▸ l)
    rcases q with q | ⟨u, q⟩
    · exact .inl (kp a _ na q)
    · exact .inr ⟨u, kp a _ na q⟩
theorem ms_put2 (i : Nat) (he : ME X io p true e m) (hj : ME X io true c a mi) (hk : ME X io true c' b mj) (hPa : PlainIx a) (hN : X.N[i]? = some x := by rfl) (hv : Vis X.env.scope x := by first | exact Or.inl rfl | exact Or.inr (Or.inl rfl) | exact Or.inr (Or.inr rfl)) (hd : (x == ("__debug__" : Str)) = false := by decide)
    (hcd : (x == ("__classdict__" : Str)) = false := by decide)
    (hpg : ∀ {to ti : TE}, PE X (.Subscript (.Name x px) a pp) to → PE X b ti → PG X (.Subscript (.Subscript (.Name x px) a pp) b p2) (gSub to ti rSetL) := by intro _ _ A B; exact pg_sub A B set_list)
    (hs : swapsWithSole [.Subscript (.Subscript (.Name x px) a pp) b p2] e pos.line X.env = pure false := by rfl) (hw : swappedStores [.Subscript (.Subscript (.Name x px) a pp) b p2] e X.env = pure none := by rfl)
    (h1 : (assignEach [.Subscript (.Subscript (.Name x px) a pp) b p2] X.env).map (·.2) = [assign (.Subscript (.Subscript (.Name x px) a pp) b p2) X.env] := by rfl) :
    MS X io (.Assign [.Subscript (.Subscript (.Name x px) a pp) b p2] e pos) (mPut2 i m mi mj) := by
  obtain ⟨_, A, s⟩ := he
  obtain ⟨_, B, sj⟩ := hj
  obtain ⟨_, B2, sk⟩ := hk
  refine ⟨_, ps_asg A (hpg (pe_ix (ix_listK rfl) (pv i hN hv hd hcd) B hPa) B2) hs hw h1, fun C H σ δ fp ex D D' R h E => ?_⟩
  refine s C H σ δ fp ex _ _ R h fun H1 v r δ1 fp1 new r1 h1 => ?_
  have R1 := r1.base
  have q := (r1.da R).wide (L' := Lf C fp1 ex) fun a l _ => l rfl
  split at h1
  case h_2 => exact h1.elim
  rename_i ts hi
  obtain ⟨a', _, _, hv0, _⟩ := R1.ownNd hi
  refine ⟨_, hv0, ?_⟩
  refine sj.pureAfter R1 h1 fun H2 w n R2 s2 q2 h2 => ?_
  obtain ⟨k, rfl, h2⟩ := q2.intInv h2
  split at h2
  case h_2 => exact h2.elim
  rename_i j hj
  split at h2
  case h_2 => exact h2.elim
  rename_i us hus
  -- the row
  obtain ⟨a2, xs2, bs2, hv2, hx2, o2, hf2⟩ := R2.ownNd hi
  rw [hv0] at hv2
  cases hv2
  obtain ⟨xr, cr, hxr, orow, _⟩ := o2.get hus
  obtain ⟨b', rfl⟩ : ∃ b', xr = V.ref b' := by
    cases orow with
    | nd h r => exact ⟨_, rfl⟩
  refine ⟨a', xs2, k, V.ref b', rfl, rfl, .inl (.inl hx2), ?_, ?_⟩
  · unfold atI
    rw [o2.length, hj]
    exact hxr
  refine sk.pureAfter R2 h2 fun H3 w' n' R3 s3 q3 h3 => ?_
  obtain ⟨k', rfl, h3⟩ := q3.intInv h3
  split at h3
  case h_2 => exact h3.elim
  rename_i j' hj'
  obtain ⟨a3, xs3, bs3, hv3, hx3, o3, hf3⟩ := R3.ownNd hi
  rw [hv0] at hv3
  cases hv3
  have exs : xs3 = xs2 := by
    have := s3 _ _ hx2
    rw [hx3] at this
    cases this; rfl
  subst exs
  obtain ⟨xr3, cr3, hxr3, orow3, hsub3⟩ := o3.get hus
  rw [hxr] at hxr3
  cases hxr3
  have nd3 := R3.nd i
  rw [hf3] at nd3
  have hn3 := List.nodup_cons.mp nd3
  cases orow3 with
  | nd hb r3 =>
    rename_i ws3 bs4
    have hbm : b' ∈ bs3 := hsub3.subset (.head _)
    have hbf : b' ∈ fp1 i := by rw [hf3]; exact .tail _ hbm
    have hLb : ¬ Lf C fp1 ex b' := fun l => l.1 ⟨i, hbf⟩
    obtain ⟨as', oo, ss, _⟩ := Owns.deep (ws' := ws3.set j' v) (us' := us.set j' (.fz r.data)) hb hLb (fun cs hcs => Owns.set (.fz ((q.same s2).same s3)) j' hcs) o3 hn3.2 hxr hus
    refine ⟨b', ws3, k', j', rfl, rfl, hb, by rw [r3.length]; exact hj', ?_⟩
    have hba : a' ≠ b' := fun z => hn3.1 (z ▸ hbm)
    -- the change
    have sub : ∀ a, a ∈ a' :: as' → a ∈ fp1 i := fun a m => by
      rw [hf3]
      rcases List.mem_cons.mp m with rfl | m
      · exact .head _
      · exact .tail _ (ss.subset m)
    have kp : ∀ b o, H3 b = some o → b ≠ b' → upd H3 b' (.lst (ws3.set j' v)) b = some o := fun b o e n => by rw [upd_ne n]; exact e
    have lw : ∀ a, Lf C fp1 ex a → upd H3 b' (.lst (ws3.set j' v)) a ≠ none → Lf C (fpu fp1 i (a' :: as')) (exu ex []) a := fun a l _ => ⟨fun z => by
      rcases z.of_u with z | ⟨j, _, z⟩
      · exact l.1 ⟨i, sub a z⟩
      · exact l.1 ⟨j, z⟩, fun z => l.2.1 (exu_nil.mp z), l.2.2⟩
    obtain ⟨R4, S4⟩ := R3.change (new := []) (as' := a' :: as') (t' := .nd (ts.set j (.nd (us.set j' (.fz r.data))))) (H' := upd H3 b' (.lst (ws3.set j' v))) hi hv0 (fun b o e nb => kp b o e fun z => nb (by rw [z]; exact hbf)) (fun b e => by
        by_cases q : b = b'
        · subst q; rw [upd_same] at e; cases e
        · rwa [upd_ne q] at e) (.nd (by rw [upd_ne hba]; exact hx3) (oo.wide lw)) (List.nodup_cons.mpr ⟨fun m => hn3.1 (ss.subset m), hn3.2.sublist ss⟩) (fun a m => .inl (sub a m)) (fun a m => nomatch m)
    have k23 : Kp H1 fp1 H3 fp1 := ⟨fun b o e _ => s3 _ _ (s2 _ _ e), fun z => (nomatch z), fun a z => .inl z, fun b e => s2.al b (s3.al b e)⟩
    exact E.nx _ σ _ _ (R4.drop fun a z => .inl z) (r1.stp.kp.trans (k23.trans S4.kp)) h3
end
end L2

set_option Elab.async false
set_option linter.all false
set_option maxRecDepth 100000
set_option maxHeartbeats 4000000
namespace L2
open PySem PySem.Spec PyProof.Rows
variable {G : PySem.W.Frag}
mutual
noncomputable def flatT : OT → Bool
  | .fz d => flatD d
  | .nd ts => flatTs ts
noncomputable def flatTs : List OT → Bool
  | [] => true
  | t :: ts => flatT t && flatTs ts
end
theorem flatTs_iff : ∀ (ts : List OT), flatTs ts = true ↔ ∀ t ∈ ts, flatT t = true
  | [] => by simp [flatTs]
  | t :: ts => by simp [flatTs, flatTs_iff ts]
section
variable {X : Cx} {io : List Nat} {p c : Bool} {e : Expr} {m : MEt}
noncomputable def mFlatT (m : MEt) : MEt := fun δ K => m δ fun r δ' => flatT r = true ∧ K r δ'
noncomputable def mFreeze (i : Nat) (u : MSt) : MSt := fun D δ => match δ[i]? with | some (some t) => u D (δ.set i (some (.fz t.data))) | _ => False
noncomputable def mSeqJ (u w : MSt) : MSt := fun D δ => ∃ R : DEnv → Prop, u { D with nx := R } δ ∧ ∀ δ', R δ' → Hold w D δ'
end
end L2

set_option Elab.async false
set_option linter.all false
set_option maxRecDepth 100000
set_option maxHeartbeats 4000000
namespace L2
open PySem PySem.Spec PyProof.Rows
variable {G : PySem.W.Frag}

noncomputable def SLaw (ds : List PyData) (k : OT → Prop) : Prop := ∃ ns : List Int, ds = [.list (ns.map PyData.int)] ∧ ns.length ≤ 63 ∧ k (.fz (.bool true))
theorem law_sp {H : Hp} {a : Addr} {ns : List Int} {E : XK} (hl : ns.length ≤ 63) (h : SqL G H a (ns.map V.int)) : spD G SLaw [.ref a] H (fun v _ => v = .bl true) E := by
  refine ⟨fun _ => True, [.list (ns.map PyData.int)], fun r => r = .fz (.bool true), .cons ?_ .nil, ⟨ns, rfl, hl, rfl⟩, fun r v H' new kr s o _ _ => ?_⟩
  · rcases h with h | h
    · exact .lst trivial h (.ints ns)
    · exact .scr h
  · subst kr
    cases o with
    | fz q => cases q; rfl
section
variable {P : Program} {w : World} {mg : Str → Option Value} {base : Heap} {CX : CXT} {n : Nat} {f : Addr} {fd : FuncData} {ps : List Str}
theorem post_fz {H H' : Hp} {L : Addr → Prop} {v : V} {d : PyData} {k : OT → Prop} {Q : VK}
    (h : ∀ r v H' new, k r → Same H H' → Own G H' (fun a => (L a ∨ H a = none) ∧ a ∉ new) v r new → new.Nodup → (∀ a ∈ new, H a = none) → Q v H') (hk : k (.fz d)) (s : Same H H') (q : Da G H' (fun _ => False) v d) : Q v H' :=
  h _ v H' [] hk s (.fz (q.wide fun _ z => z.elim)) .nil fun a m => nomatch m
theorem FQ.da {H : Hp} {L : Addr → Prop} {v : V} {q : Rat} (h : FQ H v q) : Da G H L v (frD q) := by
  obtain ⟨p, rfl, e⟩ := h
  exact .tup e (.cons (.int _) (.cons (.int _) .nil))
noncomputable def SLow (ds : List PyData) (k : OT → Prop) : Prop := ∃ t b : Int, ds = [.int t, .int b] ∧ b ≠ 0 ∧ Bt 9000 b ∧ k (.fz (frD (Rat.divInt t b)))
theorem FnOk.lowD (F : FnOk P w G mg base CX n f fd ps spLow) : FnOk P w G mg base CX n f fd ps (spD G SLow) :=
  F.imp fun vs H Q E h => by
    obtain ⟨L, ds, k, h1, ⟨a, b, rfl, hb, hB, hk⟩, h3⟩ := h
    cases h1 with
    | cons q r =>
      cases r with
      | cons q' r =>
        cases q
        cases q'
        cases r
        exact ⟨a, b, rfl, hb, hB, fun v H' s fq => post_fz h3 hk s fq.da⟩
noncomputable def plT (a b c : Int) : OT := .nd [.fz (.int a), .fz (.int b), .fz (.int c)]
noncomputable def PlT (t : OT) (n : Nat) : Prop := ∃ a b c : Int, t = plT a b c ∧ 0 ≤ c ∧ c ≤ n
theorem PlT.mono {t : OT} {m n : Nat} (h : PlT t m) (k : m ≤ n) : PlT t n := by
  obtain ⟨a, b, c, e, h1, h2⟩ := h
  exact ⟨a, b, c, e, h1, by omega⟩
theorem Own.pl {H : Hp} {L : Addr → Prop} {v : V} {t : OT} {as : List Addr} {n : Nat} (o : Own G H L v t as) (h : PlT t n) : ∃ p, v = .ref p ∧ as = [p] ∧ Pl H p n := by
  obtain ⟨a, b, c, rfl, h1, h2⟩ := h
  unfold plT at o
  cases o with
  | nd e r =>
    cases r with
    | cons o1 r =>
      cases r with
      | cons o2 r =>
        cases r with
        | cons o3 r =>
          cases r
          cases o1 with
          | fz q1 =>
            cases o2 with
            | fz q2 =>
              cases o3 with
              | fz q3 =>
                cases q1
                cases q2
                cases q3
                exact ⟨_, rfl, rfl, a, b, c, e, h1, h2⟩
theorem Pl.own {H : Hp} {L : Addr → Prop} {p : Addr} {n : Nat} (h : Pl H p n) : ∃ t, PlT t n ∧ Own G H L (.ref p) t [p] := by
  obtain ⟨a, b, c, e, h1, h2⟩ := h
  exact ⟨plT a b c, ⟨a, b, c, rfl, h1, h2⟩, .nd e (.cons (.fz (.int a)) (.cons (.fz (.int b)) (.cons (.fz (.int c)) .nil)))⟩
noncomputable def SPool (ds : List PyData) (k : OT → Prop) : Prop := ∃ (ns : List Int) (i : Int), ds = [.list (ns.map PyData.int), .int i] ∧ 0 ≤ i ∧ i ≤ 1000 ∧ ∀ t, PlT t 23000 → k t
theorem Da.ints_sq {H : Hp} {L : Addr → Prop} {v : V} {ns : List Int} (h : Da G H L v (.list (ns.map PyData.int))) : ∃ a, v = .ref a ∧ SqL G H a (ns.map V.int) := by
  generalize e : PyData.list (ns.map PyData.int) = d at h
  cases h with
  | lst l e1 r =>
    cases e
    rw [r.int_inv] at e1
    exact ⟨_, rfl, .inl e1⟩
  | scr k =>
    rename_i a ms
    have e' := PyData.list.inj e
    have : ns = ms := (List.map_inj_right (fun _ _ h => by cases h; rfl)).mp e'
    subst this
    exact ⟨_, rfl, k.sq⟩
  | _ => cases e
theorem FnOk.poolD (F : FnOk P w G mg base CX n f fd ps (spPool G)) : FnOk P w G mg base CX n f fd ps (spD G SPool) :=
  F.imp fun vs H Q E h => by
    obtain ⟨L, ds, k, h1, ⟨ns, i, rfl, hi0, hi1, hk⟩, h3⟩ := h
    cases h1 with
    | cons d1 t =>
      cases t with
      | cons d2 t =>
        cases t
        cases d2
        obtain ⟨a, rfl, hs⟩ := d1.ints_sq
        refine ⟨a, ns, i, rfl, hs, hi0, hi1, fun p H' hp s pl => ?_⟩
        obtain ⟨t, ht, o⟩ := pl.own (G := G) (L := fun a => (L a ∨ H a = none) ∧ a ∉ [p])
        exact h3 t _ H' [p] (hk t ht) s o (one_nd p) (one_new hp)
theorem post_pl {H H' : Hp} {L : Addr → Prop} {p : Addr} {v : V} {d : PyData} {k : OT → OT → Prop} {Q : VK} {m : Nat} (hp : H p ≠ none)
    (h : ∀ r t' v H' new as', k r t' → (∀ b o, H b = some o → b ∉ [p] → H' b = some o) → (∀ b, H' b = none → H b = none) →
      Own G H' (fun a => (L a ∨ H a = none) ∧ a ∉ new ∧ a ∉ as') v r new → Own G H' (fun a => (L a ∨ H a = none) ∧ a ∉ new ∧ a ∉ as') (.ref p) t' as' → (as' ++ new).Nodup → (∀ a ∈ new, H a = none) → (∀ a ∈ as', a ∈ [p] ∨ H a = none) → Q v H')
    (hk : ∀ t', PlT t' m → k (.fz d) t') (b : But p H H') (pl : Pl H' p m) (q : Da G H' (fun _ => False) v d) : Q v H' := by
  obtain ⟨t, ht, o⟩ := pl.own (G := G) (L := fun a => (L a ∨ H a = none) ∧ a ∉ ([] : List Addr) ∧ a ∉ [p])
  refine h _ t v H' [] [p] (hk t ht) (fun c ob e n => b c ob (fun z => n (List.mem_singleton.mpr z)) e) (fun c e => ?_) (.fz (q.wide fun _ z => z.elim)) o (by simpa using one_nd p) (fun a m => nomatch m) fun a m => .inl m
  by_cases z : c = p
  · subst z
    obtain ⟨xs, e'⟩ := pl.at
    rw [e] at e'; cases e'
  · cases q : H c with
    | none => rfl
    | some ob =>
      rw [b c ob z q] at e; cases e
noncomputable def STake (t : OT) (ds : List PyData) (k : OT → OT → Prop) : Prop := ∃ (m : Nat) (many : Int), PlT t m ∧ ds = [.int many] ∧ m ≤ 1000000000 ∧ 0 < many ∧ Bt 9000 many ∧ ∀ (r : Int) t', 0 ≤ r → r < many → PlT t' (m + 1) → k (.fz (.int r)) t'
theorem FnOk.takeI (F : FnOk P w G mg base CX n f fd ps spTake) : FnOk P w G mg base CX n f fd ps (spI G STake) :=
  F.imp fun vs H Q E h => by
    obtain ⟨L, v0, t0, as, vs', ds, k, rfl, o0, nd0, hL, h1, ⟨m, many, hpl, rfl, hm, h0, hB, hk⟩, h3⟩ := h
    obtain ⟨p, rfl, rfl, pl⟩ := o0.pl hpl
    cases h1 with
    | cons d1 t =>
      cases t
      cases d1
      obtain ⟨xs, ep⟩ := pl.at
      exact ⟨p, m, many, rfl, pl, hm, h0, hB, fun r H' r0 r1 b pl' => post_pl (m := m + 1) (by rw [ep]; intro z; cases z) h3 (fun t' ht => hk r t' r0 r1 ht) b pl' (.int r)⟩
noncomputable def SFigs (t : OT) (ds : List PyData) (k : OT → OT → Prop) : Prop := ∃ m : Nat, PlT t m ∧ ds = [] ∧ m ≤ 900000000 ∧ ∀ (r : Int) t', 0 ≤ r → r < 10 ^ 40 → PlT t' (m + 6) → k (.fz (.int r)) t'
theorem FnOk.figsI (F : FnOk P w G mg base CX n f fd ps spFigures) : FnOk P w G mg base CX n f fd ps (spI G SFigs) :=
  F.imp fun vs H Q E h => by
    obtain ⟨L, v0, t0, as, vs', ds, k, rfl, o0, nd0, hL, h1, ⟨m, hpl, rfl, hm, hk⟩, h3⟩ := h
    obtain ⟨p, rfl, rfl, pl⟩ := o0.pl hpl
    cases h1
    obtain ⟨xs, ep⟩ := pl.at
    exact ⟨p, m, rfl, pl, hm, fun r H' r0 r1 b pl' => post_pl (m := m + 6) (by rw [ep]; intro z; cases z) h3 (fun t' ht => hk r t' r0 r1 ht) b pl' (.int r)⟩
end
end L2

set_option Elab.async false
set_option linter.all false
set_option maxRecDepth 100000
set_option maxHeartbeats 4000000
namespace L2
open PySem PySem.Spec PyProof.Rows
@[simp] theorem datas_nil : OT.datas [] = [] := rfl
@[simp] theorem datas_cons (t : OT) (ts : List OT) : OT.datas (t :: ts) = t.data :: OT.datas ts := rfl
theorem atI_nn {α : Type} {xs : List α} {i : Int} (h0 : 0 ≤ i) : atI xs i = xs[i.toNat]? := by
  unfold atI ixN
  rw [if_pos h0]
  split
  · rfl
  · rename_i h
    symm
    exact List.getElem?_eq_none_iff.mpr (by omega)
theorem atI_of {α : Type} {xs : List α} {i : Nat} : atI xs (i : Int) = xs[i]? := by
  rw [atI_nn (by omega), Int.toNat_natCast]
@[simp] theorem atI_0 {α : Type} (x : α) (xs : List α) : atI (x :: xs) 0 = some x := by
  rw [atI_nn (by decide)]; rfl
@[simp] theorem atI_1 {α : Type} (x y : α) (xs : List α) : atI (x :: y :: xs) 1 = some y := by
  rw [atI_nn (by decide)]; rfl
@[simp] theorem atI_2 {α : Type} (x y z : α) (xs : List α) : atI (x :: y :: z :: xs) 2 = some z := by
  rw [atI_nn (by decide)]; rfl
@[simp] theorem ixD_list (ds : List PyData) (i : Int) : ixD (.list ds) (.int i) = atI ds i := rfl
@[simp] theorem ixD_tup (ds : List PyData) (i : Int) : ixD (.tuple ds) (.int i) = atI ds i := rfl
@[simp] theorem lenD_list (ds : List PyData) : lenD (.list ds) = some ds.length := rfl
@[simp] theorem lenD_tup (ds : List PyData) : lenD (.tuple ds) = some ds.length := rfl
theorem for_rng {lo : Int} {n : Nat} {g : MGt} {u : MSt} {D : EndsM} {δ : DEnv} (I : Nat → DEnv → Prop) (h0 : I 0 δ)
    (turn : ∀ (i : Nat) (δ' : DEnv), i < n → I i δ' → g (.int (lo + i)) δ' fun δ2 => u { D with nx := I (i + 1), ct := I (i + 1), bk := D.nx } δ2) (fin : ∀ δ', I n δ' → D.nx δ') : mForB (rngD lo n) g u D δ :=
  ⟨I, h0, fun i d δ' hd hi => by
    obtain ⟨h1, rfl⟩ := rngD_get hd
    exact turn i δ' h1 hi, fun δ' h => fin δ' (by simpa using h)⟩
theorem for_lst {ds : List PyData} {g : MGt} {u : MSt} {D : EndsM} {δ : DEnv} (I : Nat → DEnv → Prop) (h0 : I 0 δ)
    (turn : ∀ (i : Nat) (d : PyData) (δ' : DEnv), ds[i]? = some d → I i δ' → g d δ' fun δ2 => u { D with nx := I (i + 1), ct := I (i + 1), bk := D.nx } δ2) (fin : ∀ δ', I ds.length δ' → D.nx δ') : mForB ds g u D δ := ⟨I, h0, turn, fin⟩
theorem for_map {α : Type} [Inhabited α] {f : α → PyData} {l : List α} {g : MGt} {u : MSt} {D : EndsM} {δ : DEnv} (I : Nat → DEnv → Prop) (h0 : I 0 δ)
    (turn : ∀ (i : Nat) (x : α) (δ' : DEnv), l[i]? = some x → I i δ' → g (f x) δ' fun δ2 => u { D with nx := I (i + 1), ct := I (i + 1), bk := D.nx } δ2) (fin : ∀ δ', I l.length δ' → D.nx δ') : mForB (l.map f) g u D δ :=
  ⟨I, h0, fun i d δ' hd hi => by
    rw [List.getElem?_map] at hd
    cases e : l[i]? with
    | none => rw [e] at hd; cases hd
    | some x =>
      rw [e] at hd
      cases hd
      exact turn i x δ' e hi, fun δ' h => fin δ' (by simpa using h)⟩
noncomputable def Cmp (f : Nat → OT) (cs : DEnv) (i : Nat) : OT → DEnv → Prop := fun r δ => (List.range i).map f ++ [r] = (List.range (i + 1)).map f ∧ ∃ z, δ = z :: cs
theorem Cmp.of {f : Nat → OT} {cs : DEnv} {i : Nat} {r : OT} {z : Option OT} (h : r = f i) : Cmp f cs i r (z :: cs) := ⟨by rw [h, List.range_succ, List.map_append]; rfl, z, rfl⟩
theorem comp_map {caps : List Nat} {ds : List PyData} {g : MGt} {me : MEt} {δ : DEnv} {K : OT → DEnv → Prop} {cs : DEnv} (f : Nat → OT) (hz : ds.length ≤ sizeLine) (hb : blk 1 caps δ = none :: cs)
    (turn : ∀ (i : Nat) (d : PyData) (z : Option OT), ds[i]? = some d → g d (z :: cs) fun δ2 => me δ2 (Cmp f cs i))
    (fin : K (.nd ((List.range ds.length).map f)) δ) : mCompB 1 caps ds g mTrue me δ K := by
  refine ⟨hz, fun i rs δ' => rs = (List.range i).map f ∧ ∃ z, δ' = z :: cs, ⟨rfl, none, hb⟩, ?_, ?_⟩
  · rintro i d rs _ hd ⟨rfl, z, rfl⟩
    exact turn i d z hd
  · rintro rs δ' ⟨rfl, _⟩
    exact fin
noncomputable def rowD (r : List Rat) : PyData := .list (r.map frD)
noncomputable def tbD (T : List (List Rat)) : PyData := .list (T.map rowD)
noncomputable def rowT (r : List Rat) : OT := .nd (r.map fun q => .fz (frD q))
noncomputable def tbT (T : List (List Rat)) : OT := .nd (T.map rowT)
@[simp] theorem rowT_data (r : List Rat) : (rowT r).data = rowD r := by
  unfold rowT rowD
  rw [OT.data_nd, List.map_map]
  rfl
@[simp] theorem tbT_data (T : List (List Rat)) : (tbT T).data = tbD T := by
  unfold tbT tbD
  rw [OT.data_nd, List.map_map]
  exact congrArg PyData.list (List.map_congr_left fun r _ => rowT_data r)
noncomputable def Sq (n : Nat) (T : List (List Rat)) : Prop := T.length = n ∧ ∀ r ∈ T, r.length = n
noncomputable def dd (T : List (List Rat)) (i j : Nat) : Rat := (T.getD i []).getD j 0
theorem Sq.row {n : Nat} {T : List (List Rat)} {i : Nat} (h : Sq n T) (hi : i < n) : T[i]? = some (T.getD i []) := by
  have hl : i < T.length := by rw [h.1]; exact hi
  rw [List.getD_eq_getElem?_getD, List.getElem?_eq_getElem hl]; rfl
theorem Sq.rowlen {n : Nat} {T : List (List Rat)} {i : Nat} (h : Sq n T) (hi : i < n) : (T.getD i []).length = n := h.2 _ (List.mem_of_getElem? (h.row hi))
theorem Sq.cell {n : Nat} {T : List (List Rat)} {i j : Nat} (h : Sq n T) (hi : i < n) (hj : j < n) : (T.getD i [])[j]? = some (dd T i j) := by
  have hl : j < (T.getD i []).length := by rw [h.rowlen hi]; exact hj
  unfold dd
  generalize T.getD i [] = r at hl ⊢
  rw [List.getD_eq_getElem?_getD, List.getElem?_eq_getElem hl]; rfl
theorem Sq.ix {n : Nat} {T : List (List Rat)} {i : Nat} (h : Sq n T) (hi : i < n) : ixD (tbD T) (.int (i : Int)) = some (rowD (T.getD i [])) := by
  unfold tbD
  rw [ixD_list, atI_of, List.getElem?_map, h.row hi]; rfl
theorem Sq.ix2 {n : Nat} {T : List (List Rat)} {i j : Nat} (h : Sq n T) (hi : i < n) (hj : j < n) : ixD (rowD (T.getD i [])) (.int (j : Int)) = some (frD (dd T i j)) := by
  unfold rowD
  rw [ixD_list, atI_of, List.getElem?_map, h.cell hi hj]; rfl
@[simp] theorem lenD_tb (T : List (List Rat)) : lenD (tbD T) = some T.length := by unfold tbD lenD; simp
@[simp] theorem lenD_row (r : List Rat) : lenD (rowD r) = some r.length := by unfold rowD lenD; simp
@[simp] theorem flat_fr (q : Rat) : flatD (frD q) = true := by unfold frD fr; simp [flatD, flatDs]
end L2
namespace L2
open PySem PySem.Spec PyProof.Rows
end L2
namespace L2
open PySem PySem.Spec PyProof.Rows
theorem shp_int (i : Int) : ShpD (.int i) := ⟨rfl⟩
theorem shp_bl (b : Bool) : ShpD (.bool b) := ⟨by cases b <;> rfl⟩
theorem shp_non : ShpD .none := ⟨rfl⟩
theorem shp_frD (q : Rat) : ShpD (frD q) := ⟨rfl⟩
theorem tru_bl (b : Bool) : truD (.bool b) = some b := rfl
theorem tru_int (i : Int) : truD (.int i) = some (i != 0) := rfl
theorem tru_non : truD .none = some false := rfl
theorem isN_non : isNoneD .none = true := rfl
theorem isN_tup (ds : List PyData) : isNoneD (.tuple ds) = false := rfl
theorem isN_lst (ds : List PyData) : isNoneD (.list ds) = false := rfl
theorem ty_tup (ds : List PyData) : isTy "tuple" (.tuple ds) = true := rfl
theorem ty_lst (ds : List PyData) : isTy "list" (.list ds) = true := rfl
theorem ty_ib (i : Int) : isTy "bool" (.int i) = false := rfl
theorem ty_ii (i : Int) : isTy "int" (.int i) = true := rfl
theorem eqv_int (a b : Int) : PyData.eqv (.int a) (.int b) = decide (a = b) := by
  by_cases h : a = b
  · rw [decide_eq_true h]; exact eqv_eq rfl rfl (by rw [h])
  · rw [decide_eq_false h]; exact eqv_ne rfl rfl (fun z => h (by cases z; rfl))
end L2
namespace L2
open PySem PySem.Spec PyProof.Rows
theorem ix_ints (ns : List Int) {r : Int} (r0 : 0 ≤ r) (r1 : r < ns.length) : ∃ c, c ∈ ns ∧ ixD (.list (ns.map PyData.int)) (.int r) = some (.int c) := by
  have h : r.toNat < ns.length := by omega
  refine ⟨ns[r.toNat], List.getElem_mem h, ?_⟩
  rw [ixD_list, atI_nn r0, List.getElem?_map, List.getElem?_eq_getElem h]; rfl
theorem frD_int (n : Int) : PyData.tuple [.int n, .int 1] = frD (n : Rat) := by
  unfold frD fr
  rw [Rat.num_intCast, Rat.den_intCast]; rfl
theorem bt_of {n : Nat} {i : Int} (h0 : 0 ≤ i) (h1 : i < 2 ^ n) : Bt n i := by
  unfold Bt
  have : ((2 ^ n : Nat) : Int) = 2 ^ n := by simp
  omega
theorem divInt_nn {t b : Int} (ht : 0 ≤ t) (hb : 0 < b) : 0 ≤ Rat.divInt t b := Rat.divInt_nonneg ht (by omega)
end L2
namespace L2
open PySem PySem.Spec PyProof.Rows
theorem p10_6 : (10 : Int) ^ Int.toNat 6 = 1000000 := by decide
theorem p10_9 : (10 : Int) ^ Int.toNat 9 = 1000000000 := by decide
theorem p10_18 : (10 : Int) ^ Int.toNat 18 = 1000000000000000000 := by decide
theorem p10_27 : (10 : Int) ^ Int.toNat 27 = 1000000000000000000000000000 := by decide
theorem p10_30 : (10 : Int) ^ Int.toNat 30 = 1000000000000000000000000000000 := by decide
theorem comp_genI {n : Nat} {caps : List Nat} {o q : Nat} {ds : List PyData} {g : MGt} {mt : MTt} {me : MEt} {δ : DEnv} {K : OT → DEnv → Prop} (I : Nat → List OT → DEnv → Prop) (hz : ds.length ≤ sizeLine) (hc : capsOk caps o δ = true) (h0 : I 0 [] (blk n caps δ))
    (turn : ∀ (i : Nat) (d : PyData) (rs : List OT) (δ' : DEnv), ds[i]? = some d → I i rs δ' → g d δ' fun δ2 => mt δ2 fun b δ3 => if b = true then me δ3 fun r δ4 => I (i + 1) (rs ++ [r]) δ4 else I (i + 1) rs δ3)
    (fin : ∀ rs δ', I ds.length rs δ' → match δ[o]?, δ'[q]? with | some (some _), some (some t) => K (.nd rs) (δ.set o (some t)) | _, _ => False) : mCompIB n caps o q ds g mt me δ K := ⟨hz, hc, I, h0, turn, fin⟩
noncomputable def Zd (n : Nat) (T : List (List Rat)) : Prop := (∀ i, i < n → dd T i i = 0) ∧ (∀ i j, i < n → j < n → 0 ≤ dd T i j ∧ dd T i j = dd T j i)
end L2
namespace L2
open PySem PySem.Spec PyProof.Rows
noncomputable def mkT (n : Nat) (f : Nat → Nat → Rat) : List (List Rat) := (List.range n).map fun i => (List.range n).map fun j => f i j
theorem mkT_sq (n : Nat) (f : Nat → Nat → Rat) : Sq n (mkT n f) := by
  refine ⟨by simp [mkT], fun r hr => ?_⟩
  unfold mkT at hr
  obtain ⟨i, _, rfl⟩ := List.mem_map.mp hr
  simp
theorem mkT_dd {n : Nat} {f : Nat → Nat → Rat} {i j : Nat} (hi : i < n) (hj : j < n) : dd (mkT n f) i j = f i j := by
  unfold dd mkT
  simp [List.getD_eq_getElem?_getD, hi, hj]
theorem mkT_tree (n : Nat) (f : Nat → Nat → Rat) : tbT (mkT n f) = .nd ((List.range n).map fun i => .nd ((List.range n).map fun j => .fz (frD (f i j)))) := by
  unfold tbT mkT rowT
  simp [List.map_map, Function.comp_def]
theorem map_fz_int (ps : List Int) : List.map OT.data (List.map (fun p : Int => OT.fz (.int p)) ps) = ps.map PyData.int := by
  rw [List.map_map]
  exact List.map_congr_left fun p _ => OT.data_fz _
theorem getInt {ps : List Int} {i : Nat} {d : PyData} (h : (ps.map PyData.int)[i]? = some d) : i < ps.length ∧ d = .int (ps.getD i 0) := by
  rw [List.getElem?_map] at h
  cases e : ps[i]? with
  | none => rw [e] at h; cases h
  | some x =>
    rw [e] at h
    cases h
    refine ⟨(List.getElem?_eq_some_iff.mp e).1, ?_⟩
    rw [List.getD_eq_getElem?_getD, e]; rfl
theorem mem_getD {ps : List Int} {i : Nat} (h : i < ps.length) : ps.getD i 0 ∈ ps := by
  rw [List.getD_eq_getElem?_getD, List.getElem?_eq_getElem h]
  exact List.getElem_mem h
theorem abs_ite (i : Int) : (if i < 0 then -i else i) = (i.natAbs : Int) := abs_eq i
end L2
namespace L2
open PySem PySem.Spec PyProof.Rows
noncomputable def setT (T : List (List Rat)) (i j : Nat) (q : Rat) : List (List Rat) := T.set i ((T.getD i []).set j q)
theorem setT_sq {n : Nat} {T : List (List Rat)} {i j : Nat} {q : Rat} (h : Sq n T) (hi : i < n) : Sq n (setT T i j q) := by
  refine ⟨by simp [setT, h.1], fun r hr => ?_⟩
  unfold setT at hr
  rcases List.mem_or_eq_of_mem_set hr with hr | rfl
  · exact h.2 r hr
  · rw [List.length_set]; exact h.rowlen hi
theorem setT_dd {n : Nat} {T : List (List Rat)} {i j a b : Nat} {q : Rat} (h : Sq n T) (hi : i < n) (hj : j < n) (ha : a < n) (hb : b < n) : dd (setT T i j q) a b = if a = i ∧ b = j then q else dd T a b := by
  have hl : i < T.length := by rw [h.1]; exact hi
  by_cases e : a = i
  · subst e
    have e1 : (setT T a j q).getD a [] = (T.getD a []).set j q := by
      unfold setT
      rw [List.getD_eq_getElem?_getD, List.getElem?_set_self hl]; rfl
    unfold dd
    rw [e1]
    have hjl : j < (T.getD a []).length := by rw [h.rowlen ha]; exact hj
    by_cases e2 : b = j
    · subst e2
      rw [if_pos ⟨rfl, rfl⟩, List.getD_eq_getElem?_getD, List.getElem?_set_self hjl]; rfl
    · rw [if_neg (fun z => e2 z.2), List.getD_eq_getElem?_getD, List.getElem?_set_ne (Ne.symm e2), ← List.getD_eq_getElem?_getD]
  · rw [if_neg (fun z => e z.1)]
    unfold dd setT
    rw [List.getD_eq_getElem?_getD (l := T.set _ _), List.getElem?_set_ne (Ne.symm e), ← List.getD_eq_getElem?_getD]
theorem tb_nd (T : List (List Rat)) : tbT T = .nd (T.map rowT) := rfl
theorem ixN_of {n a : Nat} (h : a < n) : ixN n (a : Int) = some a := by
  unfold ixN
  rw [if_pos (by omega), if_pos (by omega)]; simp
theorem Sq.ixN {n a : Nat} {T : List (List Rat)} (h : Sq n T) (ha : a < n) : ixN (T.map rowT).length (a : Int) = some a := ixN_of (by rw [List.length_map, h.1]; exact ha)
theorem Sq.rowAt {n a : Nat} {T : List (List Rat)} (h : Sq n T) (ha : a < n) : (T.map rowT)[a]? = some (.nd ((T.getD a []).map fun q => .fz (frD q))) := by
  rw [List.getElem?_map, h.row ha]; rfl
theorem Sq.ixN2 {n a b : Nat} {T : List (List Rat)} (h : Sq n T) (ha : a < n) (hb : b < n) : L2.ixN ((T.getD a []).map fun q => OT.fz (frD q)).length (b : Int) = some b := ixN_of (by rw [List.length_map, h.rowlen ha]; exact hb)
theorem setT_tree (T : List (List Rat)) (a b : Nat) (q : Rat) : OT.nd ((T.map rowT).set a (.nd (((T.getD a []).map fun q => OT.fz (frD q)).set b (.fz (frD q))))) = tbT (setT T a b q) := by
  unfold tbT setT
  rw [List.map_set]
  congr 2
  unfold rowT
  rw [List.map_set]
theorem ix3 {d1 d2 d3 : PyData} {r : Int} (r0 : 0 ≤ r) (r1 : r < 3) : ∃ d, (d = d1 ∨ d = d2 ∨ d = d3) ∧ ixD (.list [d1, d2, d3]) (.int r) = some d := by
  have : r = 0 ∨ r = 1 ∨ r = 2 := by omega
  rcases this with rfl | rfl | rfl
  · exact ⟨d1, .inl rfl, rfl⟩
  · exact ⟨d2, .inr (.inl rfl), rfl⟩
  · exact ⟨d3, .inr (.inr rfl), rfl⟩
theorem ix2 {d1 d2 : PyData} {r : Int} (r0 : 0 ≤ r) (r1 : r < 2) : ∃ d, (d = d1 ∨ d = d2) ∧ ixD (.list [d1, d2]) (.int r) = some d := by
  have : r = 0 ∨ r = 1 := by omega
  rcases this with rfl | rfl
  · exact ⟨d1, .inl rfl, rfl⟩
  · exact ⟨d2, .inr rfl, rfl⟩
end L2
namespace L2
open PySem PySem.Spec PyProof.Rows
noncomputable def set2 (T : List (List Rat)) (i j : Nat) (q : Rat) : List (List Rat) := setT (setT T i j q) j i q
theorem set2_dd {n : Nat} {T : List (List Rat)} {i j a b : Nat} {q : Rat} (h : Sq n T) (hi : i < n) (hj : j < n) (ha : a < n) (hb : b < n) : dd (set2 T i j q) a b = if (a = i ∧ b = j) ∨ (a = j ∧ b = i) then q else dd T a b := by
  unfold set2
  rw [setT_dd (setT_sq h hi) hj hi ha hb, setT_dd h hi hj ha hb]
  by_cases c1 : a = j ∧ b = i
  · rw [if_pos c1, if_pos (.inr c1)]
  · rw [if_neg c1]
    by_cases c2 : a = i ∧ b = j
    · rw [if_pos c2, if_pos (.inl c2)]
    · rw [if_neg c2, if_neg (fun z => z.elim c2 c1)]
theorem set2_sq {n : Nat} {T : List (List Rat)} {i j : Nat} {q : Rat} (h : Sq n T) (hi : i < n) (hj : j < n) : Sq n (set2 T i j q) := setT_sq (setT_sq h hi) hj
theorem set2_zd {n : Nat} {T : List (List Rat)} {i j : Nat} {q : Rat} (h : Sq n T) (hi : i < n) (hj : j < n) (hij : i ≠ j) (Z : Zd n T) (hq : 0 ≤ q) : Zd n (set2 T i j q) := by
  refine ⟨fun a ha => ?_, fun a b ha hb => ?_⟩
  · rw [set2_dd h hi hj ha ha, if_neg (by omega)]
    exact Z.1 a ha
  · rw [set2_dd h hi hj ha hb, set2_dd h hi hj hb ha]
    by_cases c : (a = i ∧ b = j) ∨ (a = j ∧ b = i)
    · rw [if_pos c, if_pos (by omega)]
      exact ⟨hq, rfl⟩
    · rw [if_neg c, if_neg (by omega)]
      exact Z.2 a b ha hb
end L2
namespace L2
open PySem PySem.Spec PyProof.Rows
theorem tb_list (T : List (List Rat)) : tbD T = .list (T.map rowD) := rfl
theorem row_list (r : List Rat) : rowD r = .list (r.map frD) := rfl
theorem comp_copy {caps : List Nat} {T : List (List Rat)} {δ : DEnv} {K : OT → DEnv → Prop} {cs : DEnv} (hz : T.length ≤ sizeLine) (hb : blk 1 caps δ = none :: cs) (h : K (tbT T) δ) :
    mCompB 1 caps (T.map rowD) (dName 0) mTrue (mBl dList (mCons (mVar 0) mNil)) δ K := by
  refine comp_map (cs := cs) (fun i => rowT (T.getD i [])) (by simpa using hz) hb (fun i d z hd => ?_) ?_
  · rw [List.getElem?_map] at hd
    cases e : T[i]? with
    | none => rw [e] at hd; cases hd
    | some r =>
      rw [e] at hd
      cases hd
      have er : T.getD i [] = r := by rw [List.getD_eq_getElem?_getD, e]; rfl
      refine Cmp.of ?_
      show OT.nd ((r.map frD).map OT.fz) = rowT (T.getD i [])
      rw [er, List.map_map]; rfl
  · have e : OT.nd ((List.range (T.map rowD).length).map fun i => rowT (T.getD i [])) = tbT T := by
      unfold tbT
      congr 1
      apply List.ext_getElem?
      intro i
      rw [List.getElem?_map, List.getElem?_map]
      by_cases hi : i < T.length
      · rw [List.getElem?_range (by simpa using hi), List.getElem?_eq_getElem hi]
        simp only [Option.map_some, List.getD_eq_getElem?_getD, List.getElem?_eq_getElem hi, Option.getD_some]
      · rw [List.getElem?_eq_none_iff.mpr (by simp; omega), List.getElem?_eq_none_iff.mpr (by omega)]; rfl
    rw [e]
    exact h
end L2
namespace L2
open PySem PySem.Spec PyProof.Rows
theorem flat_tb (T : List (List Rat)) : flatT (tbT T) = true := by
  unfold tbT
  rw [flatT, flatTs_iff]
  intro t ht
  obtain ⟨r, _, rfl⟩ := List.mem_map.mp ht
  unfold rowT
  rw [flatT, flatTs_iff]
  intro t ht
  obtain ⟨q, _, rfl⟩ := List.mem_map.mp ht
  rw [flatT]
  exact flat_fr q
theorem plain_frs : ∀ (r : List Rat), plainDs (r.map frD) = true
  | [] => rfl
  | q :: r => by
    show plainDs (frD q :: r.map frD) = true
    rw [plainDs, plain_frs r]; rfl
theorem plain_tbs : ∀ (T : List (List Rat)), plainDs (T.map rowD) = true
  | [] => rfl
  | r :: T => by
    show plainDs (rowD r :: T.map rowD) = true
    rw [plainDs, plain_tbs T, Bool.and_true]
    unfold rowD
    rw [plainD]
    exact plain_frs r
theorem plain_tb (T : List (List Rat)) : plainD (tbD T) = true := by
  unfold tbD
  rw [plainD]
  exact plain_tbs T
theorem eqv_self {d : PyData} (h : plainD d = true) : PyData.eqv d d = true := eqv_eq h h rfl
end L2
namespace L2
open PySem PySem.Spec PyProof.Rows
structure Sh (n : Nat) (d : PyData) : Prop where
  lay : PyData.canLay0 d = true
  dep : PyData.depth d ≤ n
theorem Sh.shp {n : Nat} {d : PyData} (h : Sh n d) (hn : n ≤ 64 := by decide) : ShpD d := ⟨by
  show (PyData.canLay0 d && decide (PyData.depth d ≤ 64)) = true
  rw [h.lay, decide_eq_true (Nat.le_trans h.dep hn)]; rfl⟩
theorem Sh.mono {m n : Nat} {d : PyData} (h : Sh m d) (k : m ≤ n) : Sh n d := ⟨h.lay, Nat.le_trans h.dep k⟩
theorem sh_all {n : Nat} : ∀ {ds : List PyData}, (∀ d ∈ ds, Sh n d) → PyData.canLayAll0 ds = true ∧ PyData.depthAll ds ≤ n
  | [], _ => ⟨by rw [PyData.canLayAll0], by rw [PyData.depthAll]; exact Nat.zero_le _⟩
  | d :: ds, h => by
    obtain ⟨h1, h2⟩ := sh_all fun e m => h e (.tail _ m)
    have h3 := h d (.head _)
    refine ⟨by rw [PyData.canLayAll0, h3.lay, h1]; rfl, ?_⟩
    rw [PyData.depthAll]
    exact Nat.max_le.mpr ⟨h3.dep, h2⟩
theorem sh_list {n : Nat} {ds : List PyData} (h : ∀ d ∈ ds, Sh n d) : Sh (n + 1) (.list ds) :=
  ⟨by rw [PyData.canLay0]; exact (sh_all h).1, by rw [PyData.depth]; exact Nat.succ_le_succ (sh_all h).2⟩
theorem sh_tup {n : Nat} {ds : List PyData} (h : ∀ d ∈ ds, Sh n d) : Sh (n + 1) (.tuple ds) :=
  ⟨by rw [PyData.canLay0]; exact (sh_all h).1, by rw [PyData.depth]; exact Nat.succ_le_succ (sh_all h).2⟩
theorem sh_int (i : Int) : Sh 0 (.int i) := ⟨rfl, Nat.le_of_eq rfl⟩
theorem sh_fr (q : Rat) : Sh 1 (frD q) := sh_tup fun d m => by
  simp at m
  rcases m with rfl | rfl <;> exact sh_int _
theorem sh_row (r : List Rat) : Sh 2 (rowD r) := sh_list fun d m => by
  obtain ⟨q, _, rfl⟩ := List.mem_map.mp m
  exact sh_fr q
theorem sh_tb (T : List (List Rat)) : Sh 3 (tbD T) := sh_list fun d m => by
  obtain ⟨q, _, rfl⟩ := List.mem_map.mp m
  exact sh_row q
theorem shp_tb (T : List (List Rat)) : ShpD (tbD T) := (sh_tb T).shp
theorem eqv_tb (T : List (List Rat)) : PyData.eqv (tbD T) (tbD T) = true := eqv_self (plain_tb T)
end L2

set_option Elab.async false
set_option linter.all false
set_option maxRecDepth 100000
set_option maxHeartbeats 4000000
namespace L2
open PySem PySem.Spec PyProof.Rows
section
variable {X : Cx} {pins : List (Addr × Obj)} {σ : St} {H : Hp} {s : Shared}
end
end L2

set_option Elab.async false
set_option linter.all false
set_option maxRecDepth 100000
set_option maxHeartbeats 4000000
namespace L2
open PySem PySem.Spec PyProof.Rows
variable {G : PySem.W.Frag}
section
variable {X : Cx} {io : List Nat} {p c : Bool} {e a b tg : Expr} {m : MEt} {mr : MAt}
noncomputable def zipD (as bs : List PyData) : List PyData := (as.zip bs).map fun x => .tuple [x.1, x.2]
@[simp] theorem zipD_length (as bs : List PyData) : (zipD as bs).length = min as.length bs.length := by simp [zipD]
noncomputable def iZ (mr : MAt) : MIt := fun δ K => mr δ fun rs δ' => match OT.datas rs with | [.list as, .list bs] => K (zipD as bs) δ' | _ => False
end
end L2

set_option Elab.async false
set_option linter.all false
set_option maxRecDepth 100000
set_option maxHeartbeats 4000000
namespace L2
open PySem PySem.Spec PyProof.Rows
variable {G : PySem.W.Frag}
section
variable {X : Cx} {io : List Nat} {c1 c2 c3 : Bool} {a b e : Expr} {ma mb mc : MEt} {pos : Pos} {f g : Int → Int → Bool}
noncomputable def mChain (f g : Int → Int → Bool) (ma mb mc : MEt) : MEt := fun δ K => ma δ fun x δ1 => mb δ1 fun y δ2 => asI x.data fun i => asI y.data fun j => if f i j = true then mc δ2 fun z δ3 => asI z.data fun k => K (.fz (.bool (g j k))) δ3 else K (.fz (.bool false)) δ2
theorem sChain {ta tb tc : TE} (ha : SE G io true c1 ta ma) (hb : SE G io true c2 tb mb) (hc : SE G io true c3 tc mc) : SE G io true true (tChain (rI0 fun i j => .bl (f i j)) (rI0 fun i j => .bl (g i j)) ta tb tc) (mChain f g ma mb mc) := by
  intro C H σ δ fp ex K Q R h k
  refine ha.pureAfter R h fun H1 x u R1 s1 q1 h1 => ?_
  refine hb.pureAfter R1 h1 fun H2 y v R2 s2 q2 h2 => ?_
  obtain ⟨i, rfl, h2⟩ := q1.intInv h2
  obtain ⟨j, rfl, h2⟩ := q2.intInv h2
  refine ⟨i, j, rfl, rfl, f i j, rfl, ?_⟩
  by_cases hf : f i j = true
  · rw [if_pos hf] at h2 ⊢
    refine hc.pureAfter R2 h2 fun H3 z w R3 s3 q3 h3 => ?_
    obtain ⟨l, rfl, h3⟩ := q3.intInv h3
    have s13 : Same H H3 := (s1.trans s2).trans s3
    exact ⟨j, l, rfl, rfl, k H3 _ _ δ fp [] (.fz R3 (.same s13 s13.al) (.bl _)) h3⟩
  · rw [if_neg hf] at h2 ⊢
    have s12 : Same H H2 := s1.trans s2
    exact k H2 _ _ δ fp [] (.fz R2 (.same s12 s12.al) (.bl _)) h2
theorem m_chain {op op' : CmpOp} (ho : OpR X (compareOp op) (rI0 fun i j => .bl (f i j))) (ho' : OpR X (compareOp op') (rI0 fun i j => .bl (g i j))) (ha : ME X io true c1 a ma) (hb : ME X io true c2 b mb) (hc : ME X io true c3 e mc)
    (hm : lastMarks [op, op'] [b, e] = false := by with_unfolding_all rfl) : ME X io true true (.Compare a [op, op'] [b, e] pos) (mChain f g ma mb mc) :=
  let ⟨_, A, sa⟩ := ha
  let ⟨_, B, sb⟩ := hb
  let ⟨_, D, sc⟩ := hc
  ⟨_, pe_chain ho ho' A B D hm, sChain sa sb sc⟩
end
noncomputable def dSum : List PyData → (PyData → Prop) → Prop := fun ds k => n1 (fun d => ∃ ns : List Int, d = .list (ns.map PyData.int) ∧ k (.int ns.sum)) ds
section
variable {X : Cx} {io : List Nat} {p c : Bool} {a b e : Expr} {ma mb m : MEt} {pos pl : Pos}
noncomputable def mRep (m mb : MEt) : MEt := fun δ K => m δ fun r δ1 => mb δ1 fun n _ => asI n.data fun k => (-(2 ^ 63) ≤ k ∧ k < 2 ^ 63 ∧ k.toNat ≤ sizeLine) ∧ K (.nd (List.replicate k.toNat (.fz r.data))) δ1
end
end L2

set_option Elab.async false
set_option linter.all false
set_option maxRecDepth 100000
set_option maxHeartbeats 4000000
namespace L2
open PySem PySem.Spec PyProof.Rows
variable {G : PySem.W.Frag}
section
variable {X : Cx}
noncomputable def rRange1 : List V → Hp → VK → Prop := fun vs H Q => ∃ j : Int, vs = [.int j] ∧ ∀ r, H r = none → Q (.ref r) (upd H r (.rng 0 j))
theorem call_rng1 : CallR X (.type "range") rRange1 := by
  intro pins s σ H vs us Q I r h
  obtain ⟨j, rfl, q⟩ := h
  obtain ⟨u, rfl, t, rfl⟩ := vals1 r
  refine call_range_1 ?_
  exact ⟨.ref s.heap.objs.size, _, I.laid (o := .rng 0 j) (fun b o e => Heap.get?_push_of_some _ e) (Nat.le_refl _) ⟨_, _, _, Heap.get?_push_size _ rfl⟩, rfl, q _ I.fresh⟩
noncomputable def rngV (lo : Int) (n : Nat) : List V := (List.range n).map fun (i : Nat) => V.int (lo + (i : Int))
noncomputable def rListRng : List V → Hp → VK → Prop := fun vs H Q => ∃ r lo hi, vs = [.ref r] ∧ H r = some (.rng lo hi) ∧ (-(2 ^ 62) ≤ lo ∧ lo < 2 ^ 62 ∧ -(2 ^ 62) ≤ hi ∧ hi < 2 ^ 62) ∧ (hi - lo).toNat ≤ sizeLine ∧ ∀ l, H l = none → Q (.ref l) (upd H l (.lst (rngV lo (hi - lo).toNat)))
theorem rngV_succ (lo : Int) (n : Nat) : rngV lo (n + 1) = .int lo :: rngV (lo + 1) n := by
  unfold rngV
  rw [List.range_succ_eq_map, List.map_cons, List.map_map]
  congr 1
  · simp
  · refine List.map_congr_left fun i _ => ?_
    show V.int (lo + ((i + 1 : Nat) : Int)) = V.int (lo + 1 + (i : Int))
    congr 1
    omega
theorem vals_rng : ∀ (acc : List Value) (lo : Int), (∀ (i : Nat) (v : Value), acc[i]? = some v → ∃ t, v = Value.int (lo + i) t) → Vals (rngV lo acc.length) acc
  | [], _, _ => .nil
  | v :: acc, lo, h => by
    rw [List.length_cons, rngV_succ]
    obtain ⟨t, e⟩ := h 0 v rfl
    refine .cons ⟨t, by rw [e]; simp⟩ (vals_rng acc (lo + 1) fun i w hw => ?_)
    obtain ⟨t', e'⟩ := h (i + 1) w (by simpa using hw)
    refine ⟨t', ?_⟩
    rw [e']
    congr 1
    omega
theorem call_list_rng (hc : X.calm = true) : CallR X (.type "list") rListRng := by
  intro pins s σ H vs us Q I r h
  obtain ⟨a, lo, hi, rfl, e, hb, hz, q⟩ := h
  obtain ⟨u, rfl, ru⟩ := vals1 r
  cases (show u = Value.ref a from ru)
  obtain ⟨t, u', v, e1⟩ := (show ObjOk X.prog X.w H s.heap a (.rng lo hi) from I.hok a _ e)
  refine call_list_range (n := (hi - lo).toNat) (I.ok.hd hc) e1 ?_ ?_ hz fun h' tk acc c' hk hS hacc => ?_
  · exact small_one hb.1 hb.2.1 hb.2.2.1 hb.2.2.2
  · rw [rangeSize_one]; split <;> omega
  · refine ⟨.ref s.heap.objs.size, _, I.laid (o := .lst (rngV lo (hi - lo).toNat)) (t' := tk) hk (Nat.le_refl _) ⟨?_, acc.toList, c', ?_, by simpa using hS⟩, rfl, q _ I.fresh⟩
    · simp [rngV]; omega
    · have := vals_rng acc.toList lo fun i v hv => by
        obtain ⟨t, e⟩ := hacc.2 i v (by simpa using hv)
        exact ⟨t, by rw [e, Int.mul_one]⟩
      rwa [show acc.toList.length = (hi - lo).toNat by simpa using hacc.1] at this
end
end L2

set_option Elab.async false
set_option linter.all false
set_option maxRecDepth 100000
set_option maxHeartbeats 4000000
namespace L2
open PySem PySem.Spec PyProof.Rows PySem.SeqAt
variable {G : PySem.W.Frag}
theorem rngD_succ (lo : Int) (n : Nat) : rngD lo (n + 1) = .int lo :: rngD (lo + 1) n := by
  unfold rngD
  rw [List.range_succ_eq_map, List.map_cons, List.map_map]
  congr 1
  · simp
  · refine List.map_congr_left fun i _ => ?_
    show PyData.int (lo + ((i + 1 : Nat) : Int)) = PyData.int (lo + 1 + (i : Int))
    congr 1
    omega
theorem Das.rng {H : Hp} {L : Addr → Prop} : ∀ (n : Nat) (lo : Int), Das G H L (rngV lo n) (rngD lo n)
  | 0, _ => .nil
  | n + 1, lo => by
    rw [rngV_succ, rngD_succ]
    exact .cons (.int _) (Das.rng n _)
section
variable {X : Cx} {io : List Nat} {p c : Bool} {a b e : Expr} {ma mb m : MEt} {mr : MAt} {pos pos' pl pr : Pos}
noncomputable def mLR1 (mr : MAt) : MEt := fun δ K => mr δ fun rs δ' => n1 (fun d => asI d fun j => (-(2 ^ 62) ≤ j ∧ j < 2 ^ 62 ∧ j.toNat ≤ sizeLine) ∧ K (.nd ((rngD 0 j.toNat).map OT.fz)) δ') (OT.datas rs)
noncomputable def mLR2 (mr : MAt) : MEt := fun δ K => mr δ fun rs δ' => n2 (fun d d' => asI d fun i => asI d' fun j => (-(2 ^ 62) ≤ i ∧ i < 2 ^ 62 ∧ -(2 ^ 62) ≤ j ∧ j < 2 ^ 62 ∧ (j - i).toNat ≤ sizeLine) ∧ K (.nd ((rngD i (j - i).toNat).map OT.fz)) δ') (OT.datas rs)
theorem lr_fin {C : MC G} {H H1 : Hp} {σ : St} {δ δ1 : DEnv} {fp fp1 : Fp} {ex : Addr → Prop} {r l : Addr} {lo hi : Int} {n : Nat} (R : Rel C io H σ δ fp ex) (R1 : Rel C io H1 σ δ1 fp1 ex) (S : Stp p H δ fp H1 δ1 fp1) (hr : H1 r = none)
    (hl : upd H1 r (.rng lo hi) l = none) : RE C io p true H σ δ fp ex (upd (upd H1 r (.rng lo hi)) l (.lst (rngV lo n))) (.ref l) (.nd ((rngD lo n).map OT.fz)) δ1 fp1 [l] := by
  have s1 := same_new hr (.rng lo hi)
  have S' : Stp p H δ fp (upd H1 r (.rng lo hi)) δ1 fp1 := by
    have := S.trans (p' := true) (Stp.same (p := true) (δ := δ1) (fp := fp1) s1 s1.al)
    rwa [Bool.and_true] at this
  exact RE.tree R (R1.mk0 s1) S' (same_new hl _) (one_new hl) (one_nd l) (Own.list hl (Das.rng n lo))
theorem m_lrange1 (hc : X.calm = true) (hgl : Gl X "list") (hml : X.mg "list" = none) (hvl : bootBuiltins "list" = some (.type "list")) (hg : Gl X "range") (hm : X.mg "range" = none) (hv : bootBuiltins "range" = some (.type "range")) (ha : MA X io p c [a] mr)
    (he : starEach [a] X.env = (false, eval a X.env) :: starEach [] X.env := by rfl) (hpl : (backTo pos' (starEach [] X.env)).any (·.1) = false := by rfl)
    (he' : starEach [.Call (.Name "range" pr) [a] [] pos'] X.env = (false, eval (.Call (.Name "range" pr) [a] [] pos') X.env) :: starEach [] X.env := by rfl) (hpl' : (backTo pos (starEach [] X.env)).any (·.1) = false := by rfl) :
    ME X io p true (.Call (.Name "list" pl) [.Call (.Name "range" pr) [a] [] pos'] [] pos) (mLR1 mr) := by
  obtain ⟨_, A, s⟩ := ha
  refine ⟨_, pe_callTy (call_list_rng hc) hgl hml hvl (pa_cons (pe_callTy call_rng1 hg hm hv A (he := he) (hpl := hpl)) pa_nil he') (he := he') (hpl := hpl'), fun C H σ δ fp ex K Q R h kk => s C H σ δ fp ex _ _ R h fun H1 vs rs δ1 fp1 new r1 h1 => ?_⟩
  obtain ⟨v, d, rfl, e2, q, h2⟩ := (r1.das R).one h1
  obtain ⟨j, rfl, h2⟩ := q.intInv h2
  refine ⟨j, rfl, fun r hr => ⟨r, 0, j, rfl, upd_same, ⟨by decide, by decide, h2.1.1, h2.1.2.1⟩, by rw [Int.sub_zero]; exact h2.1.2.2, fun l hl => ?_⟩⟩
  rw [Int.sub_zero]
  exact kk _ _ _ δ1 fp1 [l] (lr_fin R r1.base r1.stp hr hl) h2.2
end
noncomputable def dedN (ns : List Int) : Nat := (ns.foldl step_dedup []).length
theorem ded_nodup : ∀ (ns acc : List Int), (acc ++ ns).Nodup → ns.foldl step_dedup acc = acc ++ ns
  | [], acc, _ => by simp
  | n :: ns, acc, h => by
    have hn : n ∉ acc := fun m => (List.nodup_append.mp h).2.2 n m n (.head _) rfl
    have : step_dedup acc n = acc ++ [n] := by
      unfold step_dedup
      rw [if_neg]
      intro z
      obtain ⟨x, hx, e⟩ := List.any_eq_true.mp z
      have := eq_of_beq e
      subst this
      exact hn hx
    rw [List.foldl_cons, this, ded_nodup ns (acc ++ [n]) (by rwa [List.append_assoc])]
    simp
theorem dedN_nodup {ns : List Int} (h : ns.Nodup) : dedN ns = ns.length := by
  unfold dedN
  rw [ded_nodup ns [] (by simpa using h)]
  simp
theorem map_getD {ns : List Int} : (List.range ns.length).map (fun i => ns.getD i 0) = ns := by
  refine List.ext_getElem? fun i => ?_
  rw [List.getElem?_map]
  by_cases h : i < ns.length
  · rw [List.getElem?_range h, Option.map_some, List.getD_eq_getElem?_getD, List.getElem?_eq_getElem h, Option.getD_some]
  · rw [List.getElem?_eq_none (by simpa using h), List.getElem?_eq_none (by simpa using h)]; rfl
theorem ints_are : ∀ {ns : List Int} {its : List Value}, Vals (ns.map V.int) its → IntsAre its ns
  | [], _, .nil => .nil
  | n :: ns, _, .cons r rs => by
    obtain ⟨t, e⟩ := (show ∃ t, _ = Value.int n t from r)
    rw [e]
    exact .cons n t (ints_are rs)
section
variable {X : Cx} {io : List Nat} {p c : Bool} {a b e : Expr} {ma mb m : MEt} {mr : MAt} {pos pos' pl pr : Pos}
noncomputable def rSetI (K : PySem.W.Frag) : List V → Hp → VK → Prop := fun xs H Q => ∃ (a : Addr) (ns : List Int), xs = [.ref a] ∧ SqL K H a (ns.map V.int) ∧ ns.length + 1 < scanBound ∧ ∀ (l : Addr) (S : Int → Bool), H l = none → Q (.ref l) (upd H l (.set S (dedN ns)))
theorem call_setL {K : PySem.W.Frag} (hK : X.K = K) (hc : X.calm = true) : CallR X (.type "set") (rSetI K) := by
  subst hK
  intro pins s σ H xs us Q I r h
  obtain ⟨a, ns, rfl, hs, hb, q⟩ := h
  obtain ⟨u, rfl, ru⟩ := vals1 r
  cases (show u = Value.ref a from ru)
  obtain ⟨its, rv, pl, hz⟩ := I.list hs
  have hi := ints_are rv
  have hl := hi.length
  refine call_set_list (items := its.toArray) (ns := ns) (I.ok.hd hc) pl.isList (by simpa using hi) (by simp; omega) fun h' tk hS hk => ?_
  have hfm : (firstMet (fun i => ns.getD i 0) its.toArray.size).length = dedN ns := by
    unfold firstMet dedN
    rw [show its.toArray.size = ns.length by simp [hl], map_getD]
  refine ⟨.ref s.heap.objs.size, _, I.laid (o := .set (fun k' => (firstMet (fun i => ns.getD i 0) its.toArray.size).any fun x => x == k') (dedN ns)) (t' := tk) (fun b o e => hk b o (Heap.lt_size e) e) (Nat.le_refl _) ?_, rfl, q _ _ I.fresh⟩
  · rw [← hfm]; exact hS
noncomputable def rLenSet : List V → Hp → VK → Prop := fun xs H Q => ∃ (a : Addr) (S : Int → Bool) (n : Nat), xs = [.ref a] ∧ H a = some (.set S n) ∧ Q (.int n) H
theorem call_lenSet : CallR X (.builtin "len") rLenSet := by
  intro pins s σ H xs us Q I r h
  obtain ⟨a, S, n, rfl, e, q⟩ := h
  obtain ⟨u, rfl, ru⟩ := vals1 r
  cases (show u = Value.ref a from ru)
  obtain ⟨o, es, ep, t, ho, hx, hd, _, _, hz, hf, hn⟩ := (show ObjOk X.prog X.w H s.heap a (.set S n) from I.hok a _ e)
  subst hn
  have : es.size < 4096 := hz
  exact call_len_set ho hx hd hf (by omega) ⟨.int es.size, H, I.kept (h' := s.heap) (fun b o e => e), ⟨_, rfl⟩, q⟩
noncomputable def mLenSet (mr : MAt) : MEt := fun δ K => mr δ fun rs δ' => n1 (fun d => ∃ ns : List Int, d = .list (ns.map PyData.int) ∧ ns.length < 4095 ∧ K (.fz (.int (dedN ns))) δ') (OT.datas rs)
theorem m_lenset (hc : X.calm = true) (hgl : Gl X "len") (hml : X.mg "len" = none) (hvl : bootBuiltins "len" = some (.builtin "len")) (hg : Gl X "set") (hm : X.mg "set" = none) (hv : bootBuiltins "set" = some (.type "set")) (ha : MA X io p c [a] mr)
    (he : starEach [a] X.env = (false, eval a X.env) :: starEach [] X.env := by rfl) (hpl : (backTo pos' (starEach [] X.env)).any (·.1) = false := by rfl)
    (he' : starEach [.Call (.Name "set" pr) [a] [] pos'] X.env = (false, eval (.Call (.Name "set" pr) [a] [] pos') X.env) :: starEach [] X.env := by rfl) (hpl' : (backTo pos (starEach [] X.env)).any (·.1) = false := by rfl) :
    ME X io p true (.Call (.Name "len" pl) [.Call (.Name "set" pr) [a] [] pos'] [] pos) (mLenSet mr) := by
  obtain ⟨_, A, s⟩ := ha
  refine ⟨_, pe_callB call_lenSet hgl hml hvl (pa_cons (pe_callTy (call_setL rfl hc) hg hm hv A (he := he) (hpl := hpl)) pa_nil he') (he := he') (hpl := hpl'), fun C H σ δ fp ex K Q R h kk => s C H σ δ fp ex _ _ R h fun H1 vs rs δ1 fp1 new r1 h1 => ?_⟩
  obtain ⟨v, d, rfl, e2, q, ns, e, hb, h2⟩ := (r1.das R).one h1
  subst e
  obtain ⟨a, rfl, hs⟩ := q.ints_sq
  refine ⟨a, ns, rfl, hs, by show _ < 4096; omega, fun l S hl => ⟨l, S, _, rfl, upd_same, ?_⟩⟩
  have s1 := same_new hl (.set S (dedN ns))
  have S' : Stp p H δ fp (upd H1 l (.set S (dedN ns))) δ1 fp1 := by
    have := r1.stp.trans (p' := true) (Stp.same (p := true) (δ := δ1) (fp := fp1) s1 s1.al)
    rwa [Bool.and_true] at this
  exact kk _ _ _ δ1 fp1 [] (.fz (r1.base.mk0 s1) S' (.int _)) h2
noncomputable def mIndex (m mb : MEt) : MEt := fun δ K => m δ fun r δ1 => ∃ ns : List Int, r.data = .list (ns.map PyData.int) ∧ ns.length ≤ 2 ^ 20 ∧ mb δ1 fun n δ2 => asI n.data fun k => k ∈ ns ∧ K (.fz (.int (ns.idxOf k : Nat))) δ2
noncomputable def mPop (i : Nat) (m : MEt) : MEt := fun δ K => match δ[i]? with
  | some (some (.nd _)) => m δ fun n δ1 => match δ1[i]? with
    | some (some (.nd ts)) => asI n.data fun j => match ixN ts.length j with
      | some k => match ts[k]? with
        | some (.fz d) => ts.length ≤ sizeLine ∧ K (.fz d) (δ1.set i (some (.nd (ts.eraseIdx k))))
        | _ => False
      | none => False
    | _ => False
  | _ => False
theorem Owns.erase {H : Hp} {L : Addr → Prop} : ∀ {xs : List V} {ts : List OT} {as : List Addr} {k : Nat} {d : PyData}, Owns G H L xs ts as → ts[k]? = Option.some (.fz d) → Owns G H L (xs.eraseIdx k) (ts.eraseIdx k) as
  | _, _, _, _, _, .nil, e => by simp at e
  | _, _, _, 0, d, .cons q r, e => by
    simp at e
    subst e
    cases q
    exact r
  | _, _, _, k + 1, d, .cons q r, e => .cons q (Owns.erase (k := k) r (by simpa using e))
theorem m_pop {x : Str} {px : Pos} {apos cpos : Pos} (i : Nat) (he : ME X io p c e m) (hN : X.N[i]? = some x := by rfl) (hv : Vis X.env.scope x := by first | exact Or.inl rfl | exact Or.inr (Or.inl rfl) | exact Or.inr (Or.inr rfl)) (hd : (x == ("__debug__" : Str)) = false := by decide)
    (hcd : (x == ("__classdict__" : Str)) = false := by decide)
    (hbase : attributeBase (.Name x px) "pop" X.env (eval (.Name x px) X.env) = eval (.Name x px) X.env := by rfl)
    (hfew : ((backTo cpos (starEach [e] X.env)).all (fun x => !x.1) && (backToKw cpos (keywordEach [] X.env)).all (fun x => x.1.isSome)
      && decide ([e].length + ([] : List Keyword).length + (if ([] : List Keyword).isEmpty then 0 else 1) < 30)) = true := by rfl)
    (hline : (apos.endLine == cpos.line) = true := by rfl) (hs : starEach [e] X.env = (false, eval e X.env) :: starEach [] X.env := by rfl) (hplain : (backTo cpos (starEach [] X.env)).any (·.1) = false := by rfl) :
    ME X io false true (.Call (.Attribute (.Name x px) "pop" apos) [e] [] cpos) (mPop i m) := by
  obtain ⟨_, A, s⟩ := he
  refine ⟨_, pe_bm PySem.F.plainAttrs_list PySem.F.slot_list_pop PySem.F.type_list_pop mt_popAt (pv i hN hv hd hcd) (pa_cons A pa_nil hs) hbase hfew hline hs hplain, fun C H σ δ fp ex K Q R h kk => ?_⟩
  unfold mPop at h
  split at h
  case h_2 => exact h.elim
  rename_i ts0 hi0
  obtain ⟨a', xs0, bs0, hv0, hx0, _, _⟩ := R.ownNd hi0
  refine ⟨_, hv0, .inl ⟨rfl, xs0, .inl (.inl hx0)⟩, ?_⟩
  refine s C H σ δ fp ex _ _ R h fun H1 v r δ1 fp1 new r1 h1 => ?_
  split at h1
  case h_2 => exact h1.elim
  rename_i ts1 hi1
  obtain ⟨j, rfl, h1⟩ := (r1.da R).intInv h1
  split at h1
  case h_2 => exact h1.elim
  rename_i k hk
  split at h1
  case h_2 => exact h1.elim
  rename_i d hd1
  have R1 := r1.base
  obtain ⟨a1, xs1, bs1, hv1, hx1, o1, hf1⟩ := R1.ownNd hi1
  rw [hv0] at hv1
  cases hv1
  obtain ⟨y, cs, hy, oy, _⟩ := o1.get hd1
  have qy : Da X.K H1 (Lf C fp1 ex) y d := by cases oy; assumption
  obtain ⟨z1, z2, z3, z4⟩ := ixN_seq hk
  have hz := h1.1
  have hsz : sizeLine = 16777216 := sizeLine_eq
  refine ⟨a', xs1, j, k, y, rfl, rfl, hx1, by omega, by omega, by rw [o1.length]; exact z1, hy, ?_⟩
  obtain ⟨R2, S2⟩ := R1.top hi1 hv0 hf1 hx1 (o1.erase hd1) (List.Sublist.refl _)
  have S := (r1.stp.trans S2).cast (p' := false) fun z => nomatch z
  refine kk _ _ _ _ _ [] (.fz R2 S ?_) h1.2
  have ne' : ∀ a, ¬ Foot fp1 a → a ≠ a' := fun a h z => h ⟨i, by rw [z, hf1]; exact .head _⟩
  have f0 : ∀ a, ¬ Foot fp1 a → ¬ Foot (fpu fp1 i (a' :: bs1)) a := fun a h z => by
    rcases z.of_u with z | ⟨j, _, z⟩
    · exact h ⟨i, by rw [hf1]; exact z⟩
    · exact h ⟨j, z⟩
  refine qy.frame (fun a zs l q => ⟨fun _ => ⟨f0 a l.1, l.2.1, l.2.2⟩, ?_⟩) fun a zs q => ?_
  · rcases q with q | ⟨u, q⟩
    · exact .inl (by rw [upd_ne (ne' a l.1)]; exact q)
    · exact .inr ⟨u, by rw [upd_ne (ne' a l.1)]; exact q⟩
  · rw [upd_ne]
    · exact q
    · intro z
      exact ImO.nl q (z ▸ hx1)
end
end L2

set_option Elab.async false
set_option linter.all false
set_option maxRecDepth 100000
set_option maxHeartbeats 4000000
namespace L2
open PySem PySem.Spec PyProof.Rows
noncomputable def Cmp2 (f : Nat → OT) (cs : DEnv) (i : Nat) : OT → DEnv → Prop := fun r δ => (List.range i).map f ++ [r] = (List.range (i + 1)).map f ∧ ∃ z z', δ = z :: z' :: cs
theorem Cmp2.of {f : Nat → OT} {cs : DEnv} {i : Nat} {r : OT} {z z' : Option OT} (h : r = f i) : Cmp2 f cs i r (z :: z' :: cs) := ⟨by rw [h, List.range_succ, List.map_append]; rfl, z, z', rfl⟩
section
variable {X : Cx} {io : List Nat} {p p' c : Bool} {a b e : Expr} {ma mb m : MEt} {pos p2 : Pos}
end
end L2

set_option Elab.async false
set_option linter.all false
set_option maxRecDepth 100000
set_option maxHeartbeats 4000000
namespace L2
open PySem PySem.Spec PyProof.Rows
theorem ObjOk.is {P : Program} {w : World} {H : Hp} {h : Heap} {a : Addr} {o : HO} (x : ObjOk P w H h a o) : ∃ u, h.get? a = some u := by
  cases o with
  | lst xs => obtain ⟨_, _, _, _, e⟩ := x; exact ⟨_, e⟩
  | tup xs => obtain ⟨_, _, _, ob, e, _⟩ := x; exact ⟨_, e⟩
  | dK kvs => obtain ⟨_, _, _, _, o, _, _, e, _⟩ := x; exact ⟨_, e⟩
  | dT kvs => obtain ⟨_, _, _, _, o, _, _, e, _⟩ := x; exact ⟨_, e⟩
  | set S n => obtain ⟨o, _, _, _, e, _⟩ := x; exact ⟨_, e⟩
  | ins C dx fs => obtain ⟨_, _, _, e, _⟩ := x; exact ⟨_, e⟩
  | own y => obtain ⟨_, e⟩ := x; exact ⟨_, e⟩
  | xd fs => obtain ⟨_, ⟨_, _, _, e, _⟩, _⟩ := x; exact ⟨_, e⟩
  | rng lo hi => obtain ⟨_, _, _, e⟩ := x; exact ⟨_, e⟩
  | frz ob u => obtain ⟨e, _⟩ := x; exact ⟨_, e⟩
  | tbl ps => exact ⟨_, (show h.get? a = some _ from x)⟩
  | met f y => exact ⟨_, (show h.get? a = some _ from x)⟩
  | ext φ => obtain ⟨_, ⟨_, e⟩, _⟩ := x; exact ⟨_, e⟩
structure Apart (X : Cx) (pins : List (Addr × Obj)) (H : Hp) (b : Addr) : Prop where
  fr : H b = none
  new : X.s₀.heap.get? b = none
  loc : b ≠ X.env.locals
  cel : ∀ x c, X.env.cells.lookup x = some c → c ≠ b
  pin : ∀ p ∈ X.pn ++ pins, p.1 ≠ b
section
variable {X : Cx} {pins : List (Addr × Obj)} {σ : St} {H H' : Hp} {s : Shared} {h' : Heap} {b a C : Addr}
theorem Inv.apart (I : Inv X pins σ H s) (hex : X.ex = []) (hb : s.heap.get? b = none) (hH : H' b = none) : Apart X pins H' b := by
  have ne : ∀ c o, s.heap.get? c = some o → c ≠ b := fun c o e z => by rw [z, hb] at e; cases e
  refine ⟨hH, ?_, ?_, fun x c e => ?_, fun p hp => ?_⟩
  · cases q : X.s₀.heap.get? b with
    | none => rfl
    | some o =>
      obtain ⟨o', e⟩ := I.base.there b o q (by rw [hex]; simp)
      rw [hb] at e; cases e
  · obtain ⟨m, ⟨o, _, _, ho, _⟩, _⟩ := I.loc
    exact (ne _ _ ho).symm
  · obtain ⟨v, o, ho, _⟩ := I.cell x c e
    exact ne _ _ ho
  · exact ne _ _ (I.pin p hp).1
theorem Inv.unheld (I : Inv X pins σ H s) (hb : s.heap.get? b = none) : H b = none := by
  cases q : H b with
  | none => rfl
  | some u =>
    obtain ⟨o, e⟩ := (I.hok b u q).is
    rw [hb] at e; cases e
theorem Inv.nofrs (I : Inv X pins σ H s) (hb : b ≠ X.env.locals) (hf : b ∉ X.fs) : b ∉ frs X.stack := fun z => (List.mem_cons.mp (I.stkSub b z)).elim hb hf
theorem Inv.flown {t' : Nat} (I : Inv X pins σ H s) {ch : List Addr} (hch : ∀ b ∈ ch, Apart X pins H b) (keep : ∀ b o, b ∉ frs X.stack → b ∉ ch → s.heap.get? b = some o → h'.get? b = some o)
    (slot : ∀ b o, b ∈ frs X.stack → s.heap.get? b = some o → ∃ sl, h'.get? b = some { o with slots := sl }) : Inv X pins σ H { s with heap := h', toks := t' } := by
  have any : ∀ b o, b ∉ ch → s.heap.get? b = some o → ∃ sl, h'.get? b = some { o with slots := sl } := fun b o n e => by
    by_cases hb : b ∈ frs X.stack
    · exact slot b o hb e
    · exact ⟨o.slots, keep b o hb n e⟩
  have neL : ∀ b o, X.s₀.heap.get? b = some o → b ≠ X.env.locals := fun b o e => Nat.ne_of_lt (Nat.lt_of_lt_of_le (Heap.lt_size e) I.ok.above)
  have neC : ∀ b o, X.s₀.heap.get? b = some o → b ∉ ch := fun b o e hb => by
    have := (hch b hb).new
    rw [this] at e; cases e
  have cellK : ∀ x c, X.env.cells.lookup x = some c → ∀ v, s.heap.IsCell c v → h'.IsCell c v := fun x c e v ⟨o, ho, hd⟩ => by
    obtain ⟨sl, q⟩ := any c o (fun z => (hch c z).cel x c e rfl) ho
    exact ⟨_, q, hd⟩
  have nL : X.env.locals ∉ ch := fun z => (hch _ z).loc rfl
  refine ⟨I.ok, I.os, I.bare, ⟨fun b o e n hb hx => ?_, fun b o e n hb hx => ?_, I.base.free, fun b o e hx => ?_, I.base.tups, I.base.frzs, I.base.tbls⟩, ?_, fun x c e => ?_, I.free, I.freeC, fun p hp => ?_, fun b u e => ?_, I.len⟩
  · exact keep b o (I.nofrs (neL b o e) hb) (neC b o e) (I.base.keep b o e n hb hx)
  · obtain ⟨sl, e1⟩ := I.base.slot b o e n hb hx
    obtain ⟨sl', e2⟩ := any b _ (neC b o e) e1
    exact ⟨sl', e2⟩
  · obtain ⟨o', e1⟩ := I.base.there b o e hx
    obtain ⟨sl, e2⟩ := any b o' (neC b o e) e1
    exact ⟨_, e2⟩
  · obtain ⟨m, ⟨o, es, ep, ho, r⟩, hl⟩ := I.loc
    obtain ⟨sl, q⟩ := any _ o nL ho
    refine ⟨m, ⟨_, es, ep, q, r⟩, fun i x v e1 e2 e3 => ?_⟩
    obtain ⟨u, rv, l⟩ := hl i x v e1 e2 e3
    refine ⟨u, rv, ?_⟩
    rcases l with l | ⟨k, c, e, z⟩
    · exact .inl l
    · exact .inr ⟨k, c, e, cellK x c e _ z⟩
  · obtain ⟨v, z⟩ := I.cell x c e
    exact ⟨v, cellK x c e v z⟩
  · obtain ⟨e, n, ne, nf, d⟩ := I.pin p hp
    exact ⟨keep p.1 p.2 (I.nofrs ne nf) (fun z => (hch _ z).pin p hp rfl) e, n, ne, nf, d⟩
  · refine (I.hok b u e).stay (fun c v hc q => keep c v (fun z => ?_) (fun z => ?_) q) (fun _ q => q) fun _ _ q => q
    · have n := I.stkFree c z
      rcases hc with rfl | hc
      · rw [n] at e; cases e
      · rw [n] at hc; cases hc
    · have n := (hch c z).fr
      rcases hc with rfl | hc
      · rw [n] at e; cases e
      · rw [n] at hc; cases hc

noncomputable def Fl (ap : Addr → Prop) (C a : Addr) (fl : Value) (h : Heap) : Prop := ∃ a0 oe vs T oT ts, h.get? a = some oe ∧ (oe.cls = .ref C ∧ vs[0]? = some a0) ∧ oe.data = .fields vs ∧ vs[1]? = some (.ref T) ∧ T ≠ a ∧ h.get? T = some oT ∧ oT.data = .fields ts ∧ ts[3]? = some fl ∧ ap a ∧ ap T
noncomputable def Fl0 (ap : Addr → Prop) (C a : Addr) (h : Heap) : Prop := ∃ a0 oe vs, h.get? a = some oe ∧ (oe.cls = .ref C ∧ vs[0]? = some a0) ∧ oe.data = .fields vs ∧ vs[1]? = some .none ∧ ap a
noncomputable def FlA (ap : Addr → Prop) (C a : Addr) (h : Heap) : Prop := Fl ap C a .none h ∨ Fl0 ap C a h
theorem Fl.imp {ap ap' : Addr → Prop} {fl : Value} {h : Heap} (f : ∀ b, ap b → ap' b) (x : Fl ap C a fl h) : Fl ap' C a fl h :=
  let ⟨a0, oe, vs, T, oT, ts, h1, h2, h3, h4, h5, h6, h7, h8, h9, h10⟩ := x
  ⟨a0, oe, vs, T, oT, ts, h1, h2, h3, h4, h5, h6, h7, h8, f _ h9, f _ h10⟩
theorem Fl.exO {ap : Addr → Prop} {fl : Value} {h : Heap} (x : Fl ap C a fl h) : ExO C a h :=
  let ⟨a0, oe, vs, T, oT, ts, h1, h2, h3, _⟩ := x
  ⟨oe, vs, h1, h2.1, h3⟩

section
variable {M : Model} {A : Around} {E : Value → Shared → Prop} {Q : Unit → Shared → Prop} {ch : List Addr}
theorem Inv.hidFrames (I : Inv X pins σ H s) : s.heap.FunFrames (PySem.W.hideAll s.heap (frs X.stack ++ ch)) X.stack :=
  PySem.W.funFrames_hide I.stack fun env he b hb => List.mem_append_left _ (List.mem_filterMap.mpr ⟨env, he, hb⟩)
theorem Inv.flyTo (I : Inv X pins σ H s) (hch : ∀ b ∈ ch, Apart X pins H b) (k1 : (PySem.W.hideAll s.heap (frs X.stack ++ ch)).StaysIn h') (k4 : ∀ b o, s.heap.get? b = some o → (∀ vs, o.data ≠ .fields vs) → ∃ sl, h'.get? b = some { o with slots := sl }) :
    Inv X pins σ H { s with heap := h' } :=
  I.flown (t' := s.toks) hch (fun b o hf hc e => k1 b o (PySem.W.hideAll_get _ e fun z => (List.mem_append.mp z).elim hf hc)) fun b o hb e => by
    obtain ⟨_, o', ho', hd⟩ := I.stack.mem hb
    rw [e] at ho'; cases ho'
    exact k4 b o e hd
theorem Inv.flyT (I : Inv X pins σ H s) (hex : X.ex = []) (hch : ∀ b ∈ ch, Apart X pins H b) {T : Addr} {oT : Obj} {ts : Array Value} (k4 : ∀ b o, s.heap.get? b = some o → (∀ vs, o.data ≠ .fields vs) → ∃ sl, h'.get? b = some { o with slots := sl })
    (hT : (PySem.W.hideAll s.heap (frs X.stack ++ ch)).get? T = none) (h1 : h'.get? T = some oT) (h2 : oT.data = .fields ts) : Apart X pins H T := by
  by_cases hc : T ∈ ch
  · exact hch T hc
  by_cases hf : T ∈ frs X.stack
  · obtain ⟨_, o', ho', hd⟩ := I.stack.mem hf
    obtain ⟨sl, e⟩ := k4 T o' ho' hd
    rw [h1] at e
    cases e
    exact absurd h2 (hd ts)
  have hn : s.heap.get? T = none := by
    cases q : s.heap.get? T with
    | none => rfl
    | some o =>
      have := PySem.W.hideAll_get (frs X.stack ++ ch) q fun z => (List.mem_append.mp z).elim hf hc
      rw [hT] at this; cases this
  exact I.apart hex hn (I.unheld hn)

theorem fly_note (I : Inv X pins σ H s) (hex : X.ex = []) (hst : X.stack = X.env :: X.outer) (hf : X.env.frame = some X.env.locals) (hA : A.frames = some X.stack) (F : FlA (Apart X pins H) C a s.heap)
    (h : ∀ s', Inv X pins σ H s' → Fl (Apart X pins H) C a (rawInt X.env.locals) s'.heap → Q () s') : wpAny M A (noteFrame (.ref a) X.env) Q E s := by
  rcases F with F | F
  · obtain ⟨a0, oe, vs, T, oT, ts, eA, cA, dA, v1, nT, eT, dT, t3, pA, pT⟩ := F
    have hch : ∀ b ∈ [a, T], Apart X pins H b := fun b hb => by
      rcases List.mem_cons.mp hb with rfl | hb
      · exact pA
      · rw [List.mem_singleton.mp hb]; exact pT
    have hen : (PySem.W.hideAll s.heap (frs X.stack ++ [a, T])).get? a = none := PySem.W.hideAll_none _ (List.mem_append_right _ (.head _))
    have hTn : (PySem.W.hideAll s.heap (frs X.stack ++ [a, T])).get? T = none := PySem.W.hideAll_none _ (List.mem_append_right _ (.tail _ (.head _)))
    have fr := I.hidFrames (ch := [a, T])
    refine wpAny_noteFrame_onW (base := PySem.W.hideAll s.heap (frs X.stack ++ [a, T])) (outer := X.outer) (hA.trans (by rw [hst])) (hst ▸ fr) hf ⟨oe, vs, T, oT, ts, eA, cA, dA, v1, hTn, nT, eT, dT, t3⟩ (fun b o e => PySem.W.of_hideAll _ e) hen fun h' hN => ?_
    obtain ⟨k1, _, ⟨oe', vs', T', oT', ts', e1, e2, e3, e4, e5, e6, e7, e8, e9⟩, k4⟩ := hN
    exact h _ (I.flyTo hch k1 k4) ⟨a0, oe', vs', T', oT', ts', e1, e2, e3, e4, e6, e7, e8, e9, pA, I.flyT hex hch k4 e5 e7 e8⟩
  · obtain ⟨a0, oe, vs, eA, cA, dA, v1, pA⟩ := F
    have hch : ∀ b ∈ [a], Apart X pins H b := fun b hb => by rw [List.mem_singleton.mp hb]; exact pA
    have hen : (PySem.W.hideAll s.heap (frs X.stack ++ [a])).get? a = none := PySem.W.hideAll_none _ (List.mem_append_right _ (.head _))
    have fr := I.hidFrames (ch := [a])
    unfold noteFrame
    simp only [hf]
    refine wpAny_bind (wpAny_field eA dA v1 ?_)
    rw [if_neg (by decide)]
    refine wpAny_entryW (base := PySem.W.hideAll s.heap (frs X.stack ++ [a])) (outer := X.outer) (hA.trans (by rw [hst])) (hst ▸ fr) hf eA (fun b o e => PySem.W.of_hideAll _ e) hen dA (Array.getElem?_eq_some_iff.mp v1).1 cA.2 fun h' hN => ?_
    obtain ⟨k1, _, ⟨oe', vs', T', oT', ts', e1, e2, e3, e4, e5, e6, e7, e8, e9⟩, k4⟩ := hN
    exact h _ (I.flyTo hch k1 k4) ⟨a0, oe', vs', T', oT', ts', e1, ⟨e2.1.trans cA.1, e2.2⟩, e3, e4, e6, e7, e8, e9, pA, I.flyT hex hch k4 e5 e7 e8⟩
theorem fly_land (I : Inv X pins σ H s) (hex : X.ex = []) {fl : Value} (F : Fl (Apart X pins H) C a fl s.heap)
    (h : ∀ s', Inv X pins σ H s' → Fl (Apart X pins H) C a .none s'.heap → Q () s') : wpAny M A (setFlight (.ref a) none) Q E s := by
  obtain ⟨a0, oe, vs, T, oT, ts, eA, cA, dA, v1, nT, eT, dT, t3, pA, pT⟩ := F
  have hch : ∀ b ∈ [a, T], Apart X pins H b := fun b hb => by
    rcases List.mem_cons.mp hb with rfl | hb
    · exact pA
    · rw [List.mem_singleton.mp hb]; exact pT
  have hTn : (PySem.W.hideAll s.heap (frs X.stack ++ [a, T])).get? T = none := PySem.W.hideAll_none _ (List.mem_append_right _ (.tail _ (.head _)))
  refine wpAny_setFlight_noneW (base := PySem.W.hideAll s.heap (frs X.stack ++ [a, T])) (l := X.stack) (fun b o e => PySem.W.of_hideAll _ e) I.hidFrames ⟨oe, vs, T, oT, ts, eA, cA, dA, v1, hTn, nT, eT, dT, t3⟩ fun h' k1 _ k3 k4' => ?_
  have k4 : ∀ b o, s.heap.get? b = some o → (∀ vs, o.data ≠ .fields vs) → ∃ sl, h'.get? b = some { o with slots := sl } := fun b o e n => ⟨o.slots, k4' b o e n⟩
  obtain ⟨oe', vs', T', oT', ts', e1, e2, e3, e4, e5, e6, e7, e8, e9⟩ := k3
  exact h _ (I.flyTo hch k1 k4) ⟨a0, oe', vs', T', oT', ts', e1, e2, e3, e4, e6, e7, e8, e9, pA, I.flyT hex hch k4 e5 e7 e8⟩
theorem fly_leave (I : Inv X pins σ H s) (hex : X.ex = []) (hst : X.stack = X.env :: X.outer) (hf : X.env.frame = some X.env.locals) (hA : A.frames = some X.stack) (F : FlA (Apart X pins H) C a s.heap)
    (h : ∀ s', Inv X pins σ H s' → Fl (Apart X pins H) C a .none s'.heap → Q () s') : wpAny M A (leaving X.env (.ref a)) Q E s := by
  unfold leaving
  exact wpAny_bind (fly_note I hex hst hf hA F fun s1 I1 F1 => fly_land I1 hex F1 h)
end
end
end L2

set_option Elab.async false
set_option linter.all false
set_option maxRecDepth 100000
set_option maxHeartbeats 4000000
namespace L2
open PySem PySem.Spec PyProof.Rows
noncomputable def RsCls (K : PySem.W.Frag) (C : Addr) : Prop := PySem.W.excIn K C [.type "ValueError", .type "Exception", .type "BaseException", .type "object"] "ValueError.__new__" = true
theorem exc_obj {K : PySem.W.Frag} {h : Heap} {C : Addr} {bmB : List Value} {newId : String} (X : K.In h) (q : PySem.W.excIn K C bmB newId = true) :
    ∃ bm N nm qn bs hdct sn sub ab col dd k0 k1 k2 k3 k5 mN, h.get? C = some (excClassObj nm qn C N bs bm hdct sn sub ab col dd k0 k1 k2 k3 k5 newId) ∧ h.Ns N mN ∧ mN "__init__" = none ∧ OwnTail h bmB bm := by
  unfold PySem.W.excIn at q
  split at q
  case h_2 => cases q
  rename_i dd cd sl ho
  split at q
  case h_2 => cases q
  rename_i C' bm k0 k1 k2 k3 n k5 hm hs
  simp only [Bool.and_eq_true, beq_iff_eq, Bool.not_eq_true'] at q
  obtain ⟨⟨⟨⟨⟨rfl, rfl⟩, e1⟩, e2⟩, e3⟩, e4⟩ := q
  obtain ⟨nm, bs, mro, ns, qn, hd, sn, sub, ab, col, del⟩ := cd
  dsimp only at hm e1 e3 e4
  subst hm e1
  obtain ⟨l⟩ := sl
  have e5 : l = [k0, k1, k2, k3, some (.builtin n), k5] := hs
  subst e5
  exact ⟨bm, ns, nm, qn, bs, hd, sn, sub, ab, col, dd, k0, k1, k2, k3, k5, _, X _ _ ho, .of_isNs (PySem.W.isNs_of_in X e3), PySem.W.nsMap_none_of_in X e3 e4, PySem.W.tail_of_in X e2⟩

noncomputable abbrev MXt := DEnv → (Addr → DEnv → Prop) → Prop
noncomputable def XW (X : Cx) (C : MC X.K) (io : List Nat) (pins : List (Addr × Obj)) (ex : Addr → Prop) (H : Hp) (fp : Fp) (k : Addr → DEnv → Prop) (e : Value) (s' : Shared) : Prop :=
  ∃ a cl σ' H' δ' fp', e = .ref a ∧ Inv X pins σ' H' s' ∧ FlA (Apart X pins H') cl a s'.heap ∧ Rel C io H' σ' δ' fp' ex ∧ Kp H fp H' fp' ∧ k cl δ'
noncomputable def XE (X : Cx) (io : List Nat) (e : Expr) (m : MXt) : Prop := ∀ (C : MC X.K) (pins : List (Addr × Obj)) (s : Shared) (σ : St) (H : Hp) (δ : DEnv) (fp : Fp) (ex : Addr → Prop) (k : Addr → DEnv → Prop), Inv X pins σ H s → Rel C io H σ δ fp ex → m δ k →
  wpAny (model X.prog X.w) X.A (eval e X.env) (fun _ _ => False) (XW X C io pins ex H fp k) s
noncomputable def XS (X : Cx) (io : List Nat) (st : Stmt) (m : MXt) : Prop := ∀ (C : MC X.K) (pins : List (Addr × Obj)) (s : Shared) (σ : St) (H : Hp) (δ : DEnv) (fp : Fp) (ex : Addr → Prop) (k : Addr → DEnv → Prop), Inv X pins σ H s → Rel C io H σ δ fp ex → m δ k →
  wpAny (model X.prog X.w) X.A (exec st X.env) (fun _ _ => False) (XW X C io pins ex H fp k) s
noncomputable def XSs (X : Cx) (io : List Nat) (sts : List Stmt) (m : MXt) : Prop := ∀ (C : MC X.K) (pins : List (Addr × Obj)) (s : Shared) (σ : St) (H : Hp) (δ : DEnv) (fp : Fp) (ex : Addr → Prop) (k : Addr → DEnv → Prop), Inv X pins σ H s → Rel C io H σ δ fp ex → m δ k →
  wpAny (model X.prog X.w) X.A (execs sts X.env) (fun _ _ => False) (XW X C io pins ex H fp k) s
theorem XW.shift {X : Cx} {C : MC X.K} {io : List Nat} {pins : List (Addr × Obj)} {ex : Addr → Prop} {H H1 : Hp} {fp fp1 : Fp} {k : Addr → DEnv → Prop} {e : Value} {s : Shared} (q : Kp H fp H1 fp1) (h : XW X C io pins ex H1 fp1 k e s) : XW X C io pins ex H fp k e s :=
  let ⟨a, cl, σ', H', δ', fp', e, I, F, R, K, hk⟩ := h
  ⟨a, cl, σ', H', δ', fp', e, I, F, R, q.trans K, hk⟩
noncomputable def mxNever : MXt := fun _ _ => False
noncomputable def mxSeq (u : MSt) (w : MXt) : MXt := fun δ k => u { nx := fun δ' => w δ' k, rt := fun _ _ => False } δ
noncomputable def mxIf (t : MTt) (u w : MXt) : MXt := fun δ k => t δ fun b δ' => if b = true then u δ' k else w δ' k
noncomputable def mxRaise (cl : Addr) : MXt := fun δ k => k cl δ
section
variable {X : Cx} {io : List Nat} {p c : Bool} {e : Expr} {es : List Expr} {mr : MAt} {m : MXt} {pos : Pos} {st : Stmt} {sts a b : List Stmt} {u : MSt} {w v : MXt} {mt : MTt} {i : Nat} {x : Str}
theorem xss_never : XSs X io sts mxNever := fun _ _ _ _ _ _ _ _ _ _ _ h => h.elim
theorem xss_here (h : XS X io st w) : XSs X io (st :: sts) w := fun C pins s σ H δ fp ex k I R hm => wpAny_execs_cons (thn (h C pins s σ H δ fp ex k I R hm) fun _ _ z => z.elim)
theorem xs_if (ht : MT X io p e mt) (ha : XSs X io a w) (hb : XSs X io b v) (hx : X.xe = fun _ _ => False := by rfl) : XS X io (.If e a b pos) (mxIf mt w v) := by
  obtain ⟨t, A, sT⟩ := ht
  intro C pins s σ H δ fp ex k I R hm
  refine wpAny_If (wpAny_mono (A pins s σ H (fun r H1 => ∃ δ1 fp1, Rel C io H1 σ δ1 fp1 ex ∧ Kp H fp H1 fp1 ∧ if r = true then w δ1 k else v δ1 k) I
    (sT C H σ δ fp ex _ _ R hm fun H' r δ' fp' R' S' h' => ⟨δ', fp', R', S'.kp, h'⟩)) (fun r s1 q => ?_) fun e s1 q => by rw [hx] at q; exact q.elim)
  obtain ⟨H1, I1, δ1, fp1, R1, k1, h1⟩ := q
  cases r with
  | true => exact wpAny_mono (ha C pins s1 σ H1 δ1 fp1 ex k I1 R1 h1) (fun _ _ z => z) fun e s2 z => z.shift k1
  | false => exact wpAny_mono (hb C pins s1 σ H1 δ1 fp1 ex k I1 R1 h1) (fun _ _ z => z) fun e s2 z => z.shift k1
theorem xs_expr (he : XE X io e m) (hs : swapsWith e none pos.line X.env = pure false := by rfl) : XS X io (.Expr e pos) m := fun C pins s σ H δ fp ex k I R hm =>
  wpAny_Expr_any (thn (he C pins s σ H δ fp ex k I R hm) fun _ _ z => z.elim) I.quiet hs
theorem xs_raise {C : Addr} {x j : Str} {jk : Nat} {np cpos pos kp : Pos} (hex : X.ex = []) (hh : X.A.handled = none) (hg : Gl X x) (hm : X.mg x = some (.ref C)) (q : RsCls X.K C) (hd : (x == ("__debug__" : Str)) = false := by decide) :
    XS X io (.Raise (some (.Call (.Name x np) [.Constant (.str j) jk kp] [] cpos)) none pos) (mxRaise C) := by
  intro M pins s σ H δ fp ex k I R hk
  obtain ⟨tl, N, nm, qn, bs, hdct, sn, sub, ab, col, dd, k0, k1, k2, k3, k5, mN, hC, hN, hni, TL⟩ := exc_obj I.ok.mod.kin q
  refine wpAny_Raise_call_subT (C := C) (nm := nm) (q := qn) (N := N) (bs := bs) (bm := tl) (hdct := hdct) (sn := sn) (sub := sub) (ab := ab) (col := col) (dd := dd) (k0 := k0) (k1 := k1) (k2 := k2) (k3 := k3) (k5 := k5)
    PySem.F.excBase_ValueError (mN := mN) (TL.hasType PySem.F.excBase_ValueError.hasBase) hh rfl hni (ld_glob I hg hm ⟨rfl, ?_⟩ hd)
  refine Calls.evalArgs_plain ?_
  refine Calls.spliced_cons ?_
  show wpAny _ _ (eval (.Constant (.str j) jk kp) X.env) _ _ _
  refine Calls.Constant_str ?_
  refine Calls.spliced_nil ?_
  have I1 := I.tok (s.toks + 1)
  refine ⟨rfl, by show 1 ≤ sizeLine; decide, I1.bk _ _ hC, hN.keeps I1.bk, TL.keeps I1.bk, fun h' e hx => ?_⟩
  obtain ⟨t, e1, _, _⟩ := hx.there
  have I2 := I1.kept (t' := s.toks + 1) hx.keeps
  exact ⟨e, C, σ, H, δ, fp, rfl, I2, .inr ⟨_, _, _, e1, ⟨rfl, rfl⟩, rfl, rfl, I1.apart hex hx.new (I1.unheld hx.new)⟩, R, .refl _ _, hk⟩
end
end L2

set_option Elab.async false
set_option linter.all false
set_option maxRecDepth 100000
set_option maxHeartbeats 4000000
namespace L2
open PySem PySem.Spec PyProof.Rows
noncomputable def CX1 (P : Program) (w : World) : CXT := fun outer H s E e s' => ∃ a C H', e = .ref a ∧ s'.os = s.os ∧ AllBare s'.gens ∧ Un (frs outer) [] H H' s.heap s'.heap ∧ HOk P w H' s'.heap ∧ Fl (fun b => H' b = none ∧ s.heap.get? b = none) C a .none s'.heap ∧ E (.ref C) none H'
noncomputable def spX (G : PySem.W.Frag) (S : List PyData → Addr → Prop) : Sp := fun vs H Q E => ∃ L ds cl, Das G H L vs ds ∧ S ds cl ∧ ∀ H', Same H H' → E (.ref cl) none H'
section
variable {P : Program} {w : World} {K : PySem.W.Frag} {mg : Str → Option Value} {base : Heap}
theorem Fun.okX {x qual : Str} {st : Stmt} {f : Addr} {fd : FuncData} {N ps : List Str} {n : Nat} {S : List PyData → Addr → Prop} (F : Fun K x qual st f fd) (Sc : FnScope N ps (defScope st)) (len : ∀ ds cl, S ds cl → ds.length = ps.length)
    (hbody : ∀ (cdv : Value) (A : Around) (outer : List Env) (s : Shared) (H : Hp) (E : XK), Room n (A.deeper (envOfC qual (defScope st) s.heap.objs.size f cdv)) →
      ∃ m, XSs (cxOf (CX1 P w) P w K mg base N qual (defScope st) f cdv A outer s H E).nox [] (defBody st) m ∧ ∀ ds cl, S ds cl → m (startD N ds) (fun c _ => c = cl)) : FnOk P w K mg base (CX1 P w) (n + 1) f fd ps (spX K S) := by
  obtain ⟨oc, od, kV, doc, pm, an, cdv, ct, osl, rfl, lk, hcd⟩ := F.ex
  refine fn_of lk hcd Sc (fun vs H Q E h => ?_) fun A outer s H vs Q E hr hsp => ?_
  · obtain ⟨L, ds, cl, h1, h2, _⟩ := h
    rw [h1.length]
    exact len ds cl h2
  obtain ⟨L, ds, cl, h1, h2, h3⟩ := hsp
  obtain ⟨m, hX, q⟩ := hbody cdv A outer s H E hr
  refine ⟨fun _ σ' H' => σ' = start N vs ∧ H' = H, fun pins s1 σ1 H1 D I e => ?_, rfl, rfl⟩
  obtain ⟨rfl, rfl⟩ := e
  refine wpAny_mono (hX ⟨H1, fun _ => False, L, start N vs⟩ pins s1 _ _ _ _ _ (fun c _ => c = cl) (I.wish _) (Rel.entry h1) (q ds cl h2)) (fun _ _ z => z.elim) fun e s' z => ?_
  obtain ⟨a, cl', σ', H', δ', fp', rfl, I', F', R', K', rfl⟩ := z
  exact fly_leave I' rfl rfl rfl I'.ok.frames F' fun s'' J FF => ⟨a, cl', H', rfl, J.os, J.bare, J.base, J.hok, FF.imp fun b ap => ⟨ap.fr, ap.new⟩, h3 H' fun b o e => R'.fr b o e id⟩
end
theorem Rel.grown {G : PySem.W.Frag} {C : MC G} {io : List Nat} {H H' : Hp} {σ : St} {δ : DEnv} {fp : Fp} {ex : Addr → Prop} (R : Rel C io H σ δ fp ex) (s : Same H H') : Rel C io H' σ δ fp ex :=
  (R.made (new := []) s (fun a m => nomatch m)).drop fun a z => .inl z
noncomputable def mxCall (S : List PyData → Addr → Prop) (mr : MAt) : MXt := fun δ k => mr δ fun rs δ1 => ∃ cl, S (OT.datas rs) cl ∧ k cl δ1
section
variable {X : Cx} {io : List Nat} {p c : Bool} {e : Expr} {es : List Expr} {mr : MAt} {pos pp : Pos} {k : Nat} {f : Addr} {fd : FuncData} {ps : List Str} {x : Str}
theorem xe_call {S} (F : FnOk X.prog X.w X.K X.mg X.base (CX1 X.prog X.w) k f fd ps (spX X.K S)) (hr : Room k X.A) (hg : Gl X x) (hm : X.mg x = some (.ref f)) (hk : PySem.W.keepIn X.K (.ref f) = true) (hb : Binds X.K fd ps [])
    (ha : MA X io p c (e :: es) mr) (hex : X.ex = [] := by rfl) (hx : X.xe = fun _ _ => False := by rfl) (hdb : (x == ("__debug__" : Str)) = false := by decide) (he : starEach (e :: es) X.env = (false, eval e X.env) :: starEach es X.env := by rfl) (hpl : (backTo pos (starEach es X.env)).any (·.1) = false := by rfl) :
    XE X io (.Call (.Name x pp) (e :: es) [] pos) (mxCall S mr) := by
  obtain ⟨t, A, sA⟩ := ha
  intro C pins s σ H δ fp ex kk I R hm'
  refine wpAny_Call_Name_kw (ld_glob I hg hm ?_ hdb)
  refine PySem.W.callWith_K (h₀ := X.base) I.ok.mod.kin hk (wpAny_mono (A pos pins s σ H (fun vs H1 => ∃ δ1 fp1 L ds cl, Rel C io H1 σ δ1 fp1 ex ∧ Kp H fp H1 fp1 ∧ Das X.K H1 L vs ds ∧ S ds cl ∧ kk cl δ1) I
    (sA C H σ δ fp ex _ _ R hm' fun H1 vs rs δ1 fp1 new r1 h1 => let ⟨cl, h2, h3⟩ := h1; ⟨δ1, fp1, _, _, cl, r1.base, r1.stp.kp, r1.das R, h2, h3⟩)) (fun us s1 ⟨vs, H1, I1, r, q⟩ => ⟨I1.kIn, ?_⟩) fun e s1 z => by rw [hx] at z; exact z.elim) he hpl
  obtain ⟨δ1, fp1, L, ds, cl, R1, k1, hd, hS, hkk⟩ := q
  have hsp : spX X.K S vs H1 (fun _ _ => False) (fun c _ H' => c = .ref cl ∧ Same H1 H') := ⟨L, ds, cl, hd, hS, fun H' s => ⟨rfl, s⟩⟩
  have hl : (us ++ []).length = ps.length := by rw [List.append_nil, ← r.length]; exact F.len _ _ _ _ hsp
  have hB := hb s1 us I1.kIn hl
  rw [List.append_nil] at hB
  refine wpAny_call (codeAny_mono (F.run X.A X.stack s1 H1 ⟨us, []⟩ us vs _ _ hr I1.env0 hB r hsp) fun res s' hq => ?_)
  cases res with
  | error e =>
    obtain ⟨a, C', H', rfl, ho, bare, un, hok, FF, eC, same⟩ := hq
    cases eC
    have J := I1.call' (ch := []) ho un hok bare fun b z => nomatch z
    exact ⟨a, cl, σ, H', δ1, fp1, rfl, J, .inl (FF.imp fun b z => I1.apart hex z.2 z.1), R1.grown same, k1.trans (Stp.same same same.al), hkk⟩
  | ok fl =>
    cases fl with
    | ret u => obtain ⟨_, _, _, _, _, _, _, z⟩ := hq; exact z.elim
    | next => exact False.elim hq
    | brk => exact False.elim hq
    | cont => exact False.elim hq
end
section
variable {X : Cx} {pins : List (Addr × Obj)} {σ : St} {H : Hp} {s : Shared} {a C : Addr}
theorem Inv.track (I : Inv X pins σ H s) (A : Apart X pins H a) {φ : Heap → Prop} (h1 : φ s.heap) (h2 : ∃ o, s.heap.get? a = some o) (h3 : ∀ g1 g2 : Heap, φ g1 → (∀ o, g1.get? a = some o → g2.get? a = some o) → φ g2) : Inv X pins σ (upd H a (.ext φ)) s := by
  have ne : ∀ b u, H b = some u → b ≠ a := fun b u e => ne_of_none e A.fr
  refine ⟨I.ok, I.os, I.bare, ⟨I.base.keep, I.base.slot, fun b o e n hx => ?_, I.base.there, fun b xs e => ?_, fun b o u e => ?_, fun b ps e => ?_⟩, I.loc, I.cell, ?_, fun x c e => ?_, fun p hp => ?_, fun b u e => ?_, I.len⟩
  · rw [upd_ne (fun z => by rw [z, A.new] at e; cases e)]; exact I.base.free b o e n hx
  · have := I.base.tups b xs e; rw [upd_ne (ne _ _ this)]; exact this
  · have := I.base.frzs b o u e; rw [upd_ne (ne _ _ this)]; exact this
  · obtain ⟨m, q⟩ := I.base.tbls b ps e; exact ⟨m, by rw [upd_ne (ne _ _ q)]; exact q⟩
  · rw [upd_ne (Ne.symm A.loc)]; exact I.free
  · rw [upd_ne (A.cel x c e)]; exact I.freeC x c e
  · obtain ⟨e, n, r⟩ := I.pin p hp
    exact ⟨e, by rw [upd_ne (A.pin p hp)]; exact n, r⟩
  · by_cases hb : b = a
    · subst hb; rw [upd_same] at e; cases e; exact ⟨h1, h2, h3⟩
    · rw [upd_ne hb] at e
      exact (I.hok b u e).stay (fun c v _ q => q) (fun c q => by rw [upd_ne (ne _ _ q)]; exact q) fun c xs q => by rw [upd_ne (ne _ _ q)]; exact q
noncomputable abbrev Cx.suite (X : Cx) (a : Addr) : Cx := { X with A := X.A.mark (some (.ref a)), calm := false }
theorem Inv.suite (I : Inv X pins σ H s) (a : Addr) : Inv (X.suite a) pins σ H s :=
  ⟨⟨I.ok.mod, I.ok.kind, I.ok.glob, I.ok.blt, I.ok.above, I.ok.inj, I.ok.has, I.ok.cab, fun z => (nomatch z), I.ok.frames, I.ok.stk, I.ok.exf, I.ok.bs, I.ok.bsz, I.ok.noex, I.ok.exfs, I.ok.funs, I.ok.frf⟩, I.os, I.bare, I.base, I.loc, I.cell, I.free, I.freeC, I.pin, I.hok, I.len⟩
theorem Inv.unsuite (ok : X.Ok) (I : Inv (X.suite a) pins σ H s) : Inv X pins σ H s := ⟨ok, I.os, I.bare, I.base, I.loc, I.cell, I.free, I.freeC, I.pin, I.hok, I.len⟩
theorem name_goes {M : Model} {A : Around} {E : Value → Shared → Prop} {i : Nat} {x : Str} {pos : Pos} {Q : Unit → Shared → Prop} (I : Inv X pins σ H s) (hN : X.N.Nodup) (hi : X.N[i]? = some x) (hk : X.env.scope.names.lookup x = some .local)
    (h : ∀ s', Inv X pins (σ.set i none) H s' → Q () s') : wpAny M A (do bindName X.env x .none; unbindBehindTheSuite X.env x pos) Q E s := by
  obtain ⟨m, hn, hl⟩ := id I.loc
  have hcls : (X.env.scope.kind == .class || (X.env.scope.kind == .module && X.env.locals != X.env.globals)) = false := by rw [I.ok.kind]; rfl
  refine wpAny_nameGoes_keeps hk hn hcls fun h' u hn' hs => ?_
  obtain ⟨oL, _, _, hoL, _⟩ := id hn
  have neL : ∀ b o, X.s₀.heap.get? b = some o → b ≠ X.env.locals := fun b o e => Nat.ne_of_lt (Nat.lt_of_lt_of_le (Heap.lt_size e) I.ok.above)
  refine h _ ⟨I.ok, I.os, I.bare, ⟨fun b o e n hb hx => ?_, fun b o e n hb hx => ?_, I.base.free, fun b o e hx => ?_, I.base.tups, I.base.frzs, I.base.tbls⟩, ⟨_, hn', fun j y v' e1 e2 e3 => ?_⟩, fun y c e => ?_, I.free, I.freeC, fun p hp => ?_, fun b ob e => ?_, by simpa using I.len⟩
  · exact (hs.2 b (neL b o e)).trans (I.base.keep b o e n hb hx)
  · obtain ⟨sl, e1⟩ := I.base.slot b o e n hb hx
    exact ⟨sl, (hs.2 b (neL b o e)).trans e1⟩
  · obtain ⟨o', e1⟩ := I.base.there b o e hx
    exact ⟨o', (hs.2 b (neL b o e)).trans e1⟩
  · by_cases hj : j = i
    · subst hj
      have : j < σ.length := by
        have z := (List.getElem?_eq_some_iff.mp e2).1
        simpa using z
      rw [List.getElem?_set_self this] at e2
      cases e2
    · rw [List.getElem?_set_ne (Ne.symm hj)] at e2
      obtain ⟨u', r', q⟩ := hl j y v' e1 e2 e3
      refine ⟨u', r', ?_⟩
      rcases q with ⟨k, e⟩ | ⟨k, c, e, z⟩
      · refine .inl ⟨k, ?_⟩
        have : y ≠ x := fun e => hj (nodup_ix hN e1 (e ▸ hi))
        simp [this, e]
      · exact .inr ⟨k, c, e, z.sameBut hs (I.cne y c e)⟩
  · obtain ⟨w', z⟩ := I.cell y c e
    exact ⟨w', z.sameBut hs (I.cne y c e)⟩
  · obtain ⟨e, n, ne, nf, d⟩ := I.pin p hp
    exact ⟨(hs.2 p.1 ne).trans e, n, ne, nf, d⟩
  · refine (I.hok b ob e).stay (fun c w' hc q => (hs.2 c ?_).trans q) (fun _ q => q) fun _ _ q => q
    rintro rfl
    rcases hc with rfl | hc
    · rw [I.free] at e; cases e
    · rw [I.free] at hc; cases hc
end
theorem Rel.forget {G : PySem.W.Frag} {C : MC G} {io : List Nat} {H : Hp} {σ : St} {δ : DEnv} {fp : Fp} {ex : Addr → Prop} {i : Nat} (R : Rel C io H σ δ fp ex) (hio : i ∉ io) : ∃ fp', Rel C io H (σ.set i none) (δ.set i none) fp' ex ∧ Kp H fp H fp' := by
  have get : ∀ j (t' : OT), (δ.set i none)[j]? = some (some t') → j ≠ i ∧ δ[j]? = some (some t') := fun j t' e => by
    by_cases ej : j = i
    · subst ej
      have hl : j < δ.length := by simpa using (List.getElem?_eq_some_iff.mp e).1
      rw [List.getElem?_set_self hl] at e; cases e
    · rw [List.getElem?_set_ne (Ne.symm ej)] at e; exact ⟨ej, e⟩
  have sub : ∀ j a, a ∈ fpu fp i [] j → j ≠ i ∧ a ∈ fp j := fun j a m => by
    by_cases ej : j = i
    · subst ej; rw [fpu_same] at m; exact nomatch m
    · rw [fpu_ne ej] at m; exact ⟨ej, m⟩
  have lw : ∀ a, Lf C fp ex a → Lf C (fpu fp i []) ex a := fun a l => ⟨fun ⟨j, z⟩ => l.1 ⟨j, (sub j a z).2⟩, l.2⟩
  refine ⟨fpu fp i [], ⟨by rw [List.length_set, List.length_set]; exact R.len, fun j t' e => ?_, fun j h => ?_, fun j => ?_, fun j k a h1 h2 => R.dj j k a (sub j a h1).2 (sub k a h2).2, fun j a h z => R.dx j a (sub j a h).2 z, R.xa, R.fr, R.al, fun j a h => R.new j a (sub j a h).2, fun j h => ?_⟩, fun b o e _ => e, fun z => (nomatch z), fun a ⟨j, z⟩ => .inl ⟨j, (sub j a z).2⟩, fun b e => e⟩
  · obtain ⟨ej, e⟩ := get j t' e
    obtain ⟨w, e1, o⟩ := R.own j t' e
    exact ⟨w, by rw [List.getElem?_set_ne (Ne.symm ej)]; exact e1, by rw [fpu_ne ej]; exact o.wide fun a l _ => lw a l⟩
  · by_cases ej : j = i
    · subst ej; rw [fpu_same]
    · rw [fpu_ne ej]
      exact R.emp j fun t' z => h t' (by rw [List.getElem?_set_ne (Ne.symm ej)]; exact z)
  · by_cases ej : j = i
    · subst ej; rw [fpu_same]; exact .nil
    · rw [fpu_ne ej]; exact R.nd j
  · rw [List.getElem?_set_ne (fun z => hio (by rw [z]; exact h))]; exact R.io j h
end L2

set_option Elab.async false
set_option linter.all false
set_option maxRecDepth 100000
set_option maxHeartbeats 4000000
namespace L2
open PySem PySem.Spec PyProof.Rows
theorem exc_hits {K : PySem.W.Frag} {M : Model} {A : Around} {E : Value → Shared → Prop} {h : Heap} {g : Array GenState} {d : Drawn} {t : Nat} {os : OsState} {e C D : Addr} {oe : Obj} {Q : Bool → Shared → Prop} (X : K.In h) (q : RsCls K D)
    (hs : PySem.W.subIn K (.ref C) (.ref D) = some true) (he : h.get? e = some oe) (hc : oe.cls = .ref C) (hQ : Q true ⟨h, g, d, t, os⟩) : wpAny M A (excMatches (.ref e) (.ref D)) Q E ⟨h, g, d, t, os⟩ := by
  obtain ⟨bm, N, nm, qn, bs, hdct, sn, sub, ab, col, dd, k0, k1, k2, k3, k5, mN, hC, hN, hni, TL⟩ := exc_obj X q
  have L := PySem.W.looks_subIn (M := M) X hs
  have f := tc_notTuple
  have hB : (Value.ref D :: bm).contains (.type "BaseException") = true := by rw [List.contains_cons, TL.hasType PySem.F.excBase_ValueError.hasBase, Bool.or_true]
  unfold excMatches
  repeat (first | (with_reducible refine wpAny_loadPart_at he ?_; rw [hc]) | with_reducible refine wpAny_loadPart_at hC ?_ | (with_reducible refine wpAny_bind (PySem.W.Looks.at L ?_)) | (with_reducible refine PySem.W.Looks.at L ?_) | (with_reducible refine wpAny_isSubtype_exc hC ?_; rw [hB]) | wp_step)
  exact hQ
noncomputable def mTry (G : PySem.W.Frag) (Dc : Addr) (i : Nat) (u : MSt) (x : MXt) (h : MSt) : MSt := fun D δ => u D δ ∨ x δ fun cl δ' => (ExCls G cl ∧ PySem.W.subIn G (.ref cl) (.ref Dc) = some true) ∧
  h { nx := fun δ2 => D.nx (δ2.set i none), rt := fun _ _ => False } (δ'.set i (some (.fz (exD cl))))
section
variable {X : Cx} {io : List Nat} {i : Nat} {n y : Str} {Dc : Addr} {b₀ : Stmt} {body suite : List Stmt} {pos hpos np : Pos} {u h : MSt} {x : MXt}
theorem ms_try (hN : X.N.Nodup) (hi : X.N[i]? = some n) (hk : X.env.scope.names.lookup n = some .local) (hg : Gl X y) (hm : X.mg y = some (.ref Dc)) (q : RsCls X.K Dc) (hb : MSs X io body u) (hbx : XSs X io body x) (hs : ∀ a, MSs (X.suite a) io (b₀ :: suite) h)
    (hio : i ∉ io := by decide) (hex : X.ex = [] := by rfl) (hst : X.stack = X.env :: X.outer := by rfl) (hf : X.env.frame = some X.env.locals := by rfl) (hx : X.xe = fun _ _ => False := by rfl) (hdb : (y == ("__debug__" : Str)) = false := by decide) :
    MS X io (.Try body [.ExceptHandler (some (.Name y np)) (some n) (b₀ :: suite) hpos] [] [] pos) (mTry X.K Dc i u x h) := by
  refine ⟨fun D' σ H => ∃ (C : MC X.K) (δ : DEnv) (fp : Fp) (ex : Addr → Prop) (D : EndsM), Rel C io H σ δ fp ex ∧ mTry X.K Dc i u x h D δ ∧ RelEnds C io ex H fp D D', ?_, fun C H σ δ fp ex D D' R hm E => ⟨C, δ, fp, ex, D, R, hm, E⟩⟩
  intro pins s σ H D' I hq
  obtain ⟨C, δ, fp, ex, D, R, hm', EE⟩ := hq
  rcases hm' with hu | hr
  · obtain ⟨tb, Ab, sb⟩ := hb
    refine wpAny_Try_except (wpAny_mono (Ab pins s σ H D' I (sb C H σ δ fp ex D D' R hu EE)) (fun f s1 z => ?_) fun e s1 z => by rw [hx] at z; exact z.elim)
    cases f with
    | next => exact wpAny_execs_nil z
    | ret v => exact z
    | brk => exact z
    | cont => exact z
  refine wpAny_Try_except (wpAny_mono (hbx C pins s σ H δ fp ex _ I R hr) (fun _ _ z => z.elim) fun e s1 z => ?_)
  obtain ⟨a, cl, σ1, H1, δ1, fp1, rfl, I1, F1, R1, K1, ⟨Z, hsub⟩, hh⟩ := z
  refine fly_note I1 hex hst hf I1.ok.frames F1 fun s2 I2 F2 => fly_land I2 hex F2 fun s3 I3 F3 => ?_
  refine wpAny_handleBy_cons (codeAny_handlers_test (ld_glob (X := X.suite a) (I3.suite a) hg hm ?_ hdb)) (by intro z; cases z)
  obtain ⟨oe, vs, e1, e2, e3⟩ := F3.exO
  have KI := I3.kIn
  obtain ⟨g3, gg3, d3, t3, os3⟩ := s3
  refine exc_hits KI q hsub e1 e2 (codeAny_handlers_suite_as ?_)
  refine fly_land I3 hex F3 fun s4 I4 F4 => ?_
  have ap : Apart X pins H1 a := by obtain ⟨_, _, _, _, _, _, _, _, _, _, _, _, _, _, z, _⟩ := F4; exact z
  have x4 := F4.exO
  have I5 : Inv X pins σ1 (upd H1 a (.ext (ExO cl a))) s4 := I4.track ap x4 (let ⟨o, _, e, _⟩ := x4; ⟨o, e⟩) fun g1 g2 ⟨o, vs, z1, z2⟩ k => ⟨o, vs, k o z1, z2⟩
  have sm : Same H1 (upd H1 a (.ext (ExO cl a))) := same_new ap.fr _
  have R5 := R1.grown sm
  obtain ⟨fp2, R6, K6⟩ := RE.put (p := true) (RE.fz (c := true) R5 (Stp.refl true _ _ _) (.exc Z upd_same)) R5 hio
  refine store_ok (X := X.suite a) (v := .ref a) (I5.suite a) hN hi (.inl hk) rfl (fun s5 I6 => ?_) (.inr hk)
  obtain ⟨ts, As, ss⟩ := hs a
  refine wpAny_mono (As pins s5 _ _ { nx := fun σ' H' => ∃ δ' fp', Rel C io H' σ' δ' fp' ex ∧ Kp (upd H1 a (.ext (ExO cl a))) fp2 H' fp' ∧ D.nx (δ'.set i none), rt := fun _ _ => False } I6
    (ss C _ _ _ fp2 ex _ _ R6 hh ⟨fun H' σ' δ' fp' R' k' h' => ⟨δ', fp', R', k', h'⟩, fun _ _ _ _ _ _ z => z.elim, fun _ _ _ _ _ _ z => z.elim, fun _ _ _ _ _ _ _ _ _ _ _ z => z.elim⟩)) (fun f s6 z => ?_) fun e s6 z => by
      have z' : X.xe e s6 := z
      rw [hx] at z'
      exact z'.elim
  cases f with
  | next =>
    obtain ⟨σ7, H7, I7, δ7, fp7, R7, K7, h7⟩ := z
    obtain ⟨fp8, R8, K8⟩ := R7.forget hio
    exact name_goes (I7.unsuite I4.ok) hN hi hk fun s8 I8 => ⟨_, _, I8, EE.nx H7 _ _ fp8 R8 (K1.trans ((Stp.same sm sm.al : Kp H1 fp1 _ fp1).trans (K6.trans (K7.trans K8)))) h7⟩
  | ret v => obtain ⟨_, _, _, _, _, w⟩ := z; exact w.elim
  | brk => obtain ⟨_, _, _, w⟩ := z; exact w.elim
  | cont => obtain ⟨_, _, _, w⟩ := z; exact w.elim
end
end L2

set_option Elab.async false
set_option linter.all false
set_option maxRecDepth 100000
set_option maxHeartbeats 4000000
namespace L2
open PySem PySem.Spec PyProof.Rows
theorem asI_int (i : Int) (k : Int → Prop) : asI (.int i) k = k i := rfl
theorem asL_lst (l : List PyData) (k : List PyData → Prop) : asL (.list l) k = k l := rfl
theorem asB_bl (b : Bool) (k : Bool → Prop) : asB (.bool b) k = k b := rfl
theorem Da.exInv {G : PySem.W.Frag} {H : Hp} {L : Addr → Prop} {v : V} {C : Addr} (q : Da G H L v (exD C)) : ∃ a, v = .ref a ∧ ExCls G C ∧ H a = some (.ext (ExO C a)) := by
  generalize e : exD C = d at q
  cases q with
  | exc Z h =>
    rename_i a C'
    have e' : C = C' := by
      unfold exD at e
      injection e with e
      injection e with e _
      injection e with e _
      injection e with e
      exact Int.ofNat.inj e
    subst e'
    exact ⟨a, rfl, Z, h⟩
  | _ => exact PyData.noConfusion e
inductive ClsV : V → Value → Prop where
  | own (D : Addr) : ClsV (.ref D) (.ref D)
  | ty (T : String) : ClsV (.ty T) (.type T)
theorem ClsV.val {v : V} {c u : Value} (h : ClsV v c) (r : RelV v u) : u = c := by
  cases h with
  | own D => exact r
  | ty T => exact r
inductive ClsVs : List V → List Value → Prop where
  | nil : ClsVs [] []
  | cons {v : V} {c : Value} {vs : List V} {cs : List Value} : ClsV v c → ClsVs vs cs → ClsVs (v :: vs) (c :: cs)
theorem ClsVs.vals : ∀ {vs : List V} {cs us : List Value}, ClsVs vs cs → Vals vs us → us = cs
  | _, _, _, .nil, .nil => rfl
  | _, _, _, .cons h t, .cons r q => by rw [h.val r, t.vals q]
theorem ClsVs.length : ∀ {vs : List V} {cs : List Value}, ClsVs vs cs → vs.length = cs.length
  | _, _, .nil => rfl
  | _, _, .cons _ t => by simp [t.length]
noncomputable def rIsiE (G : PySem.W.Frag) : List V → Hp → VK → Prop := fun xs H Q => ∃ a C v c b, xs = [.ref a, v] ∧ ExCls G C ∧ H a = some (.ext (ExO C a)) ∧ ClsV v c ∧ PySem.W.kitOne G (.ref C) c = some b ∧ Q (.bl b) H
noncomputable def rIsiET (G : PySem.W.Frag) : List V → Hp → VK → Prop := fun xs H Q => ∃ a C p vs cs b, xs = [.ref a, .ref p] ∧ ExCls G C ∧ H a = some (.ext (ExO C a)) ∧ H p = some (.tup vs) ∧ ClsVs vs cs ∧ PySem.W.kitAny G (.ref C) cs = some b ∧ Q (.bl b) H
theorem call_isiE {X : Cx} : CallR X (.builtin "isinstance") (rIsiE X.K) := by
  intro pins s σ H xs us Q I r h
  obtain ⟨a, C, v, c, b, rfl, Z, e, hc, hb, h⟩ := h
  obtain ⟨u, w', rfl, r1, r2⟩ := vals2 r
  cases (show u = Value.ref a from r1)
  rw [hc.val r2]
  obtain ⟨⟨o, vs, ho, hcl, _⟩, _, _⟩ := (show ObjOk X.prog X.w H s.heap a (.ext (ExO C a)) from I.hok a _ e)
  exact PySem.W.kia_one (kitx_exc Z) I.kIn ⟨o, ho, hcl⟩ hb (fun z => nomatch z) fun tk => ⟨.bl _, H, I.tok tk, rfl, h⟩
theorem call_isiET {X : Cx} : CallR X (.builtin "isinstance") (rIsiET X.K) := by
  intro pins s σ H xs us Q I r h
  obtain ⟨a, C, p, vs, cs, b, rfl, Z, e, ep, hc, hb, h⟩ := h
  obtain ⟨u, w', rfl, r1, r2⟩ := vals2 r
  cases (show u = Value.ref a from r1)
  cases (show w' = Value.ref p from r2)
  obtain ⟨⟨o, vs', ho, hcl, _⟩, _, _⟩ := (show ObjOk X.prog X.w H s.heap a (.ext (ExO C a)) from I.hok a _ e)
  obtain ⟨_, its, q, ⟨⟨oc, od, oda, osl⟩, hp, hpc, n, hpd⟩⟩ := (show ObjOk X.prog X.w H s.heap p (.tup vs) from I.hok p _ ep)
  dsimp only at hpc hpd
  subst hpc hpd
  rw [hc.vals q] at hp
  exact PySem.W.kia_tup (kitx_exc Z) I.kIn ⟨o, ho, hcl⟩ hp hb (fun z => nomatch z) fun tk => ⟨.bl _, H, I.tok tk, rfl, h⟩
noncomputable def mIsiX (G : PySem.W.Frag) (c : Value) (m : MEt) : MEt := fun δ K => m δ fun r δ' => ∃ C b, r.data = exD C ∧ PySem.W.kitOne G (.ref C) c = some b ∧ K (.fz (.bool b)) δ'
noncomputable def mIsiXT (G : PySem.W.Frag) (cs : List Value) (m : MEt) : MEt := fun δ K => m δ fun r δ' => ∃ C b, r.data = exD C ∧ PySem.W.kitAny G (.ref C) cs = some b ∧ K (.fz (.bool b)) δ'
section
variable {X : Cx} {io : List Nat} {p c : Bool} {a b : Expr} {ma : MEt} {pos pp p2 : Pos}
theorem m_isiX {v : V} {cv : Value} (hb : PE X b (tC v)) (hv : ClsV v cv) (hg : Gl X "isinstance") (hm : X.mg "isinstance" = none) (hbv : bootBuiltins "isinstance" = some (.builtin "isinstance")) (ha : ME X io p c a ma)
    (he : starEach [a, b] X.env = (false, eval a X.env) :: starEach [b] X.env := by rfl) (he2 : starEach [b] X.env = (false, eval b X.env) :: starEach [] X.env := by rfl) (hpl : (backTo pos (starEach [b] X.env)).any (·.1) = false := by rfl) :
    ME X io p true (.Call (.Name "isinstance" pp) [a, b] [] pos) (mIsiX X.K cv ma) := by
  obtain ⟨_, A, s⟩ := ha
  refine ⟨_, pe_callB call_isiE hg hm hbv (pa_cons A (pa_cons hb pa_nil he2) he) (by decide) (by decide) he hpl, ?_⟩
  intro C H σ δ fp ex K' Q R h k
  refine s C H σ δ fp ex _ _ R h fun H' v r δ' fp' new r1 h1 => ?_
  obtain ⟨Cx, bb, e, hk, h2⟩ := h1
  have q := r1.da R
  rw [e] at q
  obtain ⟨a, rfl, Z, eh⟩ := q.exInv
  exact ⟨a, Cx, _, cv, bb, rfl, Z, eh, hv, hk, k H' _ _ δ' fp' [] (.fz r1.base r1.stp (.bl _)) h2⟩
theorem m_isiXT {bs : List Expr} {x1} {t : TA} {vs : List V} {cs : List Value} (hb : PA X bs t) (ht : ∀ σ H Q, Q vs H → t σ H Q) (hv : ClsVs vs cs) (hl : vs.length ≤ sizeLine) (hg : Gl X "isinstance") (hm : X.mg "isinstance" = none) (hbv : bootBuiltins "isinstance" = some (.builtin "isinstance")) (ha : ME X io p c a ma)
    (he : starEach [a, .Tuple bs x1 p2] X.env = (false, eval a X.env) :: starEach [.Tuple bs x1 p2] X.env := by rfl) (he2 : starEach [.Tuple bs x1 p2] X.env = (false, eval (.Tuple bs x1 p2) X.env) :: starEach [] X.env := by rfl) (hpl : (backTo pos (starEach [.Tuple bs x1 p2] X.env)).any (·.1) = false := by rfl) :
    ME X io p true (.Call (.Name "isinstance" pp) [a, .Tuple bs x1 p2] [] pos) (mIsiXT X.K cs ma) := by
  obtain ⟨_, A, s⟩ := ha
  refine ⟨_, pe_callB call_isiET hg hm hbv (pa_cons A (pa_cons (pe_tup hb) pa_nil he2) he) (by decide) (by decide) he hpl, ?_⟩
  intro C H σ δ fp ex K' Q R h k
  refine s C H σ δ fp ex _ _ R h fun H' v r δ' fp' new r1 h1 => ?_
  obtain ⟨Cx, bb, e, hk, h2⟩ := h1
  have q := r1.da R
  rw [e] at q
  obtain ⟨a, rfl, Z, eh⟩ := q.exInv
  refine ht _ _ _ ⟨hl, fun tp hp => ?_⟩
  have sm : Same H' (upd H' tp (.tup vs)) := same_new hp _
  refine ⟨a, Cx, tp, vs, cs, bb, rfl, Z, sm _ _ eh, upd_same, hv, hk, k _ _ _ δ' fp' [] (.fz (r1.base.grown sm) ?_ (.bl _)) h2⟩
  have z := r1.stp.trans (p' := true) (Stp.same (p := true) (δ := δ') (fp := fp') sm sm.al)
  rwa [Bool.and_true] at z
noncomputable def dLst (n : Nat) (gs : MGst) : MGt := fun d δ k => match d with | .list ds => ds.length = n ∧ gs ds δ k | _ => False
end
end L2

set_option Elab.async false
set_option linter.all false
set_option maxRecDepth 100000
set_option maxHeartbeats 4000000
namespace L2
open PySem PySem.Spec PyProof.Rows PySem.P
section
variable {prog : Program} {w : World} {A : Around} {E : Value → Shared → Prop} {s : Shared} {e t0 C : Addr} {o : Obj} {vs : Array Value} {K : PySem.W.Frag} {m : Str} {tk : Tok}
structure XText (s : Shared) (e C t0 : Addr) (m : Str) (tk : Tok) : Prop where
  ob : ∃ o vs, s.heap.get? e = some o ∧ o.cls = .ref C ∧ o.data = .fields vs ∧ vs[0]? = some (.ref t0)
  tx : s.heap.TupAt t0 [.str m tk]
end
section
variable {X : Cx} {C : Addr} {x j : Str} {jk : Nat} {np cpos pos kp p1 : Pos}
end
end L2

set_option Elab.async false
set_option linter.all false
set_option maxRecDepth 100000
set_option maxHeartbeats 4000000
namespace L2
open PySem PySem.Spec PyProof.Rows
variable {G : PySem.W.Frag}
theorem Rel.topN {io : List Nat} {C : MC G} {H : Hp} {σ : St} {δ : DEnv} {fp : Fp} {ex : Addr → Prop} {i : Nat} {ts ts' : List OT} {a' : Addr} {xs ys : List V} {bs bs' new : List Addr} (R : Rel C io H σ δ fp (exu ex new)) (hi : δ[i]? = some (some (.nd ts))) (hv : σ[i]? = some (some (.ref a')))
    (hf : fp i = a' :: bs) (hx : H a' = some (.lst xs)) (o : Owns G H (Lf C fp (exu ex new)) ys ts' bs') (hs : ∀ a ∈ bs', a ∈ bs ∨ a ∈ new) (ndb : (a' :: bs').Nodup) (hn : ∀ a ∈ new, C.H₀ a = none ∧ ¬ ex a) :
    Rel C io (upd H a' (.lst ys)) σ (δ.set i (some (.nd ts'))) (fpu fp i (a' :: bs')) ex ∧ ∀ a, Foot (fpu fp i (a' :: bs')) a → Foot fp a ∨ a ∈ new := by
  have hil : i < δ.length := (List.getElem?_eq_some_iff.mp hi).1
  have hm : a' ∈ fp i := by rw [hf]; exact .head _
  have kp : ∀ b o, H b = some o → b ≠ a' → upd H a' (.lst ys) b = some o := fun b o e n => by rw [upd_ne n]; exact e
  have mem : ∀ a, a ∈ a' :: bs' → a ∈ fp i ∨ a ∈ new := fun a m => by
    rw [hf]
    rcases List.mem_cons.mp m with rfl | m
    · exact .inl (.head _)
    · exact (hs a m).imp (fun z => .tail _ z) id
  have sub : ∀ a, Foot (fpu fp i (a' :: bs')) a → Foot fp a ∨ a ∈ new := fun a z => by
    rcases z.of_u with z | ⟨j, _, z⟩
    · exact (mem a z).imp (fun z => ⟨i, z⟩) id
    · exact .inl ⟨j, z⟩
  have lw : ∀ a, Lf C fp (exu ex new) a → Lf C (fpu fp i (a' :: bs')) ex a := fun a l => ⟨fun z => (sub a z).elim l.1 fun z => l.2.1 (.inr z), fun z => l.2.1 (.inl z), l.2.2⟩
  have f1 : ∀ a zs, Lf C fp (exu ex new) a → Rd H a (.lst zs) → Lf C (fpu fp i (a' :: bs')) ex a ∧ Rd (upd H a' (.lst ys)) a (.lst zs) := fun a zs l q => by
    have na : a ≠ a' := fun z => l.1 ⟨i, by rw [z]; exact hm⟩
    refine ⟨lw a l, ?_⟩
    rcases q with q | ⟨u, q⟩
    · exact .inl (kp a _ q na)
    · exact .inr ⟨u, kp a _ q na⟩
  have f2 : ∀ a (zs : ImO), H a = some zs.ho → upd H a' (.lst ys) a = some zs.ho := fun a zs q => kp a _ q fun z => ImO.nl q (z ▸ hx)
  have hn' := List.nodup_cons.mp ndb
  refine ⟨⟨by rw [List.length_set]; exact R.len, fun j t' e => ?_, fun j h => ?_, fun j => ?_, fun j k a h1 h2 => ?_, fun j a h z => ?_, fun a z => ?_, fun b ob e nb => ?_, fun b e => ?_, fun j a h => ?_, R.io⟩, sub⟩
  · by_cases ej : j = i
    · subst ej
      rw [List.getElem?_set_self hil] at e
      cases e
      exact ⟨_, hv, by rw [fpu_same]; exact .nd upd_same (o.frame f1 f2 fun a m zs q => kp a _ q fun z => hn'.1 (z ▸ m))⟩
    · rw [List.getElem?_set_ne (Ne.symm ej)] at e
      obtain ⟨w, e1, o1⟩ := R.own j t' e
      exact ⟨w, e1, by rw [fpu_ne ej]; exact o1.frame f1 f2 fun a m zs q => kp a _ q fun z => ej (R.dj j i a m (z ▸ hm))⟩
  · by_cases ej : j = i
    · subst ej; exact absurd (List.getElem?_set_self hil) (h _)
    · rw [fpu_ne ej]
      exact R.emp j fun t' z => h t' (by rw [List.getElem?_set_ne (Ne.symm ej)]; exact z)
  · by_cases ej : j = i
    · subst ej; rw [fpu_same]; exact ndb
    · rw [fpu_ne ej]; exact R.nd j
  · have one : ∀ k, k ≠ i → a ∈ a' :: bs' → a ∈ fp k → False := fun k ek m1 m2 => by
      rcases mem a m1 with z | z
      · exact ek (R.dj k i a m2 z)
      · exact R.dx k a m2 (.inr z)
    by_cases ej : j = i
    · by_cases ek : k = i
      · rw [ej, ek]
      · rw [ej, fpu_same] at h1
        rw [fpu_ne ek] at h2
        exact (one k ek h1 h2).elim
    · rw [fpu_ne ej] at h1
      by_cases ek : k = i
      · rw [ek, fpu_same] at h2
        exact (one j ej h2 h1).elim
      · rw [fpu_ne ek] at h2
        exact R.dj j k a h1 h2
  · by_cases ej : j = i
    · rw [ej, fpu_same] at h
      rcases mem a h with m | m
      · exact R.dx i a m (.inl z)
      · exact (hn a m).2 z
    · rw [fpu_ne ej] at h
      exact R.dx j a h (.inl z)
  · by_cases e : a = a'
    · subst e; rw [upd_same]; intro q; cases q
    · rw [upd_ne e]; exact R.xa a (.inl z)
  · refine kp b ob (R.fr b ob e nb) fun z => ?_
    rcases R.new i a' hm with y | y
    · exact nb (z ▸ y.2)
    · rw [z, y] at e; cases e
  · refine R.al b ?_
    by_cases q : b = a'
    · subst q; rw [upd_same] at e; cases e
    · rwa [upd_ne q] at e
  · by_cases ej : j = i
    · rw [ej, fpu_same] at h
      rcases mem a h with m | m
      · rw [ej]; exact R.new i a m
      · exact .inr (hn a m).1
    · rw [fpu_ne ej] at h
      exact R.new j a h
noncomputable def mAppendO (i : Nat) (m : MEt) : MSt := fun D δ => match δ[i]? with
  | some (some (.nd _)) => m δ fun r δ1 => match δ1[i]? with
    | some (some (.nd ts)) => ts.length < sizeLine ∧ D.nx (δ1.set i (some (.nd (ts ++ [r]))))
    | _ => False
  | _ => False
section
variable {X : Cx} {io : List Nat} {p c : Bool} {e : Expr} {m : MEt} {pos apos cpos px : Pos} {i : Nat} {x : Str}
theorem ms_appendO (i : Nat) (he : ME X io p true e m) (hN : X.N[i]? = some x := by rfl) (hv : Vis X.env.scope x := by first | exact Or.inl rfl | exact Or.inr (Or.inl rfl) | exact Or.inr (Or.inr rfl)) (hd : (x == ("__debug__" : Str)) = false := by decide)
    (hcd : (x == ("__classdict__" : Str)) = false := by decide)
    (hbase : attributeBase (.Name x px) "append" X.env (eval (.Name x px) X.env) = eval (.Name x px) X.env := by rfl)
    (hfew : ((backTo cpos (starEach [e] X.env)).all (fun x => !x.1) && (backToKw cpos (keywordEach [] X.env)).all (fun x => x.1.isSome)
      && decide ([e].length + ([] : List Keyword).length + (if ([] : List Keyword).isEmpty then 0 else 1) < 30)) = true := by rfl)
    (hline : (apos.endLine == cpos.line) = true := by rfl) (hs : starEach [e] X.env = (false, eval e X.env) :: starEach [] X.env := by rfl) (hplain : (backTo cpos (starEach [] X.env)).any (·.1) = false := by rfl)
    (hsw : swapsWith (.Call (.Attribute (.Name x px) "append" apos) [e] [] cpos) none pos.line X.env = pure false := by rfl) :
    MS X io (.Expr (.Call (.Attribute (.Name x px) "append" apos) [e] [] cpos) pos) (mAppendO i m) := by
  obtain ⟨_, A, s⟩ := he
  refine ⟨_, ps_expr (pe_bm PySem.F.plainAttrs_list PySem.F.slot_list_append PySem.F.type_list_append mt_append (pv i hN hv hd hcd) (pa_cons A pa_nil hs) hbase hfew hline hs hplain) hsw, fun C H σ δ fp ex D D' R h E => ?_⟩
  unfold mAppendO at h
  split at h
  case h_2 => exact h.elim
  rename_i ts0 hi0
  obtain ⟨a', xs0, bs0, hv0, hx0, _, _⟩ := R.ownNd hi0
  refine ⟨_, hv0, .inl ⟨rfl, xs0, .inl (.inl hx0)⟩, ?_⟩
  refine s C H σ δ fp ex _ _ R h fun H1 v r δ1 fp1 new r1 h1 => ?_
  split at h1
  case h_2 => exact h1.elim
  rename_i ts1 hi1
  have R1 := r1.rel
  obtain ⟨a1, xs1, bs1, hv1, hx1, o1, hf1⟩ := R1.ownNd hi1
  rw [hv0] at hv1
  cases hv1
  refine ⟨a', xs1, v, rfl, rfl, hx1, by rw [o1.length]; exact h1.1, ?_⟩
  have ow : Own X.K H1 (Lf C fp1 (exu ex new)) v r new := r1.own.wide fun a l _ => l rfl
  have o2 := o1.snoc ow
  have nd1 := R1.nd i
  rw [hf1] at nd1
  have hn1 := List.nodup_cons.mp nd1
  have hm1 : ∀ a, a ∈ a' :: bs1 → a ∈ fp1 i := fun a m => by rw [hf1]; exact m
  have apart : ∀ a, a ∈ new → a ∉ a' :: bs1 := fun a m z => R1.dx i a (hm1 a z) (.inr m)
  obtain ⟨R2, sub⟩ := R1.topN hi1 hv0 hf1 hx1 o2 (fun a m => List.mem_append.mp m) (List.nodup_cons.mpr ⟨fun m => by
      rcases List.mem_append.mp m with z | z
      · exact hn1.1 z
      · exact apart a' z (.head _), List.nodup_append.mpr ⟨hn1.2, r1.nd, fun a m b m' z => apart b m' (by rw [← z]; exact .tail _ m)⟩⟩) fun a m => ⟨(R.newOk (r1.fresh a m)).2.2, (R.newOk (r1.fresh a m)).2.1⟩
  refine E.nx _ σ _ _ R2 ⟨fun b o eb q => ?_, fun z => (nomatch z), fun a z => ?_, fun b eb => ?_⟩ h1.2
  · have q' := q.resolve_left (by decide)
    rw [upd_ne]
    · exact r1.stp.keep b o eb (.inr q')
    · rintro rfl
      rcases r1.stp.grow b ⟨i, hm1 b (.head _)⟩ with z | z
      · exact q' z
      · rw [eb] at z; cases z
  · rcases sub a z with z | z
    · exact r1.stp.grow a z
    · exact .inr (r1.fresh a z)
  · refine r1.stp.al b ?_
    by_cases q : b = a'
    · subst q; rw [upd_same] at eb; cases eb
    · rwa [upd_ne q] at eb
end
end L2

set_option Elab.async false
set_option linter.all false
set_option maxRecDepth 100000
set_option maxHeartbeats 4000000
namespace L2
open PySem PySem.Spec PyProof.Rows
variable {G : PySem.W.Frag}
noncomputable def appT (d : PyData) : OT → OT
  | .nd us => .nd (us ++ [.fz d])
  | t => t
noncomputable def appK (d : PyData) (k : Nat) (ts : List OT) : List OT := (ts.take k).map (appT d) ++ ts.drop k
theorem appK_zero (d : PyData) (ts : List OT) : appK d 0 ts = ts := by simp [appK]
theorem appK_all (d : PyData) (ts : List OT) : appK d ts.length ts = ts.map (appT d) := by simp [appK]
theorem appK_get {d : PyData} {k : Nat} {ts : List OT} {t : OT} (h : ts[k]? = some t) : (appK d k ts)[k]? = some t := by
  obtain ⟨hk, e⟩ := List.getElem?_eq_some_iff.mp h
  unfold appK
  rw [List.getElem?_append_right (by simp; omega)]
  simp [Nat.min_eq_left (Nat.le_of_lt hk), h]
theorem appK_set {d : PyData} {k : Nat} {ts : List OT} {t : OT} (h : ts[k]? = some t) : (appK d k ts).set k (appT d t) = appK d (k + 1) ts := by
  obtain ⟨hk, e⟩ := List.getElem?_eq_some_iff.mp h
  unfold appK
  have hl : ((ts.take k).map (appT d)).length = k := by simp [Nat.min_eq_left (Nat.le_of_lt hk)]
  rw [List.set_append_right _ _ (by omega), hl, Nat.sub_self, List.drop_eq_getElem_cons hk, e, List.set_cons_zero, List.take_succ_eq_append_getElem hk, e, List.map_append, List.append_assoc]
  rfl
noncomputable def mForApp (i j : Nat) (d : PyData) : MSt := fun D δ => match δ[i]? with
  | some (some (.nd ts)) => j < δ.length ∧ (∀ t ∈ ts, ∃ us, t = .nd us ∧ us.length < sizeLine) ∧ D.nx ((δ.set i (some (.nd (ts.map (appT d))))).set j none)
  | _ => False
theorem Rel.forget2 {io : List Nat} {C : MC G} {H : Hp} {σ σ' : St} {δ : DEnv} {fp : Fp} {ex : Addr → Prop} {i : Nat} (R : Rel C io H σ δ fp ex) (hio : i ∉ io) (hl : σ'.length = σ.length) (hσ : ∀ q, q ≠ i → σ'[q]? = σ[q]?) :
    ∃ fp', Rel C io H σ' (δ.set i none) fp' ex ∧ Kp H fp H fp' := by
  obtain ⟨fp', R', K'⟩ := R.forget hio
  refine ⟨fp', ⟨by rw [hl, ← R'.len, List.length_set], fun j t e => ?_, R'.emp, R'.nd, R'.dj, R'.dx, R'.xa, R'.fr, R'.al, R'.new, fun j hj => ?_⟩, K'⟩
  · obtain ⟨v, e1, o⟩ := R'.own j t e
    have ej : j ≠ i := fun z => by
      subst z
      by_cases q : j < δ.length
      · rw [List.getElem?_set_self q] at e; cases e
      · rw [List.getElem?_eq_none (by simpa using Nat.le_of_not_lt q)] at e; cases e
    rw [List.getElem?_set_ne (Ne.symm ej)] at e1
    exact ⟨v, by rw [hσ j ej]; exact e1, o⟩
  · have ej : j ≠ i := fun z => hio (z ▸ hj)
    rw [hσ j ej]
    exact R.io j hj
section
variable {X : Cx} {io : List Nat} {e : Expr} {pos apos cpos px pt pl p2 : Pos} {i j : Nat} {x y : Str}
theorem ms_forApp (i j : Nat) {v0 : V} {d : PyData} (he : PE X e (tC v0)) (hsc : ScD v0 d) (hc : X.calm = true) (nd : X.N.Nodup) (hN : X.N[i]? = some x) (hj : X.N[j]? = some y) (hij : i ≠ j) (hlj : Loc X.env.scope y) (hio : j ∉ io := by decide)
    (hv : Vis X.env.scope x := by first | exact Or.inl rfl | exact Or.inr (Or.inl rfl) | exact Or.inr (Or.inr rfl)) (hvy : Vis X.env.scope y := by first | exact Or.inl rfl | exact Or.inr (Or.inl rfl) | exact Or.inr (Or.inr rfl))
    (hd : (x == ("__debug__" : Str)) = false := by decide) (hcd : (x == ("__classdict__" : Str)) = false := by decide) (hdy : (y == ("__debug__" : Str)) = false := by decide) (hcdy : (y == ("__classdict__" : Str)) = false := by decide)
    (hxe : X.xe = fun _ _ => False := by rfl)
    (hbase : attributeBase (.Name y px) "append" X.env (eval (.Name y px) X.env) = eval (.Name y px) X.env := by rfl)
    (hfew : ((backTo cpos (starEach [e] X.env)).all (fun x => !x.1) && (backToKw cpos (keywordEach [] X.env)).all (fun x => x.1.isSome)
      && decide ([e].length + ([] : List Keyword).length + (if ([] : List Keyword).isEmpty then 0 else 1) < 30)) = true := by rfl)
    (hline : (apos.endLine == cpos.line) = true := by rfl) (hs : starEach [e] X.env = (false, eval e X.env) :: starEach [] X.env := by rfl) (hplain : (backTo cpos (starEach [] X.env)).any (·.1) = false := by rfl)
    (hsw : swapsWith (.Call (.Attribute (.Name y px) "append" apos) [e] [] cpos) none p2.line X.env = pure false := by rfl) (hfs : ∀ z, foldedSetIterable (.Name x pl) X.env z = pure z := by intro _; rfl)
    (hf : X.fn y = true ∨ X.env.scope.names.lookup y = some .local := by first | exact .inl rfl | exact .inr rfl | assumption) :
    MS X io (.For (.Name y pt) (.Name x pl) [.Expr (.Call (.Attribute (.Name y px) "append" apos) [e] [] cpos) p2] [] pos) (mForApp i j d) := by
  refine ⟨_, ps_for (by rw [hxe]; exact PassesOwn.never) hc (pi_list (pv i hN hv hd hcd)) (pg_name (i := j) nd hj hlj (hf := hf)) (pss_one (ps_expr (pe_bm PySem.F.plainAttrs_list PySem.F.slot_list_append PySem.F.type_list_append mt_append (pv j hj hvy hdy hcdy) (pa_cons he pa_nil hs) hbase hfew hline hs hplain) hsw)) hfs, fun C H σ δ fp ex D D' R h E => ?_⟩
  unfold mForApp at h
  split at h
  case h_2 => exact h.elim
  rename_i ts hi
  obtain ⟨a', xs, bs, hv0, hx, ow, hfp⟩ := R.ownNd hi
  have ndi := R.nd i
  rw [hfp] at ndi
  have hnd := List.nodup_cons.mp ndi
  refine ⟨_, hv0, a', rfl, ⟨xs, .inl (.inl hx)⟩, ?_⟩
  refine for_list (xs := xs) (fun k σ' H' => σ'.length = σ.length ∧ (∀ q, q ≠ j → σ'[q]? = σ[q]?) ∧ H' a' = some (.lst xs) ∧ (∃ bs', Owns X.K H' (Lf C fp ex) xs (appK d k ts) bs' ∧ bs'.Sublist bs) ∧ (∀ b o, H b = some o → b ∉ fp i → H' b = some o) ∧ ∀ b, H' b = none → H b = none)
    ⟨rfl, fun _ _ => rfl, hx, ⟨bs, by rw [appK_zero]; exact ow, List.Sublist.refl _⟩, fun _ _ e _ => e, fun _ e => e⟩ ?_ ?_ ?_
  · rintro k σ' H' _ ⟨_, _, e, _⟩
    exact .inl (.inl e)
  · rintro k xk σ' H' hk ⟨hl, hσ, hx', ⟨bs', ow', hsb⟩, keep, al⟩
    have hkl : k < ts.length := by rw [← ow.length]; exact (List.getElem?_eq_some_iff.mp hk).1
    obtain ⟨t, ht⟩ : ∃ t, ts[k]? = some t := ⟨_, List.getElem?_eq_getElem hkl⟩
    obtain ⟨us, rfl, hus⟩ := h.2.1 t (List.mem_of_getElem? ht)
    have hget := appK_get (d := d) ht
    obtain ⟨xr, cr, hxr, orow, hsub⟩ := ow'.get hget
    rw [hk] at hxr
    cases hxr
    have ndb : bs'.Nodup := hnd.2.sublist hsb
    cases orow with
    | nd hb r3 =>
      rename_i b' ws bs4
      have hbm : b' ∈ bs' := hsub.subset (.head _)
      have hbf : b' ∈ fp i := by rw [hfp]; exact .tail _ (hsb.subset hbm)
      have hLb : ¬ Lf C fp ex b' := fun l => l.1 ⟨i, hbf⟩
      have jl : j < σ'.length := by rw [hl, R.len]; exact h.1
      show ∃ v, (σ'.set j (some (.ref b')))[j]? = some (some v) ∧ _
      refine ⟨_, List.getElem?_set_self jl, .inl ⟨rfl, ws, .inl (.inl hb)⟩, b', ws, v0, rfl, rfl, hb, by rw [r3.length]; exact hus, ?_⟩
      have hba : a' ≠ b' := fun z => hnd.1 (hsb.subset (z ▸ hbm))
      obtain ⟨as', oo, ss, _⟩ := Owns.deep (ws' := ws ++ [v0]) (us' := us ++ [.fz d]) hb hLb (fun cs hcs => ⟨cs ++ [], hcs.snoc (.fz hsc.da), by rw [List.append_nil]; exact List.Sublist.refl _⟩) ow' ndb hk hget
      refine ⟨by rw [List.length_set]; exact hl, fun q hq => by rw [List.getElem?_set_ne (Ne.symm hq)]; exact hσ q hq, by rw [upd_ne hba]; exact hx', ⟨as', ?_, ss.trans hsb⟩, fun b o eb nb => ?_, fun b eb => ?_⟩
      · have z := appK_set (d := d) ht
        rw [show appT d (.nd us) = .nd (us ++ [.fz d]) from rfl] at z
        rw [← z]
        exact oo
      · have nz : b ≠ b' := fun z => nb (by rw [z]; exact hbf)
        rw [upd_ne nz]; exact keep b o eb nb
      · refine al b ?_
        by_cases q : b = b'
        · subst q; rw [upd_same] at eb; cases eb
        · rwa [upd_ne q] at eb
  · rintro σ' H' ⟨hl, hσ, hx', ⟨bs', ow', hsb⟩, keep, al⟩
    rw [ow.length, appK_all] at ow'
    have sub : ∀ a, a ∈ a' :: bs' → a ∈ fp i := fun a m => by
      rw [hfp]
      rcases List.mem_cons.mp m with rfl | m
      · exact .head _
      · exact .tail _ (hsb.subset m)
    have lw : ∀ a, Lf C fp ex a → H' a ≠ none → Lf C (fpu fp i (a' :: bs')) (exu ex []) a := fun a l _ => ⟨fun z => by
      rcases z.of_u with z | ⟨k, _, z⟩
      · exact l.1 ⟨i, sub a z⟩
      · exact l.1 ⟨k, z⟩, fun z => l.2.1 (exu_nil.mp z), l.2.2⟩
    obtain ⟨R4, S4⟩ := R.change (new := []) (as' := a' :: bs') (t' := .nd (ts.map (appT d))) (H' := H') hi hv0 keep al (.nd hx' (ow'.wide lw)) (List.nodup_cons.mpr ⟨fun m => hnd.1 (hsb.subset m), hnd.2.sublist hsb⟩) (fun a m => .inl (sub a m)) (fun a m => nomatch m)
    have R5 := R4.drop (ex' := ex) fun a z => .inl z
    obtain ⟨fp6, R6, K6⟩ := R5.forget2 hio hl hσ
    exact E.nx _ σ' _ fp6 R6 (S4.kp.trans K6) h.2.2
end
noncomputable def lenT : OT → Nat
  | .nd us => us.length
  | _ => 0
noncomputable def lensT (ts : List OT) : List Int := ts.map fun t => (lenT t : Int)
noncomputable def mLens (i : Nat) : MEt := fun δ K => match δ[i]? with
  | some (some (.nd ts)) => ts.length ≤ sizeLine ∧ (∀ t ∈ ts, ∃ us, t = .nd us) ∧ K (.nd (((lensT ts).map PyData.int).map OT.fz)) δ
  | _ => False
section
variable {X : Cx} {io : List Nat} {e : Expr} {i : Nat} {y : Str}
theorem m_lens (i : Nat) (hp : PE X e (tComp [y] [] (iList X.K (tVar i)) (gName 0) tTrue (tCB (rLen X.K) (tCons (tVar 0) tNil)))) : ME X io true true e (mLens i) := by
  refine ⟨_, hp, fun C H σ δ fp ex K' Q R h kk => ?_⟩
  unfold mLens at h
  split at h
  case h_2 => exact h.elim
  rename_i ts hi
  obtain ⟨hz, hall, h⟩ := h
  obtain ⟨a', xs, bs, hv0, hx, ow, hfp⟩ := R.ownNd hi
  refine ⟨_, hv0, a', rfl, ⟨xs, .inl (.inl hx)⟩, fun D hD => ?_⟩
  have hDa : ∀ b o, H b = some o → b ≠ D := fun b o e => ne_of_none e hD
  refine comp_list (xs := xs) (fun k ys σ' H' => (∃ z, σ' = [z]) ∧ Same H H' ∧ ys = ((lensT (ts.take k)).map V.int)) ⟨⟨none, rfl⟩, same_new hD _, rfl⟩ ?_ ?_ ?_
  · rintro k ys σ' H' _ ⟨_, s, _⟩
    exact .inl (.inl (s _ _ hx))
  · rintro k xk ys σ' H' hk hkl hyl hD' ⟨⟨z, rfl⟩, s, rfl⟩
    have hkt : k < ts.length := by rw [← ow.length]; exact hkl
    obtain ⟨t, ht⟩ : ∃ t, ts[k]? = some t := ⟨_, List.getElem?_eq_getElem hkt⟩
    obtain ⟨us, rfl⟩ := hall t (List.mem_of_getElem? ht)
    obtain ⟨xr, cr, hxr, orow, _⟩ := ow.get ht
    rw [hk] at hxr
    cases hxr
    obtain ⟨b', ws, rfl, hb, hlen⟩ : ∃ b' ws, xk = V.ref b' ∧ H b' = some (.lst ws) ∧ ws.length = us.length := by
      cases orow with
      | nd hb r3 => exact ⟨_, _, rfl, hb, r3.length⟩
    · show ∃ v, ([some (V.ref b')] : St)[0]? = some (some v) ∧ _
      refine ⟨_, rfl, b', ws, rfl, .inl (.inl (.inl (s _ _ hb))), ?_⟩
      refine cPut.of hkl hyl (by rw [ow.length]; exact hz) hD' ⟨⟨_, rfl⟩, fun b o e => ?_, ?_⟩
      · rw [upd_ne (hDa b o e)]; exact s b o e
      · obtain ⟨_, e⟩ := List.getElem?_eq_some_iff.mp ht
        rw [List.take_succ_eq_append_getElem hkt, e]
        unfold lensT
        rw [List.map_append, List.map_append, hlen]
        rfl
  · rintro ys σ' H' hD' _ ⟨_, s, rfl⟩
    rw [ow.length, List.take_length] at hD'
    have hd : Own X.K H' (fun a => ((true = true → Lf C fp ex a) ∨ H a = none) ∧ a ∉ [D]) (.ref D) (.nd (((lensT ts).map PyData.int).map OT.fz)) [D] := .nd hD' (Das.owns (Das.ints _))
    exact kk H' (.ref D) _ δ fp [D] (RE.tree R R (Stp.refl true _ _ _) s (fun a m => by rw [List.mem_singleton.mp m]; exact hD) (one_nd D) hd) h
end
end L2

set_option maxHeartbeats 4000000
namespace My
open PySem L2 PySem.Spec
noncomputable def top (i : Nat) : Stmt := PySem.Challenge.pw_farcuts_k08_parts_of_tables.main.body.getD i (.Pass ⟨0, 0, 0, 0⟩)
noncomputable abbrev s_law_pool : Stmt := top 17
noncomputable abbrev s_law_take : Stmt := top 18
noncomputable abbrev s_law_line : Stmt := top 22
noncomputable abbrev s_law_lowest : Stmt := top 19
noncomputable abbrev s_law_figures : Stmt := top 20
noncomputable abbrev s_law_distance : Stmt := top 21
noncomputable abbrev s_law_table : Stmt := top 23
noncomputable abbrev s_law_copied : Stmt := top 24
noncomputable abbrev s_law_points : Stmt := top 28
noncomputable abbrev s_is_point : Stmt := top 13
noncomputable abbrev s_is_part : Stmt := top 14
noncomputable abbrev s_part_of : Stmt := top 15
noncomputable abbrev s_law_own : Stmt := top 26
noncomputable abbrev s_law_is : Stmt := top 27
noncomputable abbrev s_law_refused : Stmt := top 29
noncomputable abbrev s_law_just : Stmt := top 25
noncomputable abbrev s_law : Stmt := top 30
set_option genInjectivity false in
set_option genSizeOfSpec false in
structure Txt (K : PySem.W.Frag) (mg : Str → Option Value) : Type where
  f_law_pool : Addr
  fd_law_pool : FuncData
  F_law_pool : Fun K "_law_pool" "_law_pool" s_law_pool f_law_pool fd_law_pool
  b_law_pool : Binds K fd_law_pool ["script", "k"] []
  m_law_pool : mg "_law_pool" = some (.ref f_law_pool)
  f_law_take : Addr
  fd_law_take : FuncData
  F_law_take : Fun K "_law_take" "_law_take" s_law_take f_law_take fd_law_take
  b_law_take : Binds K fd_law_take ["pool", "many"] []
  m_law_take : mg "_law_take" = some (.ref f_law_take)
  f_law_line : Addr
  fd_law_line : FuncData
  F_law_line : Fun K "_law_line" "_law_line" s_law_line f_law_line fd_law_line
  b_law_line : Binds K fd_law_line ["pool", "many"] []
  m_law_line : mg "_law_line" = some (.ref f_law_line)
  f_law_lowest : Addr
  fd_law_lowest : FuncData
  F_law_lowest : Fun K "_law_lowest" "_law_lowest" s_law_lowest f_law_lowest fd_law_lowest
  b_law_lowest : Binds K fd_law_lowest ["top", "bottom"] []
  m_law_lowest : mg "_law_lowest" = some (.ref f_law_lowest)
  f_law_figures : Addr
  fd_law_figures : FuncData
  F_law_figures : Fun K "_law_figures" "_law_figures" s_law_figures f_law_figures fd_law_figures
  b_law_figures : Binds K fd_law_figures ["pool"] []
  m_law_figures : mg "_law_figures" = some (.ref f_law_figures)
  f_law_distance : Addr
  fd_law_distance : FuncData
  F_law_distance : Fun K "_law_distance" "_law_distance" s_law_distance f_law_distance fd_law_distance
  b_law_distance : Binds K fd_law_distance ["pool"] []
  m_law_distance : mg "_law_distance" = some (.ref f_law_distance)
  f_law_table : Addr
  fd_law_table : FuncData
  F_law_table : Fun K "_law_table" "_law_table" s_law_table f_law_table fd_law_table
  b_law_table : Binds K fd_law_table ["pool", "many"] []
  m_law_table : mg "_law_table" = some (.ref f_law_table)
  f_law_copied : Addr
  fd_law_copied : FuncData
  F_law_copied : Fun K "_law_copied" "_law_copied" s_law_copied f_law_copied fd_law_copied
  b_law_copied : Binds K fd_law_copied ["table"] []
  m_law_copied : mg "_law_copied" = some (.ref f_law_copied)
  f_law_points : Addr
  fd_law_points : FuncData
  F_law_points : Fun K "_law_points" "_law_points" s_law_points f_law_points fd_law_points
  b_law_points : Binds K fd_law_points ["pool", "many"] []
  m_law_points : mg "_law_points" = some (.ref f_law_points)
  f_is_point : Addr
  fd_is_point : FuncData
  F_is_point : Fun K "is_point" "is_point" s_is_point f_is_point fd_is_point
  b_is_point : Binds K fd_is_point ["table", "point"] []
  m_is_point : mg "is_point" = some (.ref f_is_point)
  f_is_part : Addr
  fd_is_part : FuncData
  F_is_part : Fun K "is_part" "is_part" s_is_part f_is_part fd_is_part
  b_is_part : Binds K fd_is_part ["table", "points"] []
  m_is_part : mg "is_part" = some (.ref f_is_part)
  f_part_of : Addr
  fd_part_of : FuncData
  F_part_of : Fun K "part_of" "part_of" s_part_of f_part_of fd_part_of
  b_part_of : Binds K fd_part_of ["table", "points"] []
  m_part_of : mg "part_of" = some (.ref f_part_of)
  f_law_own : Addr
  fd_law_own : FuncData
  F_law_own : Fun K "_law_own" "_law_own" s_law_own f_law_own fd_law_own
  b_law_own : Binds K fd_law_own ["found", "due"] []
  m_law_own : mg "_law_own" = some (.ref f_law_own)
  f_law_is : Addr
  fd_law_is : FuncData
  F_law_is : Fun K "_law_is" "_law_is" s_law_is f_law_is fd_law_is
  b_law_is : Binds K fd_law_is ["caught", "due"] []
  m_law_is : mg "_law_is" = some (.ref f_law_is)
  f_law_refused : Addr
  fd_law_refused : FuncData
  F_law_refused : Fun K "_law_refused" "_law_refused" s_law_refused f_law_refused fd_law_refused
  b_law_refused : Binds K fd_law_refused ["table", "points"] []
  m_law_refused : mg "_law_refused" = some (.ref f_law_refused)
  f_law_just : Addr
  fd_law_just : FuncData
  F_law_just : Fun K "_law_just" "_law_just" s_law_just f_law_just fd_law_just
  b_law_just : Binds K fd_law_just ["found", "due"] []
  m_law_just : mg "_law_just" = some (.ref f_law_just)
  f_law : Addr
  fd_law : FuncData
  F_law : Fun K "law" "law" s_law f_law fd_law
  b_law : Binds K fd_law ["script"] []
  m_law : mg "law" = some (.ref f_law)
  z_ValueError : mg "ValueError" = none
  z_abs : mg "abs" = none
  z_bool : mg "bool" = none
  z_int : mg "int" = none
  z_isinstance : mg "isinstance" = none
  z_len : mg "len" = none
  z_list : mg "list" = none
  z_max : mg "max" = none
  z_min : mg "min" = none
  z_range : mg "range" = none
  z_set : mg "set" = none
  z_tuple : mg "tuple" = none
  C_CutError : Addr
  mC_CutError : mg "CutError" = some (.ref C_CutError)
  C_NoCut : Addr
  mC_NoCut : mg "NoCut" = some (.ref C_NoCut)
  C_NoName : Addr
  mC_NoName : mg "NoName" = some (.ref C_NoName)
  C_NoNumber : Addr
  mC_NoNumber : mg "NoNumber" = some (.ref C_NoNumber)
  C_NoOrder : Addr
  mC_NoOrder : mg "NoOrder" = some (.ref C_NoOrder)
  C_NoPoint : Addr
  mC_NoPoint : mg "NoPoint" = some (.ref C_NoPoint)
  C_NoRow : Addr
  mC_NoRow : mg "NoRow" = some (.ref C_NoRow)
  C_NoTable : Addr
  mC_NoTable : mg "NoTable" = some (.ref C_NoTable)
  C_NoText : Addr
  mC_NoText : mg "NoText" = some (.ref C_NoText)
  C_NoWeb : Addr
  mC_NoWeb : mg "NoWeb" = some (.ref C_NoWeb)
  C_TooMany : Addr
  mC_TooMany : mg "TooMany" = some (.ref C_TooMany)
  r_CutError : RsCls K C_CutError
  r_NoPoint : RsCls K C_NoPoint
  x_NoPoint_ga : PySem.W.findIn K (.ref C_NoPoint) "__getattribute__" = some (some (.builtin "BaseException.__getattribute__"))
  x_NoPoint_gt : PySem.W.findIn K (.ref C_NoPoint) "__getattr__" = some none
  x_NoPoint_cl : PySem.W.findIn K (.ref C_NoPoint) "__class__" = some (some (.builtin "object.__class__"))
  x_NoPoint_isB : PySem.W.subIn K (.ref C_NoPoint) (.type "BaseException") = some true
  x_NoPoint_isO : PySem.W.subIn K (.ref C_NoPoint) (.type "object") = some true
  x_NoPoint_isC : PySem.W.isClsIn K C_NoPoint = true
  x_NoPoint_k1 : PySem.W.kitOne K (.ref C_NoPoint) (.type "int") = some false
  x_NoPoint_k2 : PySem.W.kitOne K (.ref C_NoPoint) (.type "bool") = some false
  x_NoPoint_k3 : PySem.W.kitOne K (.ref C_NoPoint) (.type "str") = some false
  x_NoPoint_k4 : PySem.W.kitOne K (.ref C_NoPoint) (.type "list") = some false
  x_NoPoint_k5 : PySem.W.kitOne K (.ref C_NoPoint) (.type "tuple") = some false
  u_NoPoint_CutError : PySem.W.subIn K (.ref C_NoPoint) (.ref C_CutError) = some true
  kt_NoPoint_NoCut : PySem.W.kitOne K (.ref C_NoPoint) (.ref C_NoCut) = some false
  kt_NoPoint_NoNumber : PySem.W.kitOne K (.ref C_NoPoint) (.ref C_NoNumber) = some false
  kt_NoPoint_NoPoint : PySem.W.kitOne K (.ref C_NoPoint) (.ref C_NoPoint) = some true
  kt_NoPoint_NoTable : PySem.W.kitOne K (.ref C_NoPoint) (.ref C_NoTable) = some false
  kt_NoPoint_ValueError : PySem.W.kitOne K (.ref C_NoPoint) (.type "ValueError") = some true
  ka_NoPoint_0 : PySem.W.kitAny K (.ref C_NoPoint) [.ref C_NoOrder, .ref C_TooMany, .ref C_NoWeb, .ref C_NoText, .ref C_NoName, .ref C_NoRow] = some false
theorem Txt.x_NoPoint {K : PySem.W.Frag} {mg : Str → Option Value} (T : Txt K mg) : ExCls K T.C_NoPoint := ⟨T.x_NoPoint_ga, T.x_NoPoint_gt, T.x_NoPoint_cl, T.x_NoPoint_isB, T.x_NoPoint_isO, T.x_NoPoint_isC, T.x_NoPoint_k1, T.x_NoPoint_k2, T.x_NoPoint_k3, T.x_NoPoint_k4, T.x_NoPoint_k5⟩
local macro_rules | `(tactic| walk_at "fq") => `(tactic| first | assumption | exact FQ.new (q := 0) rfl rfl | exact FQ.new (q := 1) rfl rfl | exact FQ.same (by assumption) (by walk_at "fq") | exact FQ.same (same_new (by assumption) _) (by walk_at "fq"))
local macro_rules | `(tactic| walk_at "sm") => `(tactic| first | assumption | exact Same.refl _ | exact Same.tr (by assumption) (by walk_at "sm") | exact Same.tr (same_new (by assumption) _) (by walk_at "sm"))
local macro_rules | `(tactic| walk_at "bq3") => `(tactic| first | exact BQ.mono (by assumption) (by decide) | (refine BQ.mono (BQ.plus (n := 249) ?_ ?_) (by decide) <;> exact BQ.mono (by assumption) (by decide)) | (refine BQ.mono (BQ.minus (n := 249) ?_ ?_) (by decide) <;> exact BQ.mono (by assumption) (by decide)) | (refine BQ.mono (BQ.times (n := 249) ?_ ?_) (by decide) <;> exact BQ.mono (by assumption) (by decide)) | (refine BQ.mono (BQ.divided (n := 249) ?_ ?_ (by assumption)) (by decide) <;> exact BQ.mono (by assumption) (by decide)))
local macro_rules | `(tactic| walk_at "bq2") => `(tactic| first | exact BQ.mono (by assumption) (by decide) | (refine BQ.mono (BQ.plus (n := 499) ?_ ?_) (by decide) <;> walk_at "bq3") | (refine BQ.mono (BQ.minus (n := 499) ?_ ?_) (by decide) <;> walk_at "bq3") | (refine BQ.mono (BQ.times (n := 499) ?_ ?_) (by decide) <;> walk_at "bq3") | (refine BQ.mono (BQ.divided (n := 499) ?_ ?_ (by assumption)) (by decide) <;> walk_at "bq3"))
local macro_rules | `(tactic| walk_at "bq1") => `(tactic| first | exact BQ.mono (by assumption) (by decide) | (refine BQ.mono (BQ.plus (n := 999) ?_ ?_) (by decide) <;> walk_at "bq2") | (refine BQ.mono (BQ.minus (n := 999) ?_ ?_) (by decide) <;> walk_at "bq2") | (refine BQ.mono (BQ.times (n := 999) ?_ ?_) (by decide) <;> walk_at "bq2") | (refine BQ.mono (BQ.divided (n := 999) ?_ ?_ (by assumption)) (by decide) <;> walk_at "bq2"))
local macro_rules | `(tactic| walk_at "bq") => `(tactic| first | exact BQ.mono (by assumption) (by decide) | (refine BQ.mono (BQ.plus (n := 1999) ?_ ?_) (by decide) <;> walk_at "bq1") | (refine BQ.mono (BQ.minus (n := 1999) ?_ ?_) (by decide) <;> walk_at "bq1") | (refine BQ.mono (BQ.times (n := 1999) ?_ ?_) (by decide) <;> walk_at "bq1") | (refine BQ.mono (BQ.divided (n := 1999) ?_ ?_ (by assumption)) (by decide) <;> walk_at "bq1"))
local macro_rules | `(tactic| walk_at "fs") => `(tactic| first
  | (refine ⟨_, _, ?q1, ?q2, rfl, ?f1, ?f2, ?b1, ?b2, ?t, fun v H' s f => ?_⟩; (case f1 => walk_at "fq"); (case f2 => walk_at "fq"); (case b1 => walk_at "bq"); (case b2 => walk_at "bq"); (case t => first | trivial | assumption))
  | refine ⟨_, rfl, ?_⟩
  | (refine ix_num (q := ?q1) ?f1 ?_; (case f1 => walk_at "fq"))
  | (refine ix_den (q := ?q1) ?f1 ?_; (case f1 => walk_at "fq"))
  | (refine rNe_eq (q := ?q1) (r := ?q2) ?f1 ?f2 ?e ?_; (case f1 => walk_at "fq"); (case f2 => walk_at "fq"); (case e => grind))
  | (refine rEq_eq (q := ?q1) (r := ?q2) ?f1 ?f2 ?e ?_; (case f1 => walk_at "fq"); (case f2 => walk_at "fq"); (case e => grind))
  | refine iteF ?_)
local macro_rules | `(tactic| walk_at "bt") => `(tactic| first | assumption | exact BQ.n (by assumption) | exact BQ.d (by assumption) | exact Bt.mul (by walk_at "bt") (by walk_at "bt") | exact Bt.add (by walk_at "bt") (by walk_at "bt") | exact Bt.sub (by walk_at "bt") (by walk_at "bt"))
local macro_rules | `(tactic| walk_at "ne") => `(tactic| first | assumption | exact den_ne _ | exact num_ne (by assumption) | exact mul_ne (by walk_at "ne") (by walk_at "ne"))
local macro_rules | `(tactic| walk_at "re") => `(tactic| first | grind | (simp only [Rat.divInt_eq_div, Rat.intCast_add, Rat.intCast_sub, Rat.intCast_neg, Rat.intCast_mul, numR]; grind))
local macro_rules | `(tactic| walk_at "fs") => `(tactic| first
  | (refine ⟨_, _, ?q1, ?q2, rfl, ?f1, ?f2, ?b1, ?b2, ?t, fun v H' s f => ?_⟩; (case f1 => walk_at "fq"); (case f2 => walk_at "fq"); (case b1 => walk_at "bq"); (case b2 => walk_at "bq"); (case t => first | trivial | assumption))
  | (refine ⟨_, _, ?q1, ?q2, rfl, ?f1, ?f2, ?b1, ?b2, ?_⟩; (case f1 => walk_at "fq"); (case f2 => walk_at "fq"); (case b1 => walk_at "bq"); (case b2 => walk_at "bq"))
  | refine ⟨_, rfl, ?_⟩
  | (refine ix_num (q := ?q1) ?f1 ?_; (case f1 => walk_at "fq"))
  | (refine ix_den (q := ?q1) ?f1 ?_; (case f1 => walk_at "fq"))
  | (refine rNe_eq (q := ?q1) (r := ?q2) ?f1 ?f2 ?e ?_; (case f1 => walk_at "fq"); (case f2 => walk_at "fq"); (case e => walk_at "re"))
  | (refine rEq_eq (q := ?q1) (r := ?q2) ?f1 ?f2 ?e ?_; (case f1 => walk_at "fq"); (case f2 => walk_at "fq"); (case e => walk_at "re"))
  | (refine ⟨_, _, rfl, ?hb, ?hB, fun v H' s f => ?_⟩; (case hb => walk_at "ne"); (case hB => exact Bt.mono (by walk_at "bt") (by decide)))
  | (refine ⟨_, _, rfl, rfl, ?m, ?_⟩; (case m => exact Bt.mulOk (by walk_at "bt") (by walk_at "bt") (by decide)))
  | refine ⟨_, _, rfl, rfl, ?_⟩
  | refine iteF ?_
  | refine ⟨two_le, fun p hp => ?_⟩)
local macro_rules | `(tactic| walk_at "m1") => `(tactic| simp -implicitDefEqProofs only [mRet, mRetS, mRetO, mRetN, mCall, mCallI, mCons, mNil, mBin, mBinS, mVar, mOwn, mC, mTup, mLst, mIf, mIfS, mAnd, mOr, mNot, mAndV, mOrV, mNotV, mTru, asB_bl, asI_int, asL_lst, d2I, d2I0, dEq, dNe, dIsN, dNotN, dIn, dIx, dCat, n1, n2, dLen, dAbs, dMax, dMin, dInt, dList, mBlS, mBl, mNeg, mIsi, mSl, mPart, mNoPart, mSeq, mNext, mDrop, mSet, mSetS, mSetO, kB, mFlat, mFrz, mAsg, dName, dNameS, dNil, dCons, dTup, mAppend, mPut, mPut2, iR1, iR2, iL, iT, mTrue, mNever, mBreak, mCont, endsD, endsI, startD, startI, List.map_cons, List.map_nil, List.length_cons, List.length_nil, List.replicate, List.cons_append, List.nil_append, List.append_nil, List.getElem?_cons_zero, List.getElem?_cons_succ, List.set_cons_zero, List.set_cons_succ, OT.data_fz, OT.data_nd, datas_cons, datas_nil, Nat.reduceAdd, Nat.reduceSub, Nat.reduceLeDiff, Nat.sub_self, Nat.zero_add, if_true, if_false, Bool.false_eq_true, rowT_data, tbT_data, lenD_tb, lenD_row, lenD_list, lenD_tup, mFor, mComp, mCompI, Nat.add_zero, Int.toNat_natCast, Int.zero_add, tru_bl, tru_int, tru_non, isN_non, isN_tup, isN_lst, ty_tup, ty_lst, ty_ib, ty_ii, shp_int, shp_bl, shp_non, shp_frD, eqv_int, eqv_fr, true_and, p10_6, p10_9, p10_18, p10_27, p10_30, map_fz_int, mFlatT, flat_tb, flat_fr, mFreeze, mSeqJ, shp_tb, eqv_tb, mChain, mRep, dSum, iZ, mLR1, mLR2, mLenSet, mIndex, mPop, dLst, mxIf, mxSeq, mxRaise, mxCall, mxNever, mIsiX, mIsiXT, mAppendO, mForApp, mLens])
local macro_rules | `(tactic| walk_at "m") => `(tactic| ((try refine Hold.go ?_); walk_at "m1"; repeat (refine Hold.go ?_; walk_at "m1")))
noncomputable def Pq (q : Rat) : Prop := 0 ≤ q ∧ BQ 134 q
theorem bq_divInt {t b : Int} (hb : b ≠ 0) (ht : Bt 134 t) (hb' : Bt 134 b) : BQ 134 (Rat.divInt t b) := BQ.div hb ht hb'
theorem Pq_int {i : Int} (h0 : 0 ≤ i) (h1 : i < 16) : Pq (i : Rat) := by
  refine ⟨Rat.intCast_nonneg.mpr h0, ?_, ?_⟩
  · rw [Rat.num_intCast]; exact bt_of h0 (Int.lt_trans h1 (by decide +kernel))
  · rw [Rat.den_intCast]; exact bt_of (by decide) (by decide +kernel)
noncomputable def PqT (n : Nat) (T : List (List Rat)) : Prop := ∀ i j, i < n → j < n → Pq (dd T i j)
noncomputable def STab (cost M : Nat) (t : OT) (ds : List PyData) (k : OT → OT → Prop) : Prop := ∃ m n : Nat, PlT t m ∧ ds = [.int n] ∧ 1 ≤ n ∧ n ≤ 12 ∧ m ≤ M ∧ ∀ (T : List (List Rat)) t', Sq n T → Zd n T → PqT n T → PlT t' (m + cost) → k (tbT T) t'
noncomputable def SDist (t : OT) (ds : List PyData) (k : OT → OT → Prop) : Prop := ∃ m : Nat, PlT t m ∧ ds = [] ∧ m ≤ 850000000 ∧ ∀ (q : Rat) t', 0 ≤ q → Pq q → PlT t' (m + 20) → k (.fz (frD q)) t'
theorem set2_pq {n : Nat} {T : List (List Rat)} {i j : Nat} {q : Rat} (h : Sq n T) (hi : i < n) (hj : j < n) (B : PqT n T) (hq : Pq q) : PqT n (set2 T i j q) := fun a b ha hb => by
  rw [set2_dd h hi hj ha hb]
  split
  · exact hq
  · exact B a b ha hb
noncomputable def prt (T : List (List Rat)) (ps : List Nat) : List (List Rat) := mkT ps.length fun i j => dd T (ps.getD i 0) (ps.getD j 0)
noncomputable def nats (ps : List Nat) : PyData := .list (ps.map fun i : Nat => PyData.int i)
theorem nats_ints (ps : List Nat) : nats ps = .list ((ps.map fun i : Nat => (i : Int)).map PyData.int) := by unfold nats; rw [List.map_map]; rfl
structure Pts (n : Nat) (ps : List Nat) : Prop where
  lt : ∀ p ∈ ps, p < n
  ne : ps ≠ []
  nd : ps.Nodup
theorem len_le_of_lt : ∀ {n : Nat} {ps : List Nat}, ps.Nodup → (∀ p ∈ ps, p < n) → ps.length ≤ n
  | 0, [], _, _ => Nat.le_refl _
  | 0, p :: ps, _, h => absurd (h p (.head _)) (Nat.not_lt_zero _)
  | n + 1, ps, nd, h => by
    by_cases m : n ∈ ps
    · have h1 := len_le_of_lt (n := n) (ps := ps.erase n) (nd.erase n) fun p hp => by
        have := h p (List.mem_of_mem_erase hp)
        have : p ≠ n := fun z => by
          subst z
          exact (List.Nodup.not_mem_erase nd) hp
        omega
      rw [List.length_erase_of_mem m] at h1
      omega
    · have := len_le_of_lt (n := n) nd fun p hp => by
        have := h p hp
        have : p ≠ n := fun z => m (z ▸ hp)
        omega
      omega
theorem map_erase {α β : Type} (f : α → β) : ∀ (l : List α) (k : Nat), (l.map f).eraseIdx k = (l.eraseIdx k).map f
  | [], _ => rfl
  | _ :: _, 0 => rfl
  | x :: l, k + 1 => by
    show f x :: (l.map f).eraseIdx k = f x :: (l.eraseIdx k).map f
    rw [map_erase f l k]
theorem erase_perm {α : Type} : ∀ (l : List α) (k : Nat) (h : k < l.length), (l[k] :: l.eraseIdx k).Perm l
  | [], _, h => absurd h (Nat.not_lt_zero _)
  | x :: l, 0, _ => List.Perm.refl _
  | x :: l, k + 1, h => (List.Perm.swap _ _ _).trans (List.Perm.cons x (erase_perm l k (by simpa using h)))
theorem ints_nodup {ps : List Nat} (h : ps.Nodup) : (ps.map fun i : Nat => (i : Int)).Nodup := by
  unfold List.Nodup at *
  rw [List.pairwise_map]
  exact h.imp fun h z => h (by omega)
theorem natsGet {ps : List Nat} {i p : Nat} (h : ps[i]? = some p) : p = ps.getD i 0 ∧ i < ps.length := by
  refine ⟨by rw [List.getD_eq_getElem?_getD, h]; rfl, (List.getElem?_eq_some_iff.mp h).1⟩
theorem natsGetD {ps : List Nat} {i : Nat} {d : PyData} (h : (ps.map fun i : Nat => PyData.int i)[i]? = some d) : d = .int (ps.getD i 0 : Nat) ∧ i < ps.length ∧ ps.getD i 0 ∈ ps := by
  rw [List.getElem?_map] at h
  cases e : ps[i]? with
  | none => rw [e] at h; cases h
  | some x =>
    rw [e] at h
    cases h
    obtain ⟨h1, h2⟩ := natsGet e
    exact ⟨by rw [← h1], h2, by rw [← h1]; exact List.mem_of_getElem? e⟩
noncomputable def SPoint (ds : List PyData) (k : OT → Prop) : Prop := ∃ (T : List (List Rat)) (n : Nat) (p : Int), ds = [tbD T, .int p] ∧ Sq n T ∧ k (.fz (.bool (decide (0 ≤ p ∧ p < n))))
theorem cut_take {ds : List PyData} {i : Nat} (h : i ≤ ds.length) : cutD ds none (some (i : Int)) = ds.take i := by
  unfold cutD
  rw [HT.sIx_none, HT.sIx_nat, Nat.min_eq_left h]
  rfl
theorem cut_drop {ds : List PyData} {i : Nat} (h : i ≤ ds.length) : cutD ds (some (i : Int)) none = ds.drop i := by
  unfold cutD
  rw [HT.sIx_none, HT.sIx_nat, Nat.min_eq_left h]
  exact List.take_of_length_le (by rw [List.length_drop]; exact Nat.le_refl _)
noncomputable def hf (n : Nat) (T : List (List Rat)) (a : Nat) (U : List (List Rat)) (b : Nat) (ys : List Nat) (i j : Nat) : Rat :=
  if i < n then (if j < n then dd T i j else dd T i a + dd U b (ys.getD (j - n) 0)) else (if j < n then dd U (ys.getD (i - n) 0) b + dd T a j else dd U (ys.getD (i - n) 0) (ys.getD (j - n) 0))
theorem p10_40 : (10 : Int) ^ Int.toNat 40 = 10000000000000000000000000000000000000000 := by decide +kernel
structure OwnTb (W : List (List Rat)) (t : OT) : Prop where
  dat : t.data = tbD W
  row : ∃ ts, t = .nd ts ∧ ∀ t' ∈ ts, ∃ us, t' = .nd us
noncomputable def SJust (ds : List PyData) (k : OT → Prop) : Prop := ∃ (W : List (List Rat)) (n : Nat), ds = [tbD W, tbD W] ∧ Sq n W ∧ n ≤ 100 ∧ k (.fz (.bool true))
noncomputable def SOwn (t : OT) (ds : List PyData) (k : OT → OT → Prop) : Prop := ∃ (W : List (List Rat)) (n : Nat), OwnTb W t ∧ ds = [tbD W] ∧ Sq n W ∧ n ≤ 100 ∧ ∀ t', k (.fz (.bool true)) t'
noncomputable def SCopied (ds : List PyData) (k : OT → Prop) : Prop := ∃ (W : List (List Rat)) (n : Nat), ds = [tbD W] ∧ Sq n W ∧ n ≤ 100 ∧ ∀ t : OT, t.data = tbD W → k t
theorem own_lens {W : List (List Rat)} {n : Nat} {ts : List OT} (hd : (OT.nd ts).data = tbD W) (hr : ∀ t' ∈ ts, ∃ us, t' = .nd us) (hS : Sq n W) : ts.length = n ∧ ∀ t' ∈ ts, ∃ us, t' = .nd us ∧ us.length = n := by
  rw [OT.data_nd] at hd
  have e : ts.map OT.data = W.map rowD := PyData.list.inj hd
  have hl : ts.length = n := by
    have := congrArg List.length e
    simp at this
    rw [this]; exact hS.1
  refine ⟨hl, fun t' m => ?_⟩
  obtain ⟨us, rfl⟩ := hr t' m
  refine ⟨us, rfl, ?_⟩
  have m2 : (OT.nd us).data ∈ W.map rowD := by rw [← e]; exact List.mem_map_of_mem m
  obtain ⟨r, hr1, hr2⟩ := List.mem_map.mp m2
  rw [OT.data_nd] at hr2
  have e2 : r.map frD = us.map OT.data := PyData.list.inj hr2
  have := congrArg List.length e2
  simp at this
  rw [← this]; exact hS.2 r hr1
theorem lens_app {n : Nat} {ts : List OT} {d : PyData} (hl : ts.length = n) (hr : ∀ t' ∈ ts, ∃ us, t' = .nd us ∧ us.length = n) : lensT (ts.map (appT d)) = List.replicate n ((n : Int) + 1) := by
  unfold lensT
  rw [List.map_map, List.eq_replicate_iff]
  refine ⟨by simp [hl], fun x hx => ?_⟩
  obtain ⟨t', m, rfl⟩ := List.mem_map.mp hx
  obtain ⟨us, rfl, h⟩ := hr t' m
  show ((lenT (.nd (us ++ [.fz d])) : Nat) : Int) = _
  simp [lenT, h]
theorem plain_intsL : ∀ (ns : List Int), plainDs (ns.map PyData.int) = true
  | [] => by simp [plainDs]
  | n :: ns => by rw [List.map_cons, plainDs, plain_intsL ns]; simp [plainD]
theorem plain_ints (ns : List Int) : plainD (.list (ns.map PyData.int)) = true := by rw [plainD]; exact plain_intsL ns
theorem shp_ints (ns : List Int) : ShpD (.list (ns.map PyData.int)) := (sh_list (n := 0) fun d m => by
  obtain ⟨i, _, rfl⟩ := List.mem_map.mp m
  exact sh_int _).shp (by decide)
theorem eqv_ints (ns : List Int) : PyData.eqv (.list (ns.map PyData.int)) (.list (ns.map PyData.int)) = true := eqv_self (plain_ints ns)
theorem rep_data (n : Nat) (c : Int) : (OT.nd ((List.range n).map fun _ => OT.fz (.int c))).data = .list ((List.replicate n c).map PyData.int) := by
  rw [OT.data_nd, List.map_map, List.map_replicate]
  congr 1
  rw [List.eq_replicate_iff]
  refine ⟨by simp, fun x hx => ?_⟩
  obtain ⟨_, _, rfl⟩ := List.mem_map.mp hx
  simp
theorem own_tbT (W : List (List Rat)) : OwnTb W (tbT W) := ⟨tbT_data W, _, rfl, fun t' m => by
  obtain ⟨r, _, rfl⟩ := List.mem_map.mp m
  exact ⟨_, rfl⟩⟩
noncomputable def rowO (n : Nat) (g : Nat → Rat) : OT := .nd ((List.range n).map fun c => .fz (frD (g c)))
theorem ded_le : ∀ (ns acc : List Int), (ns.foldl PyProof.Rows.step_dedup acc).length ≤ acc.length + ns.length
  | [], acc => by simp
  | n :: ns, acc => by
    have h := ded_le ns (PyProof.Rows.step_dedup acc n)
    have : (PyProof.Rows.step_dedup acc n).length ≤ acc.length + 1 := by
      unfold PyProof.Rows.step_dedup
      split <;> simp
    rw [List.foldl_cons, List.length_cons]
    omega
theorem ded_full : ∀ (ns acc : List Int), acc.Nodup → (ns.foldl PyProof.Rows.step_dedup acc).length = acc.length + ns.length → (acc ++ ns).Nodup
  | [], acc, h, _ => by simpa using h
  | n :: ns, acc, h, e => by
    rw [List.foldl_cons, List.length_cons] at e
    have h1 := ded_le ns (PyProof.Rows.step_dedup acc n)
    by_cases c : acc.any (fun x => x == n) = true
    · have hs : PyProof.Rows.step_dedup acc n = acc := by
        unfold PyProof.Rows.step_dedup
        rw [if_pos c]
      rw [hs] at h1 e
      omega
    · have hs : PyProof.Rows.step_dedup acc n = acc ++ [n] := by
        unfold PyProof.Rows.step_dedup
        rw [if_neg c]
      rw [hs] at e
      have hn : n ∉ acc := fun m => c (List.any_eq_true.mpr ⟨n, m, by simp⟩)
      have h2 : (acc ++ [n]).Nodup := List.nodup_append.mpr ⟨h, by simp, fun a ha b hb => by
        rw [List.mem_singleton] at hb
        subst hb
        exact fun z => hn (z ▸ ha)⟩
      have := ded_full ns (acc ++ [n]) h2 (by rw [List.length_append, List.length_singleton]; omega)
      rwa [List.append_assoc] at this
theorem dedN_full {ns : List Int} (h : dedN ns = ns.length) : ns.Nodup := by
  have := ded_full ns [] List.nodup_nil (by simpa [dedN] using h)
  simpa using this
noncomputable def inB (n : Nat) (p : Int) : Bool := decide (0 ≤ p ∧ p < (n : Int))
noncomputable def gd (n : Nat) (ps : List Int) : Bool := ps.all (inB n) && (decide (0 < ps.length) && decide (dedN ps = ps.length))
theorem gd_nil (n : Nat) : gd n [] = false := by simp [gd]
theorem gd_bad {n : Nat} {ps : List Int} {p : Int} (h : p ∈ ps) (hp : ¬ (0 ≤ p ∧ p < (n : Int))) : gd n ps = false := by
  have : ps.all (inB n) = false := List.all_eq_false.mpr ⟨p, h, by simp only [inB, decide_eq_true_eq]; exact hp⟩
  rw [gd, this]
  rfl
theorem gd_twice {n : Nat} {ps : List Int} (h : ¬ ps.Nodup) : gd n ps = false := by
  have : dedN ps ≠ ps.length := fun z => h (dedN_full z)
  simp [gd, this]
theorem gd_pts {n : Nat} {ps : List Nat} (h : Pts n ps) : gd n (ps.map fun i : Nat => (i : Int)) = true := by
  have h1 : (ps.map fun i : Nat => (i : Int)).all (inB n) = true := List.all_eq_true.mpr fun x hx => by
    obtain ⟨i, hi, rfl⟩ := List.mem_map.mp hx
    have := h.lt i hi
    exact decide_eq_true ⟨by omega, by omega⟩
  have h2 : 0 < ps.length := List.length_pos_iff.mpr h.ne
  rw [gd, h1, dedN_nodup (ints_nodup h.nd), List.length_map, decide_eq_true h2, decide_eq_true rfl]
  rfl
noncomputable def SIsPartG (ds : List PyData) (k : OT → Prop) : Prop := ∃ (T : List (List Rat)) (n : Nat) (ps : List Int), ds = [tbD T, .list (ps.map PyData.int)] ∧ Sq n T ∧ n ≤ 1000 ∧ ps.length ≤ 1000 ∧ k (.fz (.bool (gd n ps)))
noncomputable def SPartO (ds : List PyData) (k : OT → Prop) : Prop := ∃ (T : List (List Rat)) (n : Nat) (ps : List Nat), ds = [tbD T, nats ps] ∧ Sq n T ∧ n ≤ 1000 ∧ Pts n ps ∧ ∀ t : OT, OwnTb (prt T ps) t → k t
noncomputable def SPts (t : OT) (ds : List PyData) (k : OT → OT → Prop) : Prop := ∃ m n : Nat, PlT t m ∧ ds = [.int n] ∧ 1 ≤ n ∧ n ≤ 12 ∧ m ≤ 850000000 ∧ ∀ (ps : List Nat) t', Pts n ps → PlT t' (m + 14) → k (.nd (ps.map fun i : Nat => OT.fz (.int i))) t'
theorem shp_ns (ps : List Nat) : ShpD (.list (ps.map fun i : Nat => PyData.int i)) := by
  have := shp_ints (ps.map fun i : Nat => (i : Int))
  rwa [← nats_ints] at this
theorem eqv_ns (ps : List Nat) : PyData.eqv (.list (ps.map fun i : Nat => PyData.int i)) (.list (ps.map fun i : Nat => PyData.int i)) = true := by
  have := eqv_ints (ps.map fun i : Nat => (i : Int))
  rwa [← nats_ints] at this
theorem dat_ns (ps : List Nat) : List.map OT.data (List.map (fun i : Nat => OT.fz (PyData.int i)) ps) = ps.map fun i : Nat => PyData.int i := by
  rw [List.map_map]
  exact List.map_congr_left fun _ _ => OT.data_fz _
theorem cut_drop' (ds : List PyData) (i : Nat) : cutD ds (some (i : Int)) none = ds.drop i := by
  by_cases h : i ≤ ds.length
  · exact cut_drop h
  · unfold cutD
    rw [HT.sIx_none, HT.sIx_nat, Nat.min_eq_right (by omega), List.drop_length, List.take_nil, List.drop_eq_nil_of_le (by omega)]
theorem dup_mid {l r : List Int} {x : Int} (h : x ∈ l ++ r) : ¬ ((l ++ [x]) ++ r).Nodup := fun nd => by
  rw [List.append_assoc] at nd
  have := (List.perm_middle (a := x) (l₁ := l) (l₂ := r)).nodup_iff.mp nd
  exact (List.nodup_cons.mp this).1 h
theorem dup_end {l : List Int} {x : Int} (h : x ∈ l) : ¬ (l ++ [x]).Nodup := fun nd => (List.nodup_append.mp nd).2.2 x h x (.head _) rfl
theorem dup_two {l : List Int} (h : l ≠ []) : ¬ (l ++ l).Nodup := fun nd => by
  obtain ⟨x, hx⟩ := List.exists_mem_of_ne_nil l h
  exact (List.nodup_append.mp nd).2.2 x hx x hx rfl
theorem ix_qs {qs : List Int} {Ps : List PyData} {r : Nat} (e : Ps = qs.map PyData.int) (h : r < qs.length) : ∃ x : Int, x ∈ qs ∧ ixD (.list Ps) (.int (r : Int)) = some (.int x) := by
  subst e
  refine ⟨qs[r], List.getElem_mem h, ?_⟩
  rw [ixD_list, atI_of, List.getElem?_map, List.getElem?_eq_getElem h]
  rfl
section
variable {P : Program} {w : World} {K : PySem.W.Frag} {mg : Str → Option Value} {base : Heap}
theorem sc_law_pool : FnScope ["script", "k", "cell"] ["script", "k"] (defScope s_law_pool) := ⟨rfl, rfl, rfl, by decide +kernel, rfl, by decide +kernel, by decide +kernel⟩
theorem okP_law_pool (T : Txt K mg) : FnOk P w K mg base CX0 1 T.f_law_pool T.fd_law_pool ["script", "k"] (spPool K) := by
  refine T.F_law_pool.ok sc_law_pool (fun vs H Q E h => by obtain ⟨_, _, _, rfl, _⟩ := h; rfl) (fun cdv A outer s H vs Q E hr h => ?_)
  have hu := hr.units
  obtain ⟨a, ns, k, rfl, hS, h0, h1, q⟩ := h
  refine ⟨_, (pss_cons (ps_set (i := 2) sc_law_pool.nd rfl (Or.inl rfl) pc_int')
        (pss_cons (ps_if (pt_cmpR op_lt (pv 1) (pe_callB (call_lenK (K := K) (by rfl)) (by rfl) T.z_len L2.B.boot_len (pa_cons (pv 0) pa_nil)) (nomark _)) (pss_one (ps_set (i := 2) sc_law_pool.nd rfl (Or.inl rfl) (pe_ix (ix_listK (K := K) (by rfl)) (pv 0) (pv 1) (fun _ _ => rfl)))) pss_nil)
        (pss_cons (ps_if (pt_cmpR op_ge (pv 2) (pe_op op_powG pc_int' pc_int') (nomark _)) (pss_one (ps_ret (pe_lst (pa_cons (pe_op op_sub (pv 2) (pe_op op_powG pc_int' pc_int')) (pa_cons pc_int' (pa_cons pc_int' pa_nil)))))) pss_nil)
        (pss_one (ps_ret (pe_lst (pa_cons (pv 2) (pa_cons pc_int' (pa_cons (pe_op op_mulG pc_int' (pv 1)) pa_nil))))))))), ?_⟩
  have hp : CPow 10 18 := ⟨by decide, by decide, by decide⟩
  have hl : (ns.map V.int).length = ns.length := List.length_map _
  have fin : ∀ cell : Int, ∀ z : Option V, Q = Q → (∀ p, H p = none → Q (.ref p) (upd H p (.lst [.int (cell - 10 ^ (18 : Int).toNat), .int 1, .int 0]))) ∧ ∀ p, H p = none → Q (.ref p) (upd H p (.lst [.int cell, .int 0, .int (23 * k)])) := fun cell z _ =>
    ⟨fun p hp' => q p _ hp' (same_new hp' _) ⟨_, _, _, upd_same, by omega, by omega⟩, fun p hp' => q p _ hp' (same_new hp' _) ⟨_, _, _, upd_same, by omega, by omega⟩⟩
  have mk : IntMulOk 23 k := mulOk_left (by decide) (by decide)
  refine ⟨_, rfl, _, rfl, a, _, rfl, .inl hS, _, _, rfl, rfl, _, rfl, ?_⟩
  refine ite2 (fun c => ?_) (fun c => ?_)
  · have c' : k < ((ns.map V.int).length : Int) := of_decide_eq_true c
    rw [hl] at c'
    have hk : k.toNat < ns.length := by omega
    have ek : k = ((k.toNat : Nat) : Int) := by omega
    obtain ⟨x, hx⟩ : ∃ x, ns[k.toNat]? = some x := ⟨_, List.getElem?_eq_getElem hk⟩
    have e : atI (ns.map V.int) ((k.toNat : Nat) : Int) = some (.int x) := atI_nat (by rw [List.getElem?_map, hx]; rfl)
    rw [← ek] at e
    refine ⟨_, rfl, _, rfl, a, _, _, _, rfl, rfl, hS, e, _, rfl, _, _, rfl, rfl, hp, _, _, rfl, rfl, _, rfl, ?_⟩
    refine ite2 (fun c => ?_) (fun c => ?_)
    · exact ⟨_, rfl, _, _, rfl, rfl, hp, _, _, rfl, rfl, (by show 3 ≤ sizeLine; decide), (fin _ none rfl).1⟩
    · exact ⟨_, rfl, _, rfl, _, _, rfl, rfl, mk, (by show 3 ≤ sizeLine; decide), (fin _ none rfl).2⟩
  · refine ⟨_, rfl, _, _, rfl, rfl, hp, _, _, rfl, rfl, _, rfl, ?_⟩
    refine ite2 (fun c => ?_) (fun c => ?_)
    · exact ⟨_, rfl, _, _, rfl, rfl, hp, _, _, rfl, rfl, (by show 3 ≤ sizeLine; decide), (fin _ none rfl).1⟩
    · exact ⟨_, rfl, _, rfl, _, _, rfl, rfl, mk, (by show 3 ≤ sizeLine; decide), (fin _ none rfl).2⟩
theorem ok_law_pool (T : Txt K mg) : FnOk P w K mg base CX0 1 T.f_law_pool T.fd_law_pool ["script", "k"] (spD K SPool) := FnOk.poolD (okP_law_pool T)
theorem sc_law_take : FnScope ["pool", "many", "found", "step", "mark"] ["pool", "many"] (defScope s_law_take) := ⟨rfl, rfl, rfl, by decide +kernel, rfl, by decide +kernel, by decide +kernel⟩
theorem okP_law_take (T : Txt K mg) : FnOk P w K mg base CX0 1 T.f_law_take T.fd_law_take ["pool", "many"] (spTake) := by
  refine T.F_law_take.ok sc_law_take (fun vs H Q E h => by obtain ⟨_, _, _, rfl, _⟩ := h; rfl) (fun cdv A outer s H vs Q E hr h => ?_)
  have hu := hr.units
  obtain ⟨p, n, many, rfl, ⟨a, b, c, hp, c0, cn⟩, hn, hm, hB, q⟩ := h
  refine ⟨_, (pss_cons (ps_if (pt_cmpR op_eq (pe_ix (ix_listK (K := K) (by rfl)) (pv 0) pc_int' (fun _ _ => rfl)) pc_int' (nomark _)) (pss_cons (ps_set (i := 2) sc_law_take.nd rfl (Or.inl rfl) (pe_op op_modN (pe_ix (ix_listK (K := K) (by rfl)) (pv 0) pc_int' (fun _ _ => rfl)) (pv 1)))
        (pss_cons (ps_asg (pe_op op_fdivG (pe_ix (ix_listK (K := K) (by rfl)) (pv 0) pc_int' (fun _ _ => rfl)) (pv 1)) (pg_sub (pv 0) pc_int' set_list))
        (pss_one (ps_ret (pv 2))))) pss_nil)
        (pss_cons (ps_asg (pe_op op_add (pe_ix (ix_listK (K := K) (by rfl)) (pv 0) pc_int' (fun _ _ => rfl)) pc_int') (pg_sub (pv 0) pc_int' set_list))
        (pss_cons (ps_set (i := 3) sc_law_take.nd rfl (Or.inl rfl) (pe_ix (ix_listK (K := K) (by rfl)) (pv 0) pc_int' (fun _ _ => rfl)))
        (pss_cons (ps_set (i := 4) sc_law_take.nd rfl (Or.inl rfl) (pe_op op_mulG (pe_op op_add (pe_op op_modN (pe_ix (ix_listK (K := K) (by rfl)) (pv 0) pc_int' (fun _ _ => rfl)) pc_int') pc_int') (pe_op op_add (pe_op op_mulG pc_int' (pv 3)) pc_int')))
        (pss_cons (ps_set (i := 4) sc_law_take.nd rfl (Or.inl rfl) (pe_op op_add (pv 4) (pe_op op_mulG (pe_op op_mulG pc_int' (pv 3)) (pv 3))))
        (pss_cons (ps_set (i := 4) sc_law_take.nd rfl (Or.inl rfl) (pe_op op_modN (pe_op op_mulG (pv 4) (pv 4)) pc_int'))
        (pss_one (ps_ret (pe_op op_modN (pe_op op_fdivG (pe_op op_modN (pe_op op_mulG (pv 4) (pe_op op_add (pv 4) pc_int')) pc_int') pc_int') (pv 1)))))))))), ?_⟩
  have hm0 : many ≠ 0 := by omega
  have rng : ∀ x : Int, 0 ≤ x.fmod many ∧ x.fmod many < many := fun x => by
    rw [fmod_pos hm]
    exact ⟨Int.emod_nonneg x hm0, Int.emod_lt_of_pos x hm⟩
  refine ⟨_, rfl, p, _, _, _, rfl, rfl, SqL.of hp, rfl, rfl, _, rfl, ?_⟩
  refine ite2 (fun _ => ?_) (fun _ => ?_)
  · refine ⟨_, rfl, p, _, _, _, rfl, rfl, SqL.of hp, rfl, _, rfl, _, _, rfl, rfl, hm0, ?_⟩
    refine ⟨_, rfl, p, _, _, _, rfl, rfl, SqL.of hp, rfl, _, rfl, _, _, rfl, rfl, .of hm0 hB, ?_⟩
    refine ⟨_, rfl, p, _, _, _, rfl, rfl, hp, rfl, _, rfl, ?_⟩
    exact q _ _ (rng a).1 (rng a).2 (.upd _ _ _) ⟨_, _, _, upd_same, c0, by omega⟩
  · refine ⟨_, rfl, p, _, _, _, rfl, rfl, SqL.of hp, rfl, _, _, rfl, rfl, ?_⟩
    refine ⟨_, rfl, p, _, _, _, rfl, rfl, hp, rfl, ?_⟩
    refine ⟨_, rfl, p, _, _, _, rfl, rfl, SqL.of upd_same, rfl, ?_⟩
    have e1 : a.fmod 9999999641 = a % 9999999641 := fmod_pos (by decide)
    have r1 : 0 ≤ a % 9999999641 := Int.emod_nonneg a (by decide)
    have r2 : a % 9999999641 < 9999999641 := Int.emod_lt_of_pos a (by decide)
    have B1 : Bt 34 (a.fmod 9999999641 + 953) := .of_lt (by omega) (by omega)
    have B2 : Bt 40 (17 * (c + 1) + 43) := .of_lt (by omega) (by omega)
    have B3 : Bt 50 (3413 * (c + 1)) := .of_lt (by omega) (by omega)
    have B4 : Bt 34 (c + 1) := .of_lt (by omega) (by omega)
    have B5 := (B1.mul B2).add (B3.mul B4)
    refine ⟨_, rfl, p, _, _, _, rfl, rfl, SqL.of upd_same, rfl, _, _, rfl, rfl, (show (9999999641 : Int) ≠ 0 by decide), _, _, rfl, rfl, ?_⟩
    refine ⟨_, rfl, _, _, rfl, rfl, mulOk_left (by decide) (by decide), _, _, rfl, rfl, _, _, rfl, rfl, B1.mulOk B2, ?_⟩
    refine ⟨_, rfl, _, rfl, _, _, rfl, rfl, mulOk_left (by decide) (by decide), _, rfl, _, _, rfl, rfl, B3.mulOk B4, _, _, rfl, rfl, ?_⟩
    refine ⟨_, rfl, _, rfl, _, _, rfl, rfl, B5.mulOk B5, _, _, rfl, rfl, (show (99999999683 : Int) ≠ 0 by decide), ?_⟩
    generalize ((a.fmod 9999999641 + 953) * (17 * (c + 1) + 43) + 3413 * (c + 1) * (c + 1)) * ((a.fmod 9999999641 + 953) * (17 * (c + 1) + 43) + 3413 * (c + 1) * (c + 1)) = mm
    have e3 : mm.fmod 99999999683 = mm % 99999999683 := fmod_pos (by decide)
    have r3 : 0 ≤ mm % 99999999683 := Int.emod_nonneg mm (by decide)
    have r4 : mm % 99999999683 < 99999999683 := Int.emod_lt_of_pos mm (by decide)
    refine ⟨_, rfl, _, rfl, _, _, rfl, rfl, _, _, rfl, rfl, mulOk_left (by omega) (by omega), _, _, rfl, rfl, (show (99999999959 : Int) ≠ 0 by decide), _, _, rfl, rfl, ⟨by decide, by decide⟩, _, rfl, _, _, rfl, rfl, hm0, ?_⟩
    exact q _ _ (rng _).1 (rng _).2 (.upd _ _ _) ⟨_, _, _, upd_same, by omega, by omega⟩
theorem ok_law_take (T : Txt K mg) : FnOk P w K mg base CX0 1 T.f_law_take T.fd_law_take ["pool", "many"] (spI K STake) := FnOk.takeI (okP_law_take T)
theorem sc_law_line : FnScope ["pool", "many", "places"] ["pool", "many"] (defScope s_law_line) := ⟨rfl, rfl, rfl, by decide +kernel, rfl, by decide +kernel, by decide +kernel⟩
theorem ok_law_line (T : Txt K mg) : FnOk P w K mg base CX0 2 T.f_law_line T.fd_law_line ["pool", "many"] (spI K (STab 12 800000000)) := by
  have G_law_take := ok_law_take (P := P) (w := w) (base := base) T
  refine T.F_law_line.okI sc_law_line (fun t ds k h => by obtain ⟨_, _, _, rfl, _⟩ := h; rfl) (fun cdv A outer s H E hr => ?_)
  have hu := hr.units
  refine ⟨_, (mss_cons (ms_set (i := 2) sc_law_line.nd rfl (Or.inr rfl) (m_compI (own := ["point"]) (caps := [0]) (N' := ["point", "pool"]) (o := 0) (q := 1) (by exact ⟨rfl, by decide +kernel, rfl, by decide +kernel, rfl, rfl⟩) (by rfl) (by decide) rfl (by decide) (mi_range1 (by rfl) T.z_range (ma_cons (mv 1) ma_nil (by first | exact Or.inl rfl | exact Or.inr rfl))) (fun _ _ _ _ _ => (mg_name (i := 0) (by show List.Nodup (["point", "pool"] : List Str); decide +kernel) (by rfl) (by first | exact Or.inl rfl | exact Or.inr rfl))) (fun _ _ _ _ _ => mif_nil) (fun _ _ _ _ _ => (m_callI (i := 1) G_law_take (hr.mono (by decide)) (by rfl) T.m_law_take T.F_law_take.kp T.b_law_take pass0 (ma_cons mc_int ma_nil (by first | exact Or.inl rfl | exact Or.inr rfl))))))
      (mss_one (ms_ret (m_comp (own := ["one"]) (caps := [2]) (N' := ["one", "places"]) (by exact ⟨rfl, by decide +kernel, rfl, by decide +kernel, rfl, rfl⟩) (by rfl) (by decide) (mi_list (mv 2)) (fun _ _ _ _ _ => (mg_name (i := 0) (by show List.Nodup (["one", "places"] : List Str); decide +kernel) (by rfl) (by first | exact Or.inl rfl | exact Or.inr rfl))) (fun _ _ _ _ _ => mif_nil) (fun _ _ _ _ _ => (m_comp (own := ["other"]) (caps := [0]) (N' := ["other", "one"]) (by exact ⟨rfl, by decide +kernel, rfl, by decide +kernel, rfl, rfl⟩) (by rfl) (by decide) (mi_list (mv 1)) (fun _ _ _ _ _ => (mg_name (i := 0) (by show List.Nodup (["other", "one"] : List Str); decide +kernel) (by rfl) (by first | exact Or.inl rfl | exact Or.inr rfl))) (fun _ _ _ _ _ => mif_nil) (fun _ _ _ _ _ => (m_tup (ma_cons (m_blS pn_abs call_abs (by rfl) T.z_abs L2.B.boot_abs (ma_cons (m_opS op_sub p2_int0 (mv 1) (mv 0) (by first | exact Or.inl rfl | exact Or.inr rfl)) ma_nil (by first | exact Or.inl rfl | exact Or.inr rfl))) (ma_cons mc_int ma_nil (by first | exact Or.inl rfl | exact Or.inr rfl)) (by first | exact Or.inl rfl | exact Or.inr rfl)))))))))), fun t ds k h => ?_⟩
  obtain ⟨m, n, hp, rfl, hn1, hn2, hm, hk⟩ := h
  walk_at "m"
  refine ⟨⟨by omega, by omega⟩, ?_⟩
  refine comp_genI (fun i rs δ' => ∃ ps t' z, rs = List.map (fun p : Int => OT.fz (.int p)) ps ∧ ps.length = i ∧ (∀ p ∈ ps, 0 ≤ p ∧ p < 9) ∧ δ' = [z, some t'] ∧ PlT t' (m + i)) (by simp; exact Nat.le_trans hn2 (by decide)) rfl ⟨[], t, none, rfl, rfl, by simp, rfl, hp⟩ ?_ ?_
  · rintro i d _ _ hd ⟨ps, t', z, rfl, hl, ha, rfl, hp'⟩
    have hi : i < n := by
      have := (List.getElem?_eq_some_iff.mp hd).1
      simpa using this
    walk_at "m"
    refine ⟨_, 9, hp', rfl, by omega, by decide, bt9 (by decide), fun r t2 r0 r1 p2 => ?_⟩
    refine ⟨ps ++ [r], t2, _, by simp, by simp [hl], ?_, rfl, by have := p2; simpa [Nat.add_assoc] using this⟩
    intro p hp
    rcases List.mem_append.mp hp with h | h
    · exact ha p h
    · simp at h; omega
  · rintro _ _ ⟨ps, t', z, rfl, hl, ha, rfl, hp'⟩
    walk_at "m"
    rw [rngD_length] at hl hp'
    have hz : (ps.map PyData.int).length ≤ sizeLine := by rw [List.length_map, hl]; exact Nat.le_trans hn2 (by decide)
    let g : Nat → Nat → Rat := fun i j => (((ps.getD i 0 - ps.getD j 0).natAbs : Int) : Rat)
    refine comp_map (cs := [some (.fz (.list (ps.map PyData.int)))]) (fun i => .nd ((List.range n).map fun j => .fz (frD (g i j)))) hz rfl ?_ ?_
    · intro i d z hd
      obtain ⟨hi, rfl⟩ := getInt hd
      walk_at "m"
      refine comp_map (cs := [some (.fz (.int (ps.getD i 0)))]) (fun j => .fz (frD (g i j))) hz rfl ?_ ?_
      · intro j d z hd
        obtain ⟨hj, rfl⟩ := getInt hd
        walk_at "m"
        refine ⟨by decide, .of ?_⟩
        rw [abs_ite, frD_int]
      · rw [List.length_map, hl]
        exact .of rfl
    · rw [List.length_map, hl, ← mkT_tree]
      walk_at "m"
      refine hk _ _ (mkT_sq n g) ⟨fun i hi => ?_, fun i j hi hj => ⟨?_, ?_⟩⟩ (fun i j hi hj => ?_) (hp'.mono (by omega))
      · rw [mkT_dd hi hi]
        show (((ps.getD i 0 - ps.getD i 0).natAbs : Int) : Rat) = 0
        rw [Int.sub_self]; rfl
      · rw [mkT_dd hi hj]
        exact Rat.intCast_nonneg.mpr (by omega)
      · rw [mkT_dd hi hj, mkT_dd hj hi]
        show (((ps.getD i 0 - ps.getD j 0).natAbs : Int) : Rat) = (((ps.getD j 0 - ps.getD i 0).natAbs : Int) : Rat)
        rw [← Int.natAbs_neg, Int.neg_sub]
      · have h1 := ha _ (mem_getD (ps := ps) (i := i) (by omega))
        have h2 := ha _ (mem_getD (ps := ps) (i := j) (by omega))
        rw [mkT_dd hi hj]
        exact Pq_int (by omega) (by omega)
theorem sc_law_lowest : FnScope ["top", "bottom", "one", "other"] ["top", "bottom"] (defScope s_law_lowest) := ⟨rfl, rfl, rfl, by decide +kernel, rfl, by decide +kernel, by decide +kernel⟩
theorem okP_law_lowest (T : Txt K mg) : FnOk P w K mg base CX0 1 T.f_law_lowest T.fd_law_lowest ["top", "bottom"] (spLow) := by
  refine T.F_law_lowest.ok sc_law_lowest (fun vs H Q E h => by obtain ⟨_, _, rfl, _⟩ := h; rfl) (fun cdv A outer s H vs Q E hr h => ?_)
  have hu := hr.units
  obtain ⟨t, b, rfl, hb, hB, k⟩ := h
  refine ⟨_, (pss_cons (ps_set (i := 2) sc_law_lowest.nd rfl (Or.inl rfl) (pe_callB call_abs (by rfl) T.z_abs L2.B.boot_abs (pa_cons (pv 0) pa_nil)))
        (pss_cons (ps_set (i := 3) sc_law_lowest.nd rfl (Or.inl rfl) (pe_callB call_abs (by rfl) T.z_abs L2.B.boot_abs (pa_cons (pv 1) pa_nil)))
        (pss_cons (ps_while PassesOwn.never (pt_cmpR op_ne (pv 3) pc_int' (nomark _)) (pss_one (ps_par (i := 2) (j := 3) rfl sc_law_lowest.nd rfl rfl (by decide) rfl rfl (pa_cons (pv 3) (pa_cons (pe_op op_modN (pv 2) (pv 3)) pa_nil)) rfl)))
        (pss_cons (ps_if (pt_cmpR op_lt (pv 1) pc_int' (nomark _)) (pss_one (ps_set (i := 2) sc_law_lowest.nd rfl (Or.inl rfl) (pe_op op_sub pc_int' (pv 2)))) pss_nil)
        (pss_one (ps_ret (pe_tup (pa_cons (pe_op op_fdivG (pv 0) (pv 2)) (pa_cons (pe_op op_fdivG (pv 1) (pv 2)) pa_nil))))))))), ?_⟩
  have hd : ∀ i, DivOk i (shr t b) := fun i => .of (shr_ne hb) (shr_bt hb hB)
  have fin : ∀ p, H p = none → Q (.ref p) (upd H p (.tup [.int (t.fdiv (shr t b)), .int (b.fdiv (shr t b))])) := fun p hp => by
    refine k _ _ (same_new hp _) ⟨p, rfl, ?_⟩
    rw [upd_same, low_num hb, low_den hb]
    rfl
  refine ⟨_, rfl, _, rfl, _, rfl, _, rfl, ?_⟩
  refine ⟨fun m σ H1 => ∃ (x y : Int), σ = [some (.int t), some (.int b), some (.int x), some (.int y)] ∧ H1 = H ∧ 0 ≤ x ∧ 0 ≤ y ∧ Int.gcd x y = Int.gcd t b ∧ m = y.toNat, ⟨_, _, _, rfl, rfl, ?_, ?_, ?_, rfl⟩, ?_⟩
  · split <;> omega
  · split <;> omega
  · rw [abs_eq, abs_eq, Int.gcd_eq_natAbs_gcd_natAbs, Int.natAbs_natCast, Int.natAbs_natCast]; rfl
  rintro m σ H1 ⟨x, y, rfl, rfl, hx, hy, hg, rfl⟩
  refine ⟨_, rfl, rfl, _, rfl, ?_⟩
  refine ite2 (fun c => ?_) (fun c => ?_)
  · have hy0 : y ≠ 0 := by
      rintro rfl
      simp at c
    refine ⟨_, fun σ' H' q => q, _, rfl, _, rfl, _, rfl, _, _, rfl, rfl, hy0, _, _, rfl, ?_⟩
    have hm : x.fmod y = x % y := fmod_pos (by omega)
    have h1 : 0 ≤ x % y := Int.emod_nonneg x hy0
    have h2 : x % y < y := Int.emod_lt_of_pos x (by omega)
    refine ⟨(x.fmod y).toNat, by omega, y, x.fmod y, rfl, rfl, hy, by omega, ?_, rfl⟩
    rw [gcd_step hx (by omega), hg]
  · have hy0 : y = 0 := by
      by_cases e : y = 0
      · exact e
      · exact absurd (by simp [e]) c
    subst hy0
    have e : x = (Int.gcd t b : Int) := by
      rw [← hg, Int.gcd_zero_right]
      omega
    subst e
    refine ⟨_, rfl, _, _, rfl, rfl, _, rfl, ?_⟩
    refine ite2 (fun c => ?_) (fun c => ?_)
    · have c' : b < 0 := of_decide_eq_true c
      have e : 0 - (Int.gcd t b : Int) = shr t b := by unfold shr; rw [if_pos c']; omega
      refine ⟨_, rfl, _, _, rfl, rfl, ?_⟩
      dsimp only
      rw [e]
      exact ⟨_, rfl, _, rfl, _, _, rfl, rfl, hd _, _, rfl, _, rfl, _, _, rfl, rfl, hd _, two_le, fun p hp => fin p hp⟩
    · have c' : ¬ b < 0 := fun z => c (decide_eq_true z)
      have e : (Int.gcd t b : Int) = shr t b := by unfold shr; rw [if_neg c']
      rw [e]
      exact ⟨_, rfl, _, rfl, _, _, rfl, rfl, hd _, _, rfl, _, rfl, _, _, rfl, rfl, hd _, two_le, fun p hp => fin p hp⟩
theorem ok_law_lowest (T : Txt K mg) : FnOk P w K mg base CX0 1 T.f_law_lowest T.fd_law_lowest ["top", "bottom"] (spD K SLow) := FnOk.lowD (okP_law_lowest T)
theorem sc_law_figures : FnScope ["pool", "found", "turn"] ["pool"] (defScope s_law_figures) := ⟨rfl, rfl, rfl, by decide +kernel, rfl, by decide +kernel, by decide +kernel⟩
theorem okP_law_figures (T : Txt K mg) : FnOk P w K mg base CX0 2 T.f_law_figures T.fd_law_figures ["pool"] (spFigures) := by
  have G_law_take := okP_law_take (P := P) (w := w) (base := base) T
  refine T.F_law_figures.ok sc_law_figures (fun vs H Q E h => by obtain ⟨_, _, rfl, _⟩ := h; rfl) (fun cdv A outer s H vs Q E hr h => ?_)
  have hu := hr.units
  obtain ⟨p, n, rfl, hp, hn, q⟩ := h
  refine ⟨_, (pss_cons (ps_set (i := 1) sc_law_figures.nd rfl (Or.inl rfl) pc_int')
        (pss_cons (ps_for PassesOwn.never rfl (pi_range1 (by rfl) T.z_range (pa_cons (pe_ix (ix_listK (K := K) (by rfl)) (pe_lst (pa_cons pc_int' (pa_cons pc_int' (pa_cons pc_int' (pa_cons pc_int' pa_nil))))) (pe_call G_law_take (hr.mono (by decide)) (by rfl) T.m_law_take T.F_law_take.kp T.b_law_take .nil pass0 (pa_cons (pv 0) (pa_cons pc_int' pa_nil))) (fun _ _ => rfl)) pa_nil)) (pg_name (i := 2) sc_law_figures.nd (by rfl) (by first | exact Or.inl rfl | exact Or.inr rfl))
        (pss_one (ps_set (i := 1) sc_law_figures.nd rfl (Or.inl rfl) (pe_op op_add (pe_op op_mulG (pv 1) (pe_op op_powG pc_int' pc_int')) (pe_call G_law_take (hr.mono (by decide)) (by rfl) T.m_law_take T.F_law_take.kp T.b_law_take .nil pass0 (pa_cons (pv 0) (pa_cons (pe_op op_powG pc_int' pc_int') pa_nil)))))))
        (pss_one (ps_ret (pe_op op_modN (pv 1) (pe_op op_powG pc_int' pc_int')))))), ?_⟩
  have h9 : CPow 10 9 := ⟨by decide, by decide, by decide⟩
  have h40 : CPow 10 40 := ⟨by decide, by decide, by decide⟩
  refine ⟨(by show 4 ≤ sizeLine; decide), fun l hl => ?_⟩
  refine ⟨_, rfl, p, n, 4, rfl, hp.same (same_new hl _), by omega, by decide, bt9 (by decide), fun r H1 r0 r1 b1 p1 => ?_⟩
  have hlp : l ≠ p := by
    obtain ⟨xs, e⟩ := hp.at
    exact fun z => by subst z; rw [hl] at e; cases e
  have hl1 : H1 l = some (.lst [.int 1, .int 2, .int 3, .int 5]) := b1 l _ hlp upd_same
  have but1 : But p H H1 := (same_new hl _).but p |>.trans b1
  obtain ⟨m, hm, hm5⟩ : ∃ m : Int, atI [V.int 1, V.int 2, V.int 3, V.int 5] r = some (.int m) ∧ 0 ≤ m ∧ m ≤ 5 := by
    have : r = 0 ∨ r = 1 ∨ r = 2 ∨ r = 3 := by omega
    rcases this with rfl | rfl | rfl | rfl
    · exact ⟨1, rfl, by decide, by decide⟩
    · exact ⟨2, rfl, by decide, by decide⟩
    · exact ⟨3, rfl, by decide, by decide⟩
    · exact ⟨5, rfl, by decide, by decide⟩
  refine ⟨l, _, _, _, rfl, rfl, SqL.of hl1, hm, m, rfl, by omega, by omega, ?_⟩
  refine for_range (n := m.toNat) (fun i σ H2 => ∃ (f : Int) (t : Option V), σ = [some (.ref p), some (.int f), t] ∧ But p H H2 ∧ Pl H2 p (n + 1 + i) ∧ Bt (100 * i + 1) f ∧ 0 ≤ f) ⟨0, none, rfl, but1, p1, bt_lit (by decide), by decide⟩ ?_ ?_
  · rintro i σ H2 hi ⟨f, t, rfl, b2, p2, B, f0⟩
    have B9 : Bt 30 ((10 : Int) ^ (9 : Int).toNat) := bt_lit (by decide)
    have e9 : ((10 : Int) ^ (9 : Int).toNat) = 1000000000 := by decide
    refine ⟨_, rfl, _, _, rfl, rfl, h9, _, _, rfl, rfl, B.mulOk B9 (by omega), _, rfl, _, _, rfl, rfl, h9, p, _, _, rfl, p2, by omega, by decide, bt9 (by decide), fun r2 H3 a0 a1 b3 p3 => ?_⟩
    refine ⟨_, _, rfl, rfl, _, _, rfl, b2.trans b3, ?_, ?_, ?_⟩
    · exact p3.mono (by omega)
    · have B2 : Bt 30 r2 := .of_lt (by omega) (by omega)
      exact ((B.mul B9).add B2).mono (by omega)
    · have := Int.mul_nonneg f0 (show (0 : Int) ≤ 10 ^ (9 : Int).toNat by decide)
      show 0 ≤ f * 10 ^ (9 : Int).toNat + r2
      omega
  · rintro σ H2 ⟨f, t, rfl, b2, p2, B, f0⟩
    refine ⟨_, rfl, _, _, rfl, rfl, h40, _, _, rfl, rfl, (show ((10 : Int) ^ (40 : Int).toNat) ≠ 0 by decide), ?_⟩
    dsimp only
    have e : f.fmod ((10 : Int) ^ (40 : Int).toNat) = f % 10 ^ 40 := fmod_pos (by decide)
    rw [e]
    exact q _ _ (Int.emod_nonneg _ (by decide)) (Int.emod_lt_of_pos _ (by decide)) b2 (p2.mono (by omega))
theorem ok_law_figures (T : Txt K mg) : FnOk P w K mg base CX0 2 T.f_law_figures T.fd_law_figures ["pool"] (spI K SFigs) := FnOk.figsI (okP_law_figures T)
theorem sc_law_distance : FnScope ["pool", "kind", "some"] ["pool"] (defScope s_law_distance) := ⟨rfl, rfl, rfl, by decide +kernel, rfl, by decide +kernel, by decide +kernel⟩
theorem ok_law_distance (T : Txt K mg) : FnOk P w K mg base CX0 3 T.f_law_distance T.fd_law_distance ["pool"] (spI K (SDist)) := by
  have G_law_take := ok_law_take (P := P) (w := w) (base := base) T
  have G_law_lowest := ok_law_lowest (P := P) (w := w) (base := base) T
  have G_law_figures := ok_law_figures (P := P) (w := w) (base := base) T
  refine T.F_law_distance.okI sc_law_distance (fun t ds k h => by obtain ⟨_, _, rfl, _⟩ := h; rfl) (fun cdv A outer s H E hr => ?_)
  have hu := hr.units
  refine ⟨_, (mss_cons (ms_set (i := 1) sc_law_distance.nd rfl (Or.inl rfl) (m_callI (i := 0) G_law_take (hr.mono (by decide)) (by rfl) T.m_law_take T.F_law_take.kp T.b_law_take pass0 (ma_cons mc_int ma_nil (by first | exact Or.inl rfl | exact Or.inr rfl))))
      (mss_cons (ms_if (mt_cmp op_lt p2_cmp (mv 1) mc_int (by first | exact Or.inl rfl | exact Or.inr rfl) (nomark _)) (mss_one (ms_ret (m_tup (ma_cons mc_int (ma_cons mc_int ma_nil (by first | exact Or.inl rfl | exact Or.inr rfl)) (by first | exact Or.inl rfl | exact Or.inr rfl))))) mss_nil)
      (mss_cons (ms_if (mt_cmp op_lt p2_cmp (mv 1) mc_int (by first | exact Or.inl rfl | exact Or.inr rfl) (nomark _)) (mss_one (ms_ret (m_call G_law_lowest (hr.mono (by decide)) (by rfl) T.m_law_lowest T.F_law_lowest.kp T.b_law_lowest pass0 (ma_cons (m_opS op_add p2_int0 mc_int (m_callI (i := 0) G_law_take (hr.mono (by decide)) (by rfl) T.m_law_take T.F_law_take.kp T.b_law_take pass0 (ma_cons mc_int ma_nil (by first | exact Or.inl rfl | exact Or.inr rfl))) (by first | exact Or.inl rfl | exact Or.inr rfl)) (ma_cons (m_ix (ix_seqK rfl) p2_ix (m_lst (ma_cons mc_int (ma_cons mc_int (ma_cons mc_int (ma_cons mc_int ma_nil (by first | exact Or.inl rfl | exact Or.inr rfl)) (by first | exact Or.inl rfl | exact Or.inr rfl)) (by first | exact Or.inl rfl | exact Or.inr rfl)) (by first | exact Or.inl rfl | exact Or.inr rfl))) (m_callI (i := 0) G_law_take (hr.mono (by decide)) (by rfl) T.m_law_take T.F_law_take.kp T.b_law_take pass0 (ma_cons mc_int ma_nil (by first | exact Or.inl rfl | exact Or.inr rfl))) (by first | exact Or.inl rfl | exact Or.inr rfl) (fun _ _ => rfl)) ma_nil (by first | exact Or.inl rfl | exact Or.inr rfl)) (by first | exact Or.inl rfl | exact Or.inr rfl))))) mss_nil)
      (mss_cons (ms_set (i := 2) sc_law_distance.nd rfl (Or.inl rfl) (m_lst (ma_cons (m_opS op_add p2_int0 mc_int (m_callI (i := 0) G_law_take (hr.mono (by decide)) (by rfl) T.m_law_take T.F_law_take.kp T.b_law_take pass0 (ma_cons mc_int ma_nil (by first | exact Or.inl rfl | exact Or.inr rfl))) (by first | exact Or.inl rfl | exact Or.inr rfl)) (ma_cons (m_opS op_add p2_int0 mc_int (m_opS op_modN p2_int (m_callI (i := 0) G_law_figures (hr.mono (by decide)) (by rfl) T.m_law_figures T.F_law_figures.kp T.b_law_figures pass0 ma_nil) (m_opS op_sub p2_int0 (m_opS op_powG p2_pow mc_int mc_int (by first | exact Or.inl rfl | exact Or.inr rfl)) mc_int (by first | exact Or.inl rfl | exact Or.inr rfl)) (by first | exact Or.inl rfl | exact Or.inr rfl)) (by first | exact Or.inl rfl | exact Or.inr rfl)) ma_nil (by first | exact Or.inl rfl | exact Or.inr rfl)) (by first | exact Or.inl rfl | exact Or.inr rfl))))
      (mss_one (ms_ret (m_call G_law_lowest (hr.mono (by decide)) (by rfl) T.m_law_lowest T.F_law_lowest.kp T.b_law_lowest pass0 (ma_cons (m_callI (i := 0) G_law_figures (hr.mono (by decide)) (by rfl) T.m_law_figures T.F_law_figures.kp T.b_law_figures pass0 ma_nil) (ma_cons (m_ix (ix_seqK rfl) p2_ix (mv 2) (m_callI (i := 0) G_law_take (hr.mono (by decide)) (by rfl) T.m_law_take T.F_law_take.kp T.b_law_take pass0 (ma_cons mc_int ma_nil (by first | exact Or.inl rfl | exact Or.inr rfl))) (by first | exact Or.inl rfl | exact Or.inr rfl) (fun _ _ => rfl)) ma_nil (by first | exact Or.inl rfl | exact Or.inr rfl)) (by first | exact Or.inl rfl | exact Or.inr rfl))))))))), fun t ds k h => ?_⟩
  obtain ⟨m, hp, rfl, hm, hk⟩ := h
  walk_at "m"
  refine ⟨m, 7, hp, rfl, by omega, by decide, bt9 (by decide), fun r t1 r0 r1 p1 => ?_⟩
  walk_at "m"
  refine ite2 (fun c => ⟨by decide, hk 0 _ (by decide) (Pq_int (i := 0) (by decide) (by decide)) (p1.mono (by omega))⟩) (fun c => ?_)
  refine ite2 (fun c => ?_) (fun c => ?_)
  · refine ⟨_, 9, p1, rfl, by omega, by decide, bt9 (by decide), fun r2 t2 r20 r21 p2 => ?_⟩
    walk_at "m"
    refine ⟨by decide, _, 4, p2, rfl, by omega, by decide, bt9 (by decide), fun r3 t3 r30 r31 p3 => ?_⟩
    walk_at "m"
    obtain ⟨b, hb, e⟩ := ix_ints [1, 1, 2, 3] r30 r31
    rw [show ixD (.list [.int 1, .int 1, .int 2, .int 3]) (.int r3) = _ from e]
    simp only [OT.data_fz]
    have hb1 : 1 ≤ b ∧ b ≤ 3 := by
      simp at hb
      omega
    refine ⟨_, _, rfl, by omega, bt9 (by omega), ?_⟩
    exact hk _ _ (divInt_nn (by omega) (by omega)) ⟨divInt_nn (by omega) (by omega), bq_divInt (by omega) (.mono (m := 10) (bt_of (by omega) (by omega)) (by decide)) (.mono (m := 10) (bt_of (by omega) (by omega)) (by decide))⟩ (p3.mono (by omega))
  walk_at "m"
  refine ⟨_, 9, p1, rfl, by omega, by decide, bt9 (by decide), fun r2 t2 r20 r21 p2 => ?_⟩
  walk_at "m"
  refine ⟨_, p2, rfl, by omega, fun g t3 g0 g1 p3 => ?_⟩
  walk_at "m"
  refine ⟨⟨⟨by decide, by decide, by decide⟩⟩, ?_⟩
  rw [p10_40]
  refine ⟨by decide, by decide, ?_⟩
  generalize hbt : 1 + g.fmod (10000000000000000000000000000000000000000 - 1) = bottom
  have b0 : 1 ≤ bottom ∧ bottom ≤ 10000000000000000000000000000000000000000 := by
    rw [← hbt, fmod_pos (by decide)]
    have := Int.emod_nonneg g (b := 10000000000000000000000000000000000000000 - 1) (by decide)
    have := Int.emod_lt_of_pos g (b := 10000000000000000000000000000000000000000 - 1) (by decide)
    omega
  have bb : Bt 134 bottom := bt_of (by omega) (Int.lt_of_le_of_lt b0.2 (by decide +kernel))
  walk_at "m"
  refine ⟨_, p3, rfl, by omega, fun f t4 f0 f1 p4 => ?_⟩
  walk_at "m"
  refine ⟨_, 2, p4, rfl, by omega, by decide, bt9 (by decide), fun c2 t5 c20 c21 p5 => ?_⟩
  walk_at "m"
  have bf : Bt 134 f := bt_of f0 (Int.lt_trans f1 (by decide +kernel))
  have b1 : Bt 134 (1 + r2) := .mono (m := 10) (bt_of (by omega) (by omega)) (by decide)
  obtain ⟨d, hd, e⟩ := ix2 (d1 := .int (1 + r2)) (d2 := .int bottom) c20 c21
  rw [e]
  have key : ∀ b : Int, 1 ≤ b → Bt 134 b → d = .int b → SLow [.int f, d] fun r => k r t5 := fun b hb hB z => by
    subst z
    exact ⟨f, b, rfl, by omega, hB.mono (by decide), hk _ _ (divInt_nn f0 (by omega)) ⟨divInt_nn f0 (by omega), bq_divInt (by omega) bf hB⟩ (p5.mono (by omega))⟩
  rcases hd with z | z
  · exact key _ (by omega) b1 z
  · exact key _ b0.1 bb z
theorem sc_law_table : FnScope ["pool", "many", "kind", "found", "one", "other", "far"] ["pool", "many"] (defScope s_law_table) := ⟨rfl, rfl, rfl, by decide +kernel, rfl, by decide +kernel, by decide +kernel⟩
theorem ok_law_table (T : Txt K mg) : FnOk P w K mg base CX0 4 T.f_law_table T.fd_law_table ["pool", "many"] (spI K (STab 4000 700000000)) := by
  have G_law_take := ok_law_take (P := P) (w := w) (base := base) T
  have G_law_line := ok_law_line (P := P) (w := w) (base := base) T
  have G_law_distance := ok_law_distance (P := P) (w := w) (base := base) T
  refine T.F_law_table.okI sc_law_table (fun t ds k h => by obtain ⟨_, _, _, rfl, _⟩ := h; rfl) (fun cdv A outer s H E hr => ?_)
  have hu := hr.units
  refine ⟨_, (mss_cons (ms_if (mt_cmp (op_eqA hu) p2_eq (m_callI (i := 0) G_law_take (hr.mono (by decide)) (by rfl) T.m_law_take T.F_law_take.kp T.b_law_take pass0 (ma_cons mc_int ma_nil (by first | exact Or.inl rfl | exact Or.inr rfl))) mc_int (by first | exact Or.inl rfl | exact Or.inr rfl) (nomark _)) (mss_one (ms_ret (m_callI (i := 0) G_law_line (hr.mono (by decide)) (by rfl) T.m_law_line T.F_law_line.kp T.b_law_line pass0 (ma_cons (mv 1) ma_nil (by first | exact Or.inl rfl | exact Or.inr rfl))))) mss_nil)
      (mss_cons (ms_set (i := 2) sc_law_table.nd rfl (Or.inl rfl) (m_callI (i := 0) G_law_take (hr.mono (by decide)) (by rfl) T.m_law_take T.F_law_take.kp T.b_law_take pass0 (ma_cons mc_int ma_nil (by first | exact Or.inl rfl | exact Or.inr rfl))))
      (mss_cons (ms_setcomp (i := 3) (own := ["one"]) (caps := [1]) (N' := ["one", "many"]) true sc_law_table.nd rfl (Or.inl rfl) (by exact ⟨rfl, by decide +kernel, rfl, by decide +kernel, rfl, rfl⟩) (by rfl) (by decide) (mi_range1 (by rfl) T.z_range (ma_cons (mv 1) ma_nil (by first | exact Or.inl rfl | exact Or.inr rfl))) (fun _ _ _ _ _ => (mg_name (i := 0) (by show List.Nodup (["one", "many"] : List Str); decide +kernel) (by rfl) (by first | exact Or.inl rfl | exact Or.inr rfl))) (fun _ _ _ _ _ => mif_nil) (fun _ _ _ _ _ => (m_comp (own := ["other"]) (caps := []) (N' := ["other"]) (by exact ⟨rfl, by decide +kernel, rfl, by decide +kernel, rfl, rfl⟩) (by rfl) (by decide) (mi_range1 (by rfl) T.z_range (ma_cons (mv 1) ma_nil (by first | exact Or.inl rfl | exact Or.inr rfl))) (fun _ _ _ _ _ => (mg_name (i := 0) (by show List.Nodup (["other"] : List Str); decide +kernel) (by rfl) (by first | exact Or.inl rfl | exact Or.inr rfl))) (fun _ _ _ _ _ => mif_nil) (fun _ _ _ _ _ => (m_tup (ma_cons mc_int (ma_cons mc_int ma_nil (by first | exact Or.inl rfl | exact Or.inr rfl)) (by first | exact Or.inl rfl | exact Or.inr rfl)))))))
      (mss_cons (ms_for PassesOwn.never rfl (mi_range1 (by rfl) T.z_range (ma_cons (mv 1) ma_nil (by first | exact Or.inl rfl | exact Or.inr rfl))) (mg_name (i := 4) sc_law_table.nd (by rfl) (by first | exact Or.inl rfl | exact Or.inr rfl))
      (mss_one (ms_for PassesOwn.never rfl (mi_range1 (by rfl) T.z_range (ma_cons (mv 4) ma_nil (by first | exact Or.inl rfl | exact Or.inr rfl))) (mg_name (i := 5) sc_law_table.nd (by rfl) (by first | exact Or.inl rfl | exact Or.inr rfl))
      (mss_cons (ms_set (i := 6) sc_law_table.nd rfl (Or.inl rfl) (m_ix (ix_seqK rfl) p2_ix (m_lst (ma_cons (m_callI (i := 0) G_law_distance (hr.mono (by decide)) (by rfl) T.m_law_distance T.F_law_distance.kp T.b_law_distance pass0 ma_nil) (ma_cons (m_tup (ma_cons (m_opS op_add p2_int0 mc_int (m_callI (i := 0) G_law_take (hr.mono (by decide)) (by rfl) T.m_law_take T.F_law_take.kp T.b_law_take pass0 (ma_cons mc_int ma_nil (by first | exact Or.inl rfl | exact Or.inr rfl))) (by first | exact Or.inl rfl | exact Or.inr rfl)) (ma_cons mc_int ma_nil (by first | exact Or.inl rfl | exact Or.inr rfl)) (by first | exact Or.inl rfl | exact Or.inr rfl))) (ma_cons (m_tup (ma_cons (m_callI (i := 0) G_law_take (hr.mono (by decide)) (by rfl) T.m_law_take T.F_law_take.kp T.b_law_take pass0 (ma_cons mc_int ma_nil (by first | exact Or.inl rfl | exact Or.inr rfl))) (ma_cons mc_int ma_nil (by first | exact Or.inl rfl | exact Or.inr rfl)) (by first | exact Or.inl rfl | exact Or.inr rfl))) ma_nil (by first | exact Or.inl rfl | exact Or.inr rfl)) (by first | exact Or.inl rfl | exact Or.inr rfl)) (by first | exact Or.inl rfl | exact Or.inr rfl))) (mv 2) (by first | exact Or.inl rfl | exact Or.inr rfl) (fun _ _ => rfl)))
      (mss_cons (ms_put2 3 (mv 6) (mv 4) (mv 5) (fun _ _ => rfl))
      (mss_one (ms_put2 3 (mv 6) (mv 5) (mv 4) (fun _ _ => rfl))))))))
      (mss_one (ms_retO 3)))))), fun t ds k h => ?_⟩
  obtain ⟨m, n, hp, rfl, hn1, hn2, hm, hk⟩ := h
  walk_at "m"
  refine ⟨m, 4, hp, rfl, by omega, by decide, bt9 (by decide), fun r t1 r0 r1 p1 => ?_⟩
  walk_at "m"
  refine ite2 (fun c => ?_) (fun c => ?_)
  · refine ⟨_, n, p1, rfl, hn1, hn2, by omega, fun T t' h1 h2 h3 h4 => ?_⟩
    walk_at "m"
    exact hk T t' h1 h2 h3 (h4.mono (by omega))
  refine ⟨_, 3, p1, rfl, by omega, by decide, bt9 (by decide), fun kind t2 k0 k1 p2 => ?_⟩
  walk_at "m"
  refine ⟨⟨by omega, by omega⟩, ?_⟩
  have hz : (rngD 0 n).length ≤ sizeLine := by rw [rngD_length]; exact Nat.le_trans hn2 (by decide)
  refine comp_map (cs := [some (.fz (.int n))]) (fun i => .nd ((List.range n).map fun j => .fz (frD 0))) hz rfl ?_ ?_
  · intro i d z hd
    walk_at "m"
    refine ⟨⟨by omega, by omega⟩, ?_⟩
    refine comp_map (cs := []) (fun j => .fz (frD 0)) hz rfl ?_ ?_
    · intro j d z hd
      walk_at "m"
      exact ⟨by decide, .of rfl⟩
    · rw [rngD_length]
      exact .of rfl
  rw [rngD_length, ← mkT_tree n (fun _ _ => 0)]
  walk_at "m"
  refine ⟨⟨by omega, by omega⟩, ?_⟩
  refine for_rng (fun i δ => ∃ T t' x y z, δ = [some t', some (.fz (.int n)), some (.fz (.int kind)), some (tbT T), x, y, z] ∧ PlT t' (m + 2 + 300 * i) ∧ Sq n T ∧ Zd n T ∧ PqT n T) ⟨_, _, _, _, _, rfl, p2.mono (by omega), mkT_sq n _, ⟨fun i hi => by rw [mkT_dd hi hi], fun i j hi hj => by rw [mkT_dd hi hj, mkT_dd hj hi]; exact ⟨by decide, rfl⟩⟩, fun i j hi hj => by rw [mkT_dd hi hj]; exact Pq_int (i := 0) (by decide) (by decide)⟩ ?_ ?_
  · rintro i _ hi ⟨T, t3, x, y, z, rfl, p3, hS, hZ, hB⟩
    walk_at "m"
    refine ⟨⟨by omega, by omega⟩, ?_⟩
    refine for_rng (fun j δ => ∃ T t' y z, δ = [some t', some (.fz (.int n)), some (.fz (.int kind)), some (tbT T), some (.fz (.int i)), y, z] ∧ PlT t' (m + 2 + 300 * i + 25 * j) ∧ Sq n T ∧ Zd n T ∧ PqT n T) ⟨_, _, _, _, rfl, p3.mono (by omega), hS, hZ, hB⟩ ?_ ?_
    · rintro j _ hj ⟨T, t4, y, z, rfl, p4, hS, hZ, hB⟩
      have hj' : j < n := by omega
      walk_at "m"
      refine ⟨_, p4, rfl, by omega, fun q t5 q0 hq p5 => ?_⟩
      walk_at "m"
      refine ⟨_, 4, p5, rfl, by omega, by decide, bt9 (by decide), fun a t6 a0 a1 p6 => ?_⟩
      walk_at "m"
      refine ⟨by decide, _, 3, p6, rfl, by omega, by decide, bt9 (by decide), fun b t7 b0 b1 p7 => ?_⟩
      walk_at "m"
      refine ⟨by decide, by decide, ?_⟩
      have key : ∃ far : Rat, 0 ≤ far ∧ Pq far ∧ ixD (.list [frD q, .tuple [.int (3 + a), .int 1], .tuple [.int b, .int 1]]) (.int kind) = some (frD far) := by
        obtain ⟨d, hd, e⟩ := ix3 (d1 := frD q) (d2 := .tuple [.int (3 + a), .int 1]) (d3 := .tuple [.int b, .int 1]) k0 k1
        rcases hd with rfl | rfl | rfl
        · exact ⟨q, q0, hq, e⟩
        · exact ⟨((3 + a : Int) : Rat), Rat.intCast_nonneg.mpr (by omega), Pq_int (by omega) (by omega), by rw [← frD_int]; exact e⟩
        · exact ⟨(b : Rat), Rat.intCast_nonneg.mpr (by omega), Pq_int (by omega) (by omega), by rw [← frD_int]; exact e⟩
      obtain ⟨far, f0, fB, e⟩ := key
      rw [e]
      walk_at "m"
      rw [tb_nd]
      walk_at "m"
      have hS1 := setT_sq (j := j) (q := far) hS hi
      simp only [hS.ixN hi, hS.rowAt hi, hS.ixN2 hi hj']
      rw [setT_tree, tb_nd]
      walk_at "m"
      simp only [hS1.ixN hj', hS1.rowAt hj', hS1.ixN2 hj' hi]
      rw [setT_tree]
      exact ⟨set2 T i j far, t7, _, _, rfl, p7.mono (by omega), set2_sq hS hi hj', set2_zd hS hi hj' (by omega) hZ f0, set2_pq hS hi hj' hB fB⟩
    · rintro _ ⟨T, t4, y, z, rfl, p4, hS, hZ, hB⟩
      exact ⟨T, t4, _, _, _, rfl, p4.mono (by omega), hS, hZ, hB⟩
  · rintro _ ⟨T, t3, x, y, z, rfl, p3, hS, hZ, hB⟩
    walk_at "m"
    exact hk T _ hS hZ hB (p3.mono (by omega))
theorem sc_law_copied : FnScope ["table"] ["table"] (defScope s_law_copied) := ⟨rfl, rfl, rfl, by decide +kernel, rfl, by decide +kernel, by decide +kernel⟩
theorem ok_law_copied (T : Txt K mg) : FnOk P w K mg base CX0 1 T.f_law_copied T.fd_law_copied ["table"] (spD K (SCopied)) := by
  refine T.F_law_copied.okD sc_law_copied (fun ds k h => by obtain ⟨_, _, rfl, _⟩ := h; rfl) (fun cdv A outer s H E hr => ?_)
  have hu := hr.units
  refine ⟨_, (mss_one (ms_ret (m_comp (own := ["row"]) (caps := []) (N' := ["row"]) (by exact ⟨rfl, by decide +kernel, rfl, by decide +kernel, rfl, rfl⟩) (by rfl) (by decide) (mi_list (mv 0)) (fun _ _ _ _ _ => (mg_name (i := 0) (by show List.Nodup (["row"] : List Str); decide +kernel) (by rfl) (by first | exact Or.inl rfl | exact Or.inr rfl))) (fun _ _ _ _ _ => mif_nil) (fun _ _ _ _ _ => (m_ty pn_list (call_listK rfl) (by rfl) T.z_list L2.B.boot_list (ma_cons (mv 0) ma_nil (by first | exact Or.inl rfl | exact Or.inr rfl))))))), fun ds k h => ?_⟩
  obtain ⟨W, n, rfl, hS, hn, hk⟩ := h
  walk_at "m"
  rw [tb_list]
  exact comp_copy (by rw [hS.1, sizeLine_eq]; omega) rfl (hk _ (tbT_data W))
theorem sc_law_points : FnScope ["pool", "many", "left", "found", "turn"] ["pool", "many"] (defScope s_law_points) := ⟨rfl, rfl, rfl, by decide +kernel, rfl, by decide +kernel, by decide +kernel⟩
theorem ok_law_points (T : Txt K mg) : FnOk P w K mg base CX0 2 T.f_law_points T.fd_law_points ["pool", "many"] (spI K (SPts)) := by
  have G_law_take := ok_law_take (P := P) (w := w) (base := base) T
  refine T.F_law_points.okI sc_law_points (fun t ds k h => by obtain ⟨_, _, _, rfl, _⟩ := h; rfl) (fun cdv A outer s H E hr => ?_)
  have hu := hr.units
  refine ⟨_, (mss_cons (ms_setO (i := 2) sc_law_points.nd rfl (Or.inl rfl) (m_lrange1 (by rfl) (by rfl) T.z_list L2.B.boot_list (by rfl) T.z_range L2.B.boot_range (ma_cons (mv 1) ma_nil (by first | exact Or.inl rfl | exact Or.inr rfl))))
      (mss_cons (ms_setO (i := 3) sc_law_points.nd rfl (Or.inl rfl) (m_lst ma_nil))
      (mss_cons (ms_for PassesOwn.never rfl (mi_range1 (by rfl) T.z_range (ma_cons (m_ix (ix_seqK rfl) p2_ix (m_lst (ma_cons (m_opS op_add p2_int0 mc_int (m_callI (i := 0) G_law_take (hr.mono (by decide)) (by rfl) T.m_law_take T.F_law_take.kp T.b_law_take pass0 (ma_cons (mv 1) ma_nil (by first | exact Or.inl rfl | exact Or.inr rfl))) (by first | exact Or.inl rfl | exact Or.inr rfl)) (ma_cons (mv 1) ma_nil (by first | exact Or.inl rfl | exact Or.inr rfl)) (by first | exact Or.inl rfl | exact Or.inr rfl))) (m_callI (i := 0) G_law_take (hr.mono (by decide)) (by rfl) T.m_law_take T.F_law_take.kp T.b_law_take pass0 (ma_cons mc_int ma_nil (by first | exact Or.inl rfl | exact Or.inr rfl))) (by first | exact Or.inl rfl | exact Or.inr rfl) (fun _ _ => rfl)) ma_nil (by first | exact Or.inl rfl | exact Or.inr rfl))) (mg_name (i := 4) sc_law_points.nd (by rfl) (by first | exact Or.inl rfl | exact Or.inr rfl))
      (mss_one (ms_append 3 (m_pop 2 (m_callI (i := 0) G_law_take (hr.mono (by decide)) (by rfl) T.m_law_take T.F_law_take.kp T.b_law_take pass0 (ma_cons (m_blS pn_len (call_lenK rfl) (by rfl) T.z_len L2.B.boot_len (ma_cons (mo 2) ma_nil (by first | exact Or.inl rfl | exact Or.inr rfl))) ma_nil (by first | exact Or.inl rfl | exact Or.inr rfl)))))))
      (mss_one (ms_retO 3))))), fun t ds k h => ?_⟩
  obtain ⟨m, n, hp, rfl, hn, hn', hm, hk⟩ := h
  walk_at "m"
  refine ⟨⟨by omega, by omega, (by rw [sizeLine_eq]; omega)⟩, ?_⟩
  walk_at "m"
  refine ⟨by decide, ?_⟩
  try walk_at "m"
  refine ⟨_, (n : Int), hp, rfl, by omega, by omega, bt9 (by omega), fun r1 t1 r10 r11 p1 => ?_⟩
  try walk_at "m"
  refine ⟨by decide, _, 2, p1, rfl, by omega, by decide, bt9 (by decide), fun r2 t2 r20 r21 p2 => ?_⟩
  try walk_at "m"
  obtain ⟨c, c1, c2, e⟩ : ∃ c : Nat, 1 ≤ c ∧ c ≤ n ∧ ixD (.list [.int (1 + r1), .int (n : Int)]) (.int r2) = some (.int (c : Int)) := by
    obtain ⟨d, hd, e⟩ := ix2 (d1 := .int (1 + r1)) (d2 := .int (n : Int)) r20 r21
    rcases hd with rfl | rfl
    · exact ⟨(1 + r1).toNat, by omega, by omega, by rw [e]; congr 2; omega⟩
    · exact ⟨n, by omega, by omega, e⟩
  rw [e]
  try walk_at "m"
  refine ⟨⟨by omega, by omega⟩, ?_⟩
  refine for_rng (fun i δ => ∃ (ps : List Nat) (qs : List Nat) (t' : OT) (z : Option OT), δ = [some t', some (.fz (.int n)), some (.nd (qs.map fun i : Nat => OT.fz (.int i))), some (.nd (ps.map fun i : Nat => OT.fz (.int i))), z] ∧ PlT t' (m + 2 + i) ∧ ps.length = i ∧ (ps ++ qs).Perm (List.range n)) ⟨[], List.range n, t2, none, ?_, p2.mono (by omega), rfl, List.Perm.refl _⟩ ?_ ?_
  · rw [show List.map OT.fz (rngD 0 n) = (List.range n).map fun i : Nat => OT.fz (.int i) by
      unfold rngD
      rw [List.map_map]
      exact List.map_congr_left fun i _ => by show OT.fz (.int (0 + (i : Int))) = _; rw [Int.zero_add]]
    rfl
  · rintro i _ hi ⟨ps, qs, t', z, rfl, p', hl, hperm⟩
    walk_at "m"
    have hq : qs.length = n - i := by
      have := hperm.length_eq
      rw [List.length_append, List.length_range, hl] at this
      omega
    simp only [List.length_map]
    refine ⟨_, (qs.length : Int), p', rfl, by omega, by omega, bt9 (by omega), fun r t2 r0 r1 p2 => ?_⟩
    obtain ⟨o, rfl⟩ : ∃ o : Nat, r = (o : Int) := ⟨r.toNat, by omega⟩
    have ho : o < qs.length := by omega
    simp only [OT.data_fz, asI_int, ixN_of ho, List.getElem?_map, List.getElem?_eq_getElem ho, Option.map_some]
    refine ⟨(by rw [sizeLine_eq]; omega), (by rw [sizeLine_eq]; omega), ps ++ [qs[o]], qs.eraseIdx o, t2, some (.fz (.int i)), ?_, p2.mono (by omega), (by simp [hl]), ?_⟩
    · rw [map_erase, List.map_append]
      rfl
    · refine List.Perm.trans ?_ hperm
      rw [List.append_assoc]
      exact List.Perm.append_left ps (erase_perm qs o ho)
  · rintro _ ⟨ps, qs, t', z, rfl, p', hl, hperm⟩
    walk_at "m"
    have hm' : ∀ p ∈ ps, p < n := fun p h => List.mem_range.mp (hperm.subset (List.mem_append_left _ h))
    have hnd : ps.Nodup := (List.nodup_append.mp (hperm.nodup_iff.mpr List.nodup_range)).1
    refine hk ps _ ⟨hm', ?_, hnd⟩ (p'.mono (by omega))
    rintro rfl
    simp at hl
    omega
theorem sc_is_point : FnScope ["table", "point"] ["table", "point"] (defScope s_is_point) := ⟨rfl, rfl, rfl, by decide +kernel, rfl, by decide +kernel, by decide +kernel⟩
theorem ok_is_point (T : Txt K mg) : FnOk P w K mg base CX0 1 T.f_is_point T.fd_is_point ["table", "point"] (spD K (SPoint)) := by
  refine T.F_is_point.okD sc_is_point (fun ds k h => by obtain ⟨_, _, _, rfl, _⟩ := h; rfl) (fun cdv A outer s H E hr => ?_)
  have hu := hr.units
  refine ⟨_, (mss_one (ms_ret (m_chain op_le op_lt mc_int (mv 1) (m_blS pn_len (call_lenK rfl) (by rfl) T.z_len L2.B.boot_len (ma_cons (mv 0) ma_nil (by first | exact Or.inl rfl | exact Or.inr rfl)))))), fun ds k h => ?_⟩
  obtain ⟨T, n, p, rfl, hS, hk⟩ := h
  have hl := hS.1
  walk_at "m"
  rw [hl]
  refine ite2 (fun c => ?_) (fun c => ?_)
  · have c' : 0 ≤ p := of_decide_eq_true c
    rw [show (decide (0 ≤ p ∧ p < (n : Int))) = decide (p < (n : Int)) by simp [c']] at hk
    exact hk
  · have c' : ¬ 0 ≤ p := fun z => c (decide_eq_true z)
    rw [show (decide (0 ≤ p ∧ p < (n : Int))) = false by simp [c']] at hk
    exact hk
theorem sc_is_part : FnScope ["table", "points", "point"] ["table", "points"] (defScope s_is_part) := ⟨rfl, rfl, rfl, by decide +kernel, rfl, by decide +kernel, by decide +kernel⟩
theorem ok_is_part (T : Txt K mg) : FnOk P w K mg base CX0 2 T.f_is_part T.fd_is_part ["table", "points"] (spD K (SIsPartG)) := by
  have G_is_point := ok_is_point (P := P) (w := w) (base := base) T
  refine T.F_is_part.okD sc_is_part (fun ds k h => by obtain ⟨_, _, _, rfl, _⟩ := h; rfl) (fun cdv A outer s H E hr => ?_)
  have hu := hr.units
  refine ⟨_, (mss_cons (ms_for PassesOwn.never rfl (mi_list (mv 1)) (mg_name (i := 2) sc_is_part.nd (by rfl) (by first | exact Or.inl rfl | exact Or.inr rfl))
      (mss_one (ms_if (mt_not (mt_tru (m_call G_is_point (hr.mono (by decide)) (by rfl) T.m_is_point T.F_is_point.kp T.b_is_point pass0 (ma_cons (mv 0) (ma_cons (mv 2) ma_nil (by first | exact Or.inl rfl | exact Or.inr rfl)) (by first | exact Or.inl rfl | exact Or.inr rfl))) (fun _ => rfl))) (mss_one (ms_ret mc_bl)) mss_nil)))
      (mss_one (ms_ret (m_and (m_cmp op_gt p2_cmp (m_blS pn_len (call_lenK rfl) (by rfl) T.z_len L2.B.boot_len (ma_cons (mv 1) ma_nil (by first | exact Or.inl rfl | exact Or.inr rfl))) mc_int (by first | exact Or.inl rfl | exact Or.inr rfl) (nomark _)) (m_one (m_cmp (op_eqA hu) p2_eq (m_lenset (by rfl) (by rfl) T.z_len L2.B.boot_len (by rfl) T.z_set L2.B.boot_set (ma_cons (mv 1) ma_nil (by first | exact Or.inl rfl | exact Or.inr rfl))) (m_blS pn_len (call_lenK rfl) (by rfl) T.z_len L2.B.boot_len (ma_cons (mv 1) ma_nil (by first | exact Or.inl rfl | exact Or.inr rfl))) (by first | exact Or.inl rfl | exact Or.inr rfl) (nomark _))))))), fun ds k h => ?_⟩
  obtain ⟨T, n, ps, rfl, hS, hn, hle, hk⟩ := h
  have hl := hS.1
  walk_at "m"
  refine for_map (fun i δ => (∃ z, δ = [some (.fz (tbD T)), some (.fz (.list (ps.map PyData.int))), z]) ∧ (ps.take i).all (inB n) = true) ⟨⟨_, rfl⟩, rfl⟩ ?_ ?_
  · rintro i p _ hp ⟨⟨z, rfl⟩, ha⟩
    walk_at "m"
    refine ⟨T, n, p, rfl, hS, ?_⟩
    walk_at "m"
    refine ite2 (fun c => ?_) (fun c => ⟨⟨_, rfl⟩, ?_⟩)
    · rw [gd_bad (List.mem_of_getElem? hp) (fun z => by rw [decide_eq_true z] at c; exact absurd c (by decide))] at hk
      exact hk
    · obtain ⟨hi, e⟩ := List.getElem?_eq_some_iff.mp hp
      rw [List.take_succ_eq_append_getElem hi, e, List.all_append, ha]
      have : inB n p = true := by
        unfold inB
        cases h : decide (0 ≤ p ∧ p < (n : Int))
        · rw [h] at c; exact absurd rfl c
        · rfl
      simp [this]
  · rintro _ ⟨⟨z, rfl⟩, ha⟩
    rw [List.take_length] at ha
    rw [gd, ha, Bool.true_and] at hk
    walk_at "m"
    rw [List.length_map]
    refine ite2 (fun c => ?_) (fun c => ?_)
    · refine ⟨ps, rfl, by omega, ?_⟩
      have c' : 0 < ps.length := by have := of_decide_eq_true c; omega
      rw [decide_eq_true c', Bool.true_and] at hk
      rw [show decide ((dedN ps : Int) = (ps.length : Int)) = decide (dedN ps = ps.length) from decide_eq_decide.mpr Int.ofNat_inj]
      exact hk
    · have c' : ¬ 0 < ps.length := fun z => c (decide_eq_true (by omega))
      rw [decide_eq_false c', Bool.false_and] at hk
      exact hk
theorem sc_part_of : FnScope ["table", "points", "part", "point"] ["table", "points"] (defScope s_part_of) := ⟨rfl, rfl, rfl, by decide +kernel, rfl, by decide +kernel, by decide +kernel⟩
theorem ok_part_of (T : Txt K mg) : FnOk P w K mg base CX0 3 T.f_part_of T.fd_part_of ["table", "points"] (spD K (SPartO)) := by
  have G_is_part := ok_is_part (P := P) (w := w) (base := base) T
  refine T.F_part_of.okD sc_part_of (fun ds k h => by obtain ⟨_, _, _, rfl, _⟩ := h; rfl) (fun cdv A outer s H E hr => ?_)
  have hu := hr.units
  refine ⟨_, (mss_cons (ms_if (mt_not (mt_tru (m_call G_is_part (hr.mono (by decide)) (by rfl) T.m_is_part T.F_is_part.kp T.b_is_part pass0 (ma_cons (mv 0) (ma_cons (mv 1) ma_nil (by first | exact Or.inl rfl | exact Or.inr rfl)) (by first | exact Or.inl rfl | exact Or.inr rfl))) (fun _ => rfl))) (mss_one ms_never) mss_nil)
      (mss_cons (ms_setO (i := 2) sc_part_of.nd rfl (Or.inl rfl) (m_lst ma_nil))
      (mss_cons (ms_for PassesOwn.never rfl (mi_list (mv 1)) (mg_name (i := 3) sc_part_of.nd (by rfl) (by first | exact Or.inl rfl | exact Or.inr rfl))
      (mss_one (ms_appendO 2 (m_comp (own := ["other"]) (caps := [0, 3]) (N' := ["other", "table", "point"]) (by exact ⟨rfl, by decide +kernel, rfl, by decide +kernel, rfl, rfl⟩) (by rfl) (by decide) (mi_list (mv 1)) (fun _ _ _ _ _ => (mg_name (i := 0) (by show List.Nodup (["other", "table", "point"] : List Str); decide +kernel) (by rfl) (by first | exact Or.inl rfl | exact Or.inr rfl))) (fun _ _ _ _ _ => mif_nil) (fun _ _ _ _ _ => (m_ix (ix_seqK rfl) p2_ix (m_ix (ix_seqK rfl) p2_ix (mv 1) (mv 2) (by first | exact Or.inl rfl | exact Or.inr rfl) (fun _ _ => rfl)) (mv 0) (by first | exact Or.inl rfl | exact Or.inr rfl) (fun _ _ => rfl)))))))
      (mss_one (ms_retO 2))))), fun ds k h => ?_⟩
  obtain ⟨T, n, ps, rfl, hS, hn, hP, hk⟩ := h
  have hle := len_le_of_lt hP.nd hP.lt
  walk_at "m"
  refine ⟨T, n, ps.map fun i : Nat => (i : Int), by rw [nats_ints], hS, hn, by rw [List.length_map]; omega, ?_⟩
  rw [gd_pts hP]
  unfold nats
  walk_at "m"
  refine iteF ?_
  walk_at "m"
  refine ⟨by decide, ?_⟩
  walk_at "m"
  have hz : (ps.map fun i : Nat => PyData.int i).length ≤ sizeLine := by rw [List.length_map, sizeLine_eq]; omega
  refine for_map (α := Nat) (f := fun i : Nat => PyData.int i) (fun i δ => ∃ z, δ = [some (.fz (tbD T)), some (.fz (.list (ps.map fun i : Nat => PyData.int i))), some (.nd ((List.range i).map fun a => rowO ps.length fun b => dd T (ps.getD a 0) (ps.getD b 0))), z]) ⟨_, rfl⟩ ?_ ?_
  · rintro i p _ hp ⟨z, rfl⟩
    obtain ⟨rfl, hi⟩ := natsGet hp
    have hp' := hP.lt _ (List.mem_of_getElem? hp)
    walk_at "m"
    refine comp_map (cs := [some (.fz (tbD T)), some (.fz (.int (ps.getD i 0 : Nat)))]) (fun b => .fz (frD (dd T (ps.getD i 0) (ps.getD b 0)))) hz rfl ?_ ?_
    · intro b d z hd
      obtain ⟨rfl, hb, hm⟩ := natsGetD hd
      have hb' := hP.lt _ hm
      walk_at "m"
      simp only [hS.ix hp', hS.ix2 hp' hb']
      exact .of rfl
    · walk_at "m"
      refine ⟨(by rw [List.length_map, List.length_range, sizeLine_eq]; omega), some (.fz (.int (ps.getD i 0 : Nat))), ?_⟩
      rw [List.length_map, List.range_succ, List.map_append]
      rfl
  · rintro _ ⟨z, rfl⟩
    walk_at "m"
    refine hk _ ?_
    have e : OT.nd ((List.range ps.length).map fun a => rowO ps.length fun b => dd T (ps.getD a 0) (ps.getD b 0)) = tbT (prt T ps) := (mkT_tree ps.length _).symm
    rw [e]
    exact own_tbT _
theorem okx_part_of (T : Txt K mg) : FnOk P w K mg base (CX1 P w) 3 T.f_part_of T.fd_part_of ["table", "points"] (spX K (fun ds cl => ∃ (T1 : List (List Rat)) (n : Nat) (ps : List Int), ds = [tbD T1, .list (ps.map PyData.int)] ∧ Sq n T1 ∧ n ≤ 1000 ∧ ps.length ≤ 1000 ∧ gd n ps = false ∧ cl = T.C_NoPoint)) := by
  have G_is_part := ok_is_part (P := P) (w := w) (base := base) T
  refine T.F_part_of.okX sc_part_of (fun ds cl h => by obtain ⟨_, _, _, rfl, _⟩ := h; rfl) (fun cdv A outer s H E hr => ?_)
  have hu := hr.units
  refine ⟨_, (xss_here (xs_if (mt_not (mt_tru (m_call G_is_part (hr.mono (by decide)) (by rfl) T.m_is_part T.F_is_part.kp T.b_is_part pass0 (ma_cons (mv 0) (ma_cons (mv 1) ma_nil (by first | exact Or.inl rfl | exact Or.inr rfl)) (by first | exact Or.inl rfl | exact Or.inr rfl))) (fun _ => rfl))) (xss_here (xs_raise rfl hr.hd (by rfl) T.mC_NoPoint T.r_NoPoint)) xss_never)), fun ds cl h => ?_⟩
  obtain ⟨T1, n, ps, rfl, hS, hn, hle, hg, rfl⟩ := h
  walk_at "m"
  refine ⟨T1, n, ps, rfl, hS, hn, hle, ?_⟩
  rw [hg]
  simp [truD]
theorem sc_law_own : FnScope ["found", "due", "row"] ["found", "due"] (defScope s_law_own) := ⟨rfl, rfl, rfl, by decide +kernel, rfl, by decide +kernel, by decide +kernel⟩
theorem ok_law_own (T : Txt K mg) : FnOk P w K mg base CX0 1 T.f_law_own T.fd_law_own ["found", "due"] (spI K (SOwn)) := by
  refine T.F_law_own.okI sc_law_own (fun t ds k h => by obtain ⟨_, _, _, rfl, _⟩ := h; rfl) (fun cdv A outer s H E hr => ?_)
  have hu := hr.units
  refine ⟨_, (mss_cons (ms_forApp 0 2 pe_str (.str _) rfl sc_law_own.nd rfl rfl (by decide) (Or.inl rfl))
      (mss_one (ms_ret (m_cmp (op_eqA hu) p2_eq (m_lens 0 (pe_comp (own := ["row"]) (caps := []) (N' := ["row"]) (by exact ⟨rfl, by decide +kernel, rfl, by decide +kernel, rfl, rfl⟩) (by rfl) (pi_listK (K := K) (by rfl) (pv 0)) (fun _ _ _ _ _ => (pg_name (i := 0) (by show List.Nodup (["row"] : List Str); decide +kernel) (by rfl) (by first | exact Or.inl rfl | exact Or.inr rfl))) (fun _ _ _ _ _ => pif_nil) (fun _ _ _ _ _ => (pe_callB (call_lenK (K := K) (by rfl)) (by rfl) T.z_len L2.B.boot_len (pa_cons (pv 0) pa_nil))))) (m_comp (own := ["row"]) (caps := []) (N' := ["row"]) (by exact ⟨rfl, by decide +kernel, rfl, by decide +kernel, rfl, rfl⟩) (by rfl) (by decide) (mi_list (mv 1)) (fun _ _ _ _ _ => (mg_name (i := 0) (by show List.Nodup (["row"] : List Str); decide +kernel) (by rfl) (by first | exact Or.inl rfl | exact Or.inr rfl))) (fun _ _ _ _ _ => mif_nil) (fun _ _ _ _ _ => (m_opS op_add p2_int0 (m_blS pn_len (call_lenK rfl) (by rfl) T.z_len L2.B.boot_len (ma_cons (mv 0) ma_nil (by first | exact Or.inl rfl | exact Or.inr rfl))) mc_int (by first | exact Or.inl rfl | exact Or.inr rfl)))) (by first | exact Or.inl rfl | exact Or.inr rfl) (nomark _))))), fun t ds k h => ?_⟩
  obtain ⟨W, n, ⟨hd, ts, rfl, hr⟩, rfl, hS, hn, hk⟩ := h
  obtain ⟨hl, hlen⟩ := own_lens hd hr hS
  walk_at "m"
  refine ⟨by decide, fun t' m => ?_, ?_⟩
  · obtain ⟨us, rfl, h⟩ := hlen t' m
    exact ⟨us, rfl, by rw [h, sizeLine_eq]; omega⟩
  walk_at "m"
  refine ⟨(by rw [List.length_map, hl, sizeLine_eq]; omega), fun t' m => ?_, ?_⟩
  · obtain ⟨t2, m2, rfl⟩ := List.mem_map.mp m
    obtain ⟨us, rfl, h⟩ := hlen t2 m2
    exact ⟨_, rfl⟩
  rw [lens_app hl hlen, tb_list]
  try walk_at "m"
  refine comp_map (cs := []) (fun i => .fz (.int ((n : Int) + 1))) (by rw [List.length_map, hS.1, sizeLine_eq]; omega) rfl ?_ ?_
  · intro i d z hd
    obtain ⟨r, hr', rfl⟩ := List.mem_map.mp (List.mem_of_getElem? hd)
    walk_at "m"
    rw [hS.2 r hr']
    exact .of rfl
  rw [OT.map_fz, List.length_map, hS.1, rep_data]
  refine ⟨shp_ints _, shp_ints _, ?_⟩
  rw [eqv_ints]
  exact hk _
theorem sc_law_is : FnScope ["caught", "due", "kinds"] ["caught", "due"] (defScope s_law_is) := ⟨rfl, rfl, rfl, by decide +kernel, rfl, by decide +kernel, by decide +kernel⟩
theorem ok_law_is (T : Txt K mg) : FnOk P w K mg base CX0 1 T.f_law_is T.fd_law_is ["caught", "due"] (spD K (fun ds k => (ds = [exD T.C_NoPoint, .int 2]) ∧ k (.fz (.bool true)))) := by
  refine T.F_law_is.okD sc_law_is (fun ds k h => by obtain ⟨rfl, _⟩ := h; rfl) (fun cdv A outer s H E hr => ?_)
  have hu := hr.units
  refine ⟨_, (mss_cons (ms_setO (i := 2) sc_law_is.nd rfl (Or.inl rfl) (m_lst (ma_cons (m_isiX (pe_glob (v := .ref T.C_NoNumber) (by rfl) T.mC_NoNumber rfl) (.own _) (by rfl) T.z_isinstance L2.B.boot_isinstance (mv 0)) (ma_cons (m_isiX (pe_glob (v := .ref T.C_NoTable) (by rfl) T.mC_NoTable rfl) (.own _) (by rfl) T.z_isinstance L2.B.boot_isinstance (mv 0)) (ma_cons (m_isiX (pe_glob (v := .ref T.C_NoPoint) (by rfl) T.mC_NoPoint rfl) (.own _) (by rfl) T.z_isinstance L2.B.boot_isinstance (mv 0)) ma_nil (by first | exact Or.inl rfl | exact Or.inr rfl)) (by first | exact Or.inl rfl | exact Or.inr rfl)) (by first | exact Or.inl rfl | exact Or.inr rfl))))
      (mss_cons (ms_append 2 (m_isiX (pe_glob (v := .ref T.C_NoCut) (by rfl) T.mC_NoCut rfl) (.own _) (by rfl) T.z_isinstance L2.B.boot_isinstance (mv 0)))
      (mss_cons (ms_if (MW.mt (mw_or (mt_not (mt_tru (m_isiX (pe_bltn (v := .ty "ValueError") (by rfl) T.z_ValueError PyProof.Rows.Boot.«ValueError» rfl) (.ty _) (by rfl) T.z_isinstance L2.B.boot_isinstance (mv 0)) (fun _ => rfl))) (mw_or1 (mt_cmp (op_neA hu) p2_ne (mo 2) (m_comp (own := ["k"]) (caps := [1]) (N' := ["k", "due"]) (by exact ⟨rfl, by decide +kernel, rfl, by decide +kernel, rfl, rfl⟩) (by rfl) (by decide) (mi_range1 (by rfl) T.z_range (ma_cons mc_int ma_nil (by first | exact Or.inl rfl | exact Or.inr rfl))) (fun _ _ _ _ _ => (mg_name (i := 0) (by show List.Nodup (["k", "due"] : List Str); decide +kernel) (by rfl) (by first | exact Or.inl rfl | exact Or.inr rfl))) (fun _ _ _ _ _ => mif_nil) (fun _ _ _ _ _ => (m_cmp (op_eqA hu) p2_eq (mv 0) (mv 1) (by first | exact Or.inl rfl | exact Or.inr rfl) (nomark _)))) (by first | exact Or.inl rfl | exact Or.inr rfl) (nomark _))))) (mss_one (ms_ret mc_bl)) mss_nil)
      (mss_one (ms_ret (m_not (m_isiXT (pa_cons (pe_glob (v := .ref T.C_NoOrder) (by rfl) T.mC_NoOrder rfl) (pa_cons (pe_glob (v := .ref T.C_TooMany) (by rfl) T.mC_TooMany rfl) (pa_cons (pe_glob (v := .ref T.C_NoWeb) (by rfl) T.mC_NoWeb rfl) (pa_cons (pe_glob (v := .ref T.C_NoText) (by rfl) T.mC_NoText rfl) (pa_cons (pe_glob (v := .ref T.C_NoName) (by rfl) T.mC_NoName rfl) (pa_cons (pe_glob (v := .ref T.C_NoRow) (by rfl) T.mC_NoRow rfl) pa_nil)))))) (fun _ _ _ h => h) (.cons (.own _) (.cons (.own _) (.cons (.own _) (.cons (.own _) (.cons (.own _) (.cons (.own _) .nil)))))) (by show 6 ≤ sizeLine; decide) (by rfl) T.z_isinstance L2.B.boot_isinstance (mv 0)))))))), fun ds k h => ?_⟩
  obtain ⟨rfl, hk⟩ := h
  walk_at "m"
  refine ⟨_, _, rfl, T.kt_NoPoint_NoNumber, ?_⟩
  refine ⟨_, _, rfl, T.kt_NoPoint_NoTable, ?_⟩
  refine ⟨_, _, rfl, T.kt_NoPoint_NoPoint, ?_⟩
  refine ⟨by decide, ?_⟩
  walk_at "m"
  refine ⟨_, _, rfl, T.kt_NoPoint_NoCut, ?_⟩
  refine ⟨by decide, ?_⟩
  walk_at "m"
  refine ⟨_, _, rfl, T.kt_NoPoint_ValueError, ?_⟩
  refine iteF ?_
  refine ⟨⟨by decide, by decide⟩, ?_⟩
  refine comp_map (cs := [some (.fz (.int 2))]) (fun i => .fz (.bool (decide ((i : Int) = 2)))) (by rw [rngD_length]; decide) rfl ?_ ?_
  · intro i d z hd
    obtain ⟨_, rfl⟩ := rngD_get hd
    walk_at "m"
    exact .of rfl
  · refine ⟨⟨by decide⟩, ⟨by decide⟩, ?_⟩
    refine iteF ?_
    walk_at "m"
    refine ⟨_, _, rfl, T.ka_NoPoint_0, ?_⟩
    try walk_at "m"
    exact hk
theorem sc_law_refused : FnScope ["table", "points", "caught", "handed", "e"] ["table", "points"] (defScope s_law_refused) := ⟨rfl, rfl, rfl, by decide +kernel, rfl, by decide +kernel, by decide +kernel⟩
theorem ok_law_refused (T : Txt K mg) : FnOk P w K mg base CX0 4 T.f_law_refused T.fd_law_refused ["table", "points"] (spD K (fun ds k => ∃ (T1 : List (List Rat)) (n : Nat) (ps : List Int), ds = [tbD T1, .list (ps.map PyData.int)] ∧ Sq n T1 ∧ n ≤ 1000 ∧ ps.length ≤ 1000 ∧ gd n ps = false ∧ k (.fz (.bool true)))) := by
  have G_part_of := ok_part_of (P := P) (w := w) (base := base) T
  have GX_part_of := okx_part_of (P := P) (w := w) (base := base) T
  have G_law_is := ok_law_is (P := P) (w := w) (base := base) T
  refine T.F_law_refused.okD sc_law_refused (fun ds k h => by obtain ⟨_, _, _, rfl, _⟩ := h; rfl) (fun cdv A outer s H E hr => ?_)
  have hu := hr.units
  refine ⟨_, (mss_cons (ms_set (i := 2) sc_law_refused.nd rfl (Or.inl rfl) mc_non)
      (mss_cons (ms_set (i := 3) sc_law_refused.nd rfl (Or.inl rfl) (m_ty pn_list (call_listK rfl) (by rfl) T.z_list L2.B.boot_list (ma_cons (mv 1) ma_nil (by first | exact Or.inl rfl | exact Or.inr rfl))))
      (mss_cons (ms_try (i := 4) sc_law_refused.nd rfl rfl (by rfl) T.mC_CutError T.r_CutError
      (mss_one (ms_expr (m_call G_part_of (hr.mono (by decide)) (by rfl) T.m_part_of T.F_part_of.kp T.b_part_of pass0 (ma_cons (mv 0) (ma_cons (mv 3) ma_nil (by first | exact Or.inl rfl | exact Or.inr rfl)) (by first | exact Or.inl rfl | exact Or.inr rfl)))))
      (xss_here (xs_expr (xe_call GX_part_of (hr.mono (by decide)) (by rfl) T.m_part_of T.F_part_of.kp T.b_part_of (ma_cons (mv 0) (ma_cons (mv 3) ma_nil (by first | exact Or.inl rfl | exact Or.inr rfl)) (by first | exact Or.inl rfl | exact Or.inr rfl)))))
      (fun _ => (mss_one (ms_set (i := 2) sc_law_refused.nd rfl (Or.inl rfl) (mv 4)))))
      (mss_one (ms_ret (m_and (m_call G_law_is (hr.mono (by decide)) (by rfl) T.m_law_is T.F_law_is.kp T.b_law_is pass0 (ma_cons (mv 2) (ma_cons mc_int ma_nil (by first | exact Or.inl rfl | exact Or.inr rfl)) (by first | exact Or.inl rfl | exact Or.inr rfl))) (m_one (m_cmp (op_eqA hu) p2_eq (mv 3) (mv 1) (by first | exact Or.inl rfl | exact Or.inr rfl) (nomark _))))))))), fun ds k h => ?_⟩
  obtain ⟨T1, n, ps, rfl, hS, hn, hle, hg, hk⟩ := h
  walk_at "m"
  rw [OT.map_fz]
  refine .inr ?_
  walk_at "m"
  refine ⟨_, ⟨T1, n, ps, rfl, hS, hn, hle, hg, rfl⟩, ⟨T.x_NoPoint, T.u_NoPoint_CutError⟩, ?_⟩
  try walk_at "m"
  try rw [eqv_ints]
  exact ⟨shp_ints _, shp_ints _, hk⟩
theorem sc_law_just : FnScope ["found", "due", "row", "one"] ["found", "due"] (defScope s_law_just) := ⟨rfl, rfl, rfl, by decide +kernel, rfl, by decide +kernel, by decide +kernel⟩
theorem ok_law_just (T : Txt K mg) : FnOk P w K mg base CX0 1 T.f_law_just T.fd_law_just ["found", "due"] (spD K (SJust)) := by
  refine T.F_law_just.okD sc_law_just (fun ds k h => by obtain ⟨_, _, rfl, _⟩ := h; rfl) (fun cdv A outer s H E hr => ?_)
  have hu := hr.units
  refine ⟨_, (mss_cons (ms_if (MW.mt (mw_or (mt_not (mt_tru (m_isi (by decide) (by rfl) T.z_isinstance L2.B.boot_isinstance (by rfl) T.z_list L2.B.boot_list (mv 0)) (fun _ => rfl))) (mw_or1 (mt_cmp (op_neA hu) p2_ne (mv 0) (mv 1) (by first | exact Or.inl rfl | exact Or.inr rfl) (nomark _))))) (mss_one (ms_ret mc_bl)) mss_nil)
      (mss_cons (ms_for PassesOwn.never rfl (mi_list (mv 0)) (mg_name (i := 2) sc_law_just.nd (by rfl) (by first | exact Or.inl rfl | exact Or.inr rfl))
      (mss_cons (ms_if (mt_not (mt_tru (m_isi (by decide) (by rfl) T.z_isinstance L2.B.boot_isinstance (by rfl) T.z_list L2.B.boot_list (mv 2)) (fun _ => rfl))) (mss_one (ms_ret mc_bl)) mss_nil)
      (mss_one (ms_for PassesOwn.never rfl (mi_list (mv 2)) (mg_name (i := 3) sc_law_just.nd (by rfl) (by first | exact Or.inl rfl | exact Or.inr rfl))
      (mss_one (ms_if (MW.mt (mw_or (mt_not (mt_tru (m_isi (by decide) (by rfl) T.z_isinstance L2.B.boot_isinstance (by rfl) T.z_tuple L2.B.boot_tuple (mv 3)) (fun _ => rfl))) (mw_or (mt_tru (m_isi (by decide) (by rfl) T.z_isinstance L2.B.boot_isinstance (by rfl) T.z_bool L2.B.boot_bool (m_ix (ix_seqK rfl) p2_ix (mv 3) mc_int (by first | exact Or.inl rfl | exact Or.inr rfl) (fun _ _ => rfl))) (fun _ => rfl)) (mw_or1 (mt_tru (m_isi (by decide) (by rfl) T.z_isinstance L2.B.boot_isinstance (by rfl) T.z_bool L2.B.boot_bool (m_ix (ix_seqK rfl) p2_ix (mv 3) mc_int (by first | exact Or.inl rfl | exact Or.inr rfl) (fun _ _ => rfl))) (fun _ => rfl)))))) (mss_one (ms_ret mc_bl)) mss_nil))))))
      (mss_one (ms_ret mc_bl)))), fun ds k h => ?_⟩
  obtain ⟨W, n, rfl, hS, hn, hk⟩ := h
  walk_at "m"
  refine iteF (iteF ?_)
  rw [tb_list]
  walk_at "m"
  refine for_lst (fun i δ => ∃ x y, δ = [some (.fz (.list (W.map rowD))), some (.fz (.list (W.map rowD))), x, y]) ⟨_, _, rfl⟩ ?_ ?_
  · rintro i d _ hd ⟨x, y, rfl⟩
    obtain ⟨r, _, rfl⟩ := List.mem_map.mp (List.mem_of_getElem? hd)
    rw [row_list]
    walk_at "m"
    refine for_lst (fun i δ => ∃ y, δ = [some (.fz (.list (W.map rowD))), some (.fz (.list (W.map rowD))), some (.fz (.list (r.map frD))), y]) ⟨_, rfl⟩ ?_ ?_
    · rintro j d _ hd ⟨y, rfl⟩
      obtain ⟨q, _, rfl⟩ := List.mem_map.mp (List.mem_of_getElem? hd)
      unfold frD fr
      walk_at "m"
      exact iteF (iteF (iteF ⟨_, rfl⟩))
    · rintro _ ⟨y, rfl⟩
      exact ⟨_, _, rfl⟩
  · rintro _ ⟨x, y, rfl⟩
    walk_at "m"
    exact hk
theorem sc_law : FnScope ["script", "k", "pool", "many", "table", "handed", "turn", "points", "due", "again", "given", "found", "at", "far", "bad", "some"] ["script"] (defScope s_law) := ⟨rfl, rfl, rfl, by decide +kernel, rfl, by decide +kernel, by decide +kernel⟩
theorem ok_law (T : Txt K mg) : FnOk P w K mg base CX0 5 T.f_law T.fd_law ["script"] (spD K (SLaw)) := by
  have G_law_pool := ok_law_pool (P := P) (w := w) (base := base) T
  have G_law_table := ok_law_table (P := P) (w := w) (base := base) T
  have G_law_copied := ok_law_copied (P := P) (w := w) (base := base) T
  have G_law_take := ok_law_take (P := P) (w := w) (base := base) T
  have G_law_points := ok_law_points (P := P) (w := w) (base := base) T
  have G_part_of := ok_part_of (P := P) (w := w) (base := base) T
  have GX_part_of := okx_part_of (P := P) (w := w) (base := base) T
  have G_law_own := ok_law_own (P := P) (w := w) (base := base) T
  have G_law_refused := ok_law_refused (P := P) (w := w) (base := base) T
  have G_law_just := ok_law_just (P := P) (w := w) (base := base) T
  refine T.F_law.okD sc_law (fun ds k h => by obtain ⟨_, rfl, _⟩ := h; rfl) (fun cdv A outer s H E hr => ?_)
  have hu := hr.units
  refine ⟨_, (mss_cons (ms_for PassesOwn.never rfl (mi_range1 (by rfl) T.z_range (ma_cons (m_blS pn_max2 (call_max2 (by rfl)) (by rfl) T.z_max L2.B.boot_max (ma_cons mc_int (ma_cons (m_blS pn_min2 (call_min2 (by rfl)) (by rfl) T.z_min L2.B.boot_min (ma_cons mc_int (ma_cons (m_blS pn_len (call_lenK rfl) (by rfl) T.z_len L2.B.boot_len (ma_cons (mv 0) ma_nil (by first | exact Or.inl rfl | exact Or.inr rfl))) ma_nil (by first | exact Or.inl rfl | exact Or.inr rfl)) (by first | exact Or.inl rfl | exact Or.inr rfl))) ma_nil (by first | exact Or.inl rfl | exact Or.inr rfl)) (by first | exact Or.inl rfl | exact Or.inr rfl))) ma_nil (by first | exact Or.inl rfl | exact Or.inr rfl))) (mg_name (i := 1) sc_law.nd (by rfl) (by first | exact Or.inl rfl | exact Or.inr rfl))
      (mss_cons (ms_setO (i := 2) sc_law.nd rfl (Or.inl rfl) (m_call G_law_pool (hr.mono (by decide)) (by rfl) T.m_law_pool T.F_law_pool.kp T.b_law_pool pass0 (ma_cons (mv 0) (ma_cons (mv 1) ma_nil (by first | exact Or.inl rfl | exact Or.inr rfl)) (by first | exact Or.inl rfl | exact Or.inr rfl))))
      (mss_cons (ms_set (i := 3) sc_law.nd rfl (Or.inl rfl) (m_opS op_add p2_int0 mc_int (m_ix (ix_seqK rfl) p2_ix (m_lst (ma_cons (m_callI (i := 2) G_law_take (hr.mono (by decide)) (by rfl) T.m_law_take T.F_law_take.kp T.b_law_take pass0 (ma_cons mc_int ma_nil (by first | exact Or.inl rfl | exact Or.inr rfl))) (ma_cons (m_callI (i := 2) G_law_take (hr.mono (by decide)) (by rfl) T.m_law_take T.F_law_take.kp T.b_law_take pass0 (ma_cons mc_int ma_nil (by first | exact Or.inl rfl | exact Or.inr rfl))) ma_nil (by first | exact Or.inl rfl | exact Or.inr rfl)) (by first | exact Or.inl rfl | exact Or.inr rfl))) (m_tyS pn_int call_int1 (by rfl) T.z_int L2.B.boot_int (ma_cons (m_cmp (op_eqA hu) p2_eq (m_callI (i := 2) G_law_take (hr.mono (by decide)) (by rfl) T.m_law_take T.F_law_take.kp T.b_law_take pass0 (ma_cons mc_int ma_nil (by first | exact Or.inl rfl | exact Or.inr rfl))) mc_int (by first | exact Or.inl rfl | exact Or.inr rfl) (nomark _)) ma_nil (by first | exact Or.inl rfl | exact Or.inr rfl))) (by first | exact Or.inl rfl | exact Or.inr rfl) (fun _ _ => rfl)) (by first | exact Or.inl rfl | exact Or.inr rfl)))
      (mss_cons (ms_set (i := 4) sc_law.nd rfl (Or.inr rfl) (m_callI (i := 2) G_law_table (hr.mono (by decide)) (by rfl) T.m_law_table T.F_law_table.kp T.b_law_table pass0 (ma_cons (mv 3) ma_nil (by first | exact Or.inl rfl | exact Or.inr rfl))))
      (mss_cons (ms_set (i := 5) sc_law.nd rfl (Or.inl rfl) (m_call G_law_copied (hr.mono (by decide)) (by rfl) T.m_law_copied T.F_law_copied.kp T.b_law_copied pass0 (ma_cons (mv 4) ma_nil (by first | exact Or.inl rfl | exact Or.inr rfl))))
      (mss_cons (ms_for PassesOwn.never rfl (mi_range1 (by rfl) T.z_range (ma_cons mc_int ma_nil (by first | exact Or.inl rfl | exact Or.inr rfl))) (mg_name (i := 6) sc_law.nd (by rfl) (by first | exact Or.inl rfl | exact Or.inr rfl))
      (mss_cons (ms_set (i := 7) sc_law.nd rfl (Or.inr rfl) (m_callI (i := 2) G_law_points (hr.mono (by decide)) (by rfl) T.m_law_points T.F_law_points.kp T.b_law_points pass0 (ma_cons (mv 3) ma_nil (by first | exact Or.inl rfl | exact Or.inr rfl))))
      (mss_cons (ms_setcomp (i := 8) (own := ["one"]) (caps := [7, 4]) (N' := ["one", "points", "table"]) false sc_law.nd rfl (Or.inl rfl) (by exact ⟨rfl, by decide +kernel, rfl, by decide +kernel, rfl, rfl⟩) (by rfl) (by decide) (mi_list (mv 7)) (fun _ _ _ _ _ => (mg_name (i := 0) (by show List.Nodup (["one", "points", "table"] : List Str); decide +kernel) (by rfl) (by first | exact Or.inl rfl | exact Or.inr rfl))) (fun _ _ _ _ _ => mif_nil) (fun _ _ _ _ _ => (m_comp (own := ["other"]) (caps := [2, 0]) (N' := ["other", "table", "one"]) (by exact ⟨rfl, by decide +kernel, rfl, by decide +kernel, rfl, rfl⟩) (by rfl) (by decide) (mi_list (mv 1)) (fun _ _ _ _ _ => (mg_name (i := 0) (by show List.Nodup (["other", "table", "one"] : List Str); decide +kernel) (by rfl) (by first | exact Or.inl rfl | exact Or.inr rfl))) (fun _ _ _ _ _ => mif_nil) (fun _ _ _ _ _ => (m_ix (ix_seqK rfl) p2_ix (m_ix (ix_seqK rfl) p2_ix (mv 1) (mv 2) (by first | exact Or.inl rfl | exact Or.inr rfl) (fun _ _ => rfl)) (mv 0) (by first | exact Or.inl rfl | exact Or.inr rfl) (fun _ _ => rfl))))))
      (mss_one (ms_for PassesOwn.never rfl (mi_range1 (by rfl) T.z_range (ma_cons mc_int ma_nil (by first | exact Or.inl rfl | exact Or.inr rfl))) (mg_name (i := 9) sc_law.nd (by rfl) (by first | exact Or.inl rfl | exact Or.inr rfl))
      (mss_cons (ms_set (i := 10) sc_law.nd rfl (Or.inl rfl) (m_ty pn_list (call_listK rfl) (by rfl) T.z_list L2.B.boot_list (ma_cons (mv 7) ma_nil (by first | exact Or.inl rfl | exact Or.inr rfl))))
      (mss_cons (ms_setO (i := 11) sc_law.nd rfl (Or.inl rfl) (m_call G_part_of (hr.mono (by decide)) (by rfl) T.m_part_of T.F_part_of.kp T.b_part_of pass0 (ma_cons (mv 5) (ma_cons (mv 10) ma_nil (by first | exact Or.inl rfl | exact Or.inr rfl)) (by first | exact Or.inl rfl | exact Or.inr rfl))))
      (mss_cons (ms_if (MW.mt (mw_or (mt_not (mt_tru (m_call G_law_just (hr.mono (by decide)) (by rfl) T.m_law_just T.F_law_just.kp T.b_law_just pass0 (ma_cons (mo 11) (ma_cons (mv 8) ma_nil (by first | exact Or.inl rfl | exact Or.inr rfl)) (by first | exact Or.inl rfl | exact Or.inr rfl))) (fun _ => rfl))) (mw_or (mt_cmp (op_neA hu) p2_ne (mv 10) (mv 7) (by first | exact Or.inl rfl | exact Or.inr rfl) (nomark _)) (mw_or1 (mt_cmp (op_neA hu) p2_ne (mv 5) (mv 4) (by first | exact Or.inl rfl | exact Or.inr rfl) (nomark _)))))) (mss_one (ms_ret mc_bl)) mss_nil)
      (mss_one (ms_if (mt_not (mt_tru (m_callI (i := 11) G_law_own (hr.mono (by decide)) (by rfl) T.m_law_own T.F_law_own.kp T.b_law_own pass0 (ma_cons (mv 8) ma_nil (by first | exact Or.inl rfl | exact Or.inr rfl))) (fun _ => rfl))) (mss_one (ms_ret mc_bl)) mss_nil))))))))))
      (mss_cons (ms_set (i := 12) sc_law.nd rfl (Or.inl rfl) (m_callI (i := 2) G_law_take (hr.mono (by decide)) (by rfl) T.m_law_take T.F_law_take.kp T.b_law_take pass0 (ma_cons (m_opS op_add p2_int0 (m_blS pn_len (call_lenK rfl) (by rfl) T.z_len L2.B.boot_len (ma_cons (mv 7) ma_nil (by first | exact Or.inl rfl | exact Or.inr rfl))) mc_int (by first | exact Or.inl rfl | exact Or.inr rfl)) ma_nil (by first | exact Or.inl rfl | exact Or.inr rfl))))
      (mss_cons (ms_set (i := 13) sc_law.nd rfl (Or.inl rfl) (m_ix (ix_seqK rfl) p2_ix (m_lst (ma_cons mc_int (ma_cons mc_int (ma_cons (m_callI (i := 2) G_law_take (hr.mono (by decide)) (by rfl) T.m_law_take T.F_law_take.kp T.b_law_take pass0 (ma_cons (m_opS op_powG p2_pow mc_int mc_int (by first | exact Or.inl rfl | exact Or.inr rfl)) ma_nil (by first | exact Or.inl rfl | exact Or.inr rfl))) ma_nil (by first | exact Or.inl rfl | exact Or.inr rfl)) (by first | exact Or.inl rfl | exact Or.inr rfl)) (by first | exact Or.inl rfl | exact Or.inr rfl))) (m_callI (i := 2) G_law_take (hr.mono (by decide)) (by rfl) T.m_law_take T.F_law_take.kp T.b_law_take pass0 (ma_cons mc_int ma_nil (by first | exact Or.inl rfl | exact Or.inr rfl))) (by first | exact Or.inl rfl | exact Or.inr rfl) (fun _ _ => rfl)))
      (mss_cons (ms_set (i := 14) sc_law.nd rfl (Or.inl rfl) (m_lst (ma_cons (m_lst ma_nil) (ma_cons (m_op (op_catR rfl) p2_cat (mv 7) (m_lst (ma_cons (m_ix (ix_seqK rfl) p2_ix (mv 7) mc_int (by first | exact Or.inl rfl | exact Or.inr rfl) (fun _ _ => rfl)) ma_nil (by first | exact Or.inl rfl | exact Or.inr rfl))) (by first | exact Or.inl rfl | exact Or.inr rfl)) (ma_cons (m_op (op_catR rfl) p2_cat (m_op (op_catR rfl) p2_cat (m_slL (mv 7) mo_none (mo_some (mv 12))) (m_lst (ma_cons (m_opS op_sub p2_int0 (m_neg mc_int) (mv 13) (by first | exact Or.inl rfl | exact Or.inr rfl)) ma_nil (by first | exact Or.inl rfl | exact Or.inr rfl))) (by first | exact Or.inl rfl | exact Or.inr rfl)) (m_slL (mv 7) (mo_some (mv 12)) mo_none) (by first | exact Or.inl rfl | exact Or.inr rfl)) ma_nil (by first | exact Or.inl rfl | exact Or.inr rfl)) (by first | exact Or.inl rfl | exact Or.inr rfl)) (by first | exact Or.inl rfl | exact Or.inr rfl))))
      (mss_cons (ms_set (i := 14) sc_law.nd rfl (Or.inl rfl) (m_op (op_catR rfl) p2_cat (mv 14) (m_lst (ma_cons (m_op (op_catR rfl) p2_cat (m_op (op_catR rfl) p2_cat (m_slL (mv 7) mo_none (mo_some (mv 12))) (m_lst (ma_cons (m_opS op_add p2_int0 (mv 3) (mv 13) (by first | exact Or.inl rfl | exact Or.inr rfl)) ma_nil (by first | exact Or.inl rfl | exact Or.inr rfl))) (by first | exact Or.inl rfl | exact Or.inr rfl)) (m_slL (mv 7) (mo_some (mv 12)) mo_none) (by first | exact Or.inl rfl | exact Or.inr rfl)) (ma_cons (m_op (op_catR rfl) p2_cat (m_op (op_catR rfl) p2_cat (m_slL (mv 7) mo_none (mo_some (mv 12))) (m_lst (ma_cons (m_opS op_sub p2_int0 mc_int (mv 3) (by first | exact Or.inl rfl | exact Or.inr rfl)) ma_nil (by first | exact Or.inl rfl | exact Or.inr rfl))) (by first | exact Or.inl rfl | exact Or.inr rfl)) (m_slL (mv 7) (mo_some (m_opS op_add p2_int0 (mv 12) mc_int (by first | exact Or.inl rfl | exact Or.inr rfl))) mo_none) (by first | exact Or.inl rfl | exact Or.inr rfl)) ma_nil (by first | exact Or.inl rfl | exact Or.inr rfl)) (by first | exact Or.inl rfl | exact Or.inr rfl))) (by first | exact Or.inl rfl | exact Or.inr rfl)))
      (mss_cons (ms_set (i := 9) sc_law.nd rfl (Or.inl rfl) (m_ix (ix_seqK rfl) p2_ix (mv 7) (m_callI (i := 2) G_law_take (hr.mono (by decide)) (by rfl) T.m_law_take T.F_law_take.kp T.b_law_take pass0 (ma_cons (m_blS pn_len (call_lenK rfl) (by rfl) T.z_len L2.B.boot_len (ma_cons (mv 7) ma_nil (by first | exact Or.inl rfl | exact Or.inr rfl))) ma_nil (by first | exact Or.inl rfl | exact Or.inr rfl))) (by first | exact Or.inl rfl | exact Or.inr rfl) (fun _ _ => rfl)))
      (mss_cons (ms_set (i := 14) sc_law.nd rfl (Or.inl rfl) (m_op (op_catR rfl) p2_cat (mv 14) (m_lst (ma_cons (m_op (op_catR rfl) p2_cat (m_op (op_catR rfl) p2_cat (m_slL (mv 7) mo_none (mo_some (mv 12))) (m_lst (ma_cons (mv 9) ma_nil (by first | exact Or.inl rfl | exact Or.inr rfl))) (by first | exact Or.inl rfl | exact Or.inr rfl)) (m_slL (mv 7) (mo_some (mv 12)) mo_none) (by first | exact Or.inl rfl | exact Or.inr rfl)) (ma_cons (m_op (op_catR rfl) p2_cat (mv 7) (mv 7) (by first | exact Or.inl rfl | exact Or.inr rfl)) ma_nil (by first | exact Or.inl rfl | exact Or.inr rfl)) (by first | exact Or.inl rfl | exact Or.inr rfl))) (by first | exact Or.inl rfl | exact Or.inr rfl)))
      (mss_one (ms_for PassesOwn.never rfl (mi_list (mv 14)) (mg_name (i := 15) sc_law.nd (by rfl) (by first | exact Or.inl rfl | exact Or.inr rfl))
      (mss_one (ms_if (MW.mt (mw_or (mt_not (mt_tru (m_call G_law_refused (hr.mono (by decide)) (by rfl) T.m_law_refused T.F_law_refused.kp T.b_law_refused pass0 (ma_cons (mv 5) (ma_cons (mv 15) ma_nil (by first | exact Or.inl rfl | exact Or.inr rfl)) (by first | exact Or.inl rfl | exact Or.inr rfl))) (fun _ => rfl))) (mw_or1 (mt_cmp (op_neA hu) p2_ne (mv 5) (mv 4) (by first | exact Or.inl rfl | exact Or.inr rfl) (nomark _))))) (mss_one (ms_ret mc_bl)) mss_nil))))))))))))))))
      (mss_one (ms_ret mc_bl))), fun ds k h => ?_⟩
  obtain ⟨ns, rfl, hn, hk⟩ := h
  walk_at "m"
  refine ⟨by constructor <;> (split <;> (try split) <;> omega), ?_⟩
  refine for_rng (fun i δ => ∃ x1 x2 x3 x4 x5 x6 x7 x8 x9 y1 y2 y3 y4 y5 y6, δ = [some (.fz (.list (ns.map PyData.int))), x1, x2, x3, x4, x5, x6, x7, x8, x9, y1, y2, y3, y4, y5, y6]) ⟨_, _, _, _, _, _, _, _, _, _, _, _, _, _, _, rfl⟩ ?_ ?_
  · rintro i _ hi ⟨x1, x2, x3, x4, x5, x6, x7, x8, x9, y1, y2, y3, y4, y5, y6, rfl⟩
    walk_at "m"
    refine ⟨ns, _, rfl, by omega, ?_, fun t1 p1 => ?_⟩
    · revert hi
      split <;> (try split) <;> omega
    walk_at "m"
    refine ⟨_, 5, p1, rfl, by omega, by decide, bt9 (by decide), fun a t2 a0 a1 p2 => ?_⟩
    walk_at "m"
    refine ⟨_, 10, p2, rfl, by omega, by decide, bt9 (by decide), fun b t3 b0 b1 p3 => ?_⟩
    walk_at "m"
    refine ⟨by decide, _, 4, p3, rfl, by omega, by decide, bt9 (by decide), fun c t4 c0 c1 p4 => ?_⟩
    walk_at "m"
    have key : ∃ (n : Nat) (x : Int), 1 ≤ n ∧ n ≤ 10 ∧ (n : Int) = 1 + x ∧ ixD (.list [.int a, .int b]) (.int (if decide (c = 0) = true then 1 else 0)) = some (.int x) := by
      obtain ⟨d, hd, e⟩ := ix2 (d1 := .int a) (d2 := .int b) (r := if decide (c = 0) = true then 1 else 0) (by split <;> decide) (by split <;> decide)
      rcases hd with rfl | rfl
      · exact ⟨(1 + a).toNat, a, by omega, by omega, by omega, e⟩
      · exact ⟨(1 + b).toNat, b, by omega, by omega, by omega, e⟩
    obtain ⟨n, x, n1, n2, hx, e⟩ := key
    rw [e]
    walk_at "m"
    rw [← hx]
    refine ⟨_, n, p4, rfl, n1, by omega, by omega, fun T1 t5 hS hZ hP p5 => ?_⟩
    have hl := hS.1
    clear e
    try walk_at "m"
    refine ⟨T1, n, rfl, hS, by omega, fun c1 d1 => ?_⟩
    simp only [d1]
    try walk_at "m"
    refine ⟨⟨by decide, by decide⟩, ?_⟩
    refine for_rng (fun j δ => ∃ t z6 z7 z8 z9 w1 w2, δ = [some (.fz (.list (ns.map PyData.int))), some (.fz (.int i)), some t, some (.fz (.int n)), some (.fz (tbD T1)), some (.fz (tbD T1)), z6, z7, z8, z9, w1, w2, y3, y4, y5, y6] ∧ PlT t (40000 + 100 * j) ∧ (0 < j → ∃ ps, z7 = some (.fz (.list (ps.map fun i : Nat => PyData.int i))) ∧ Pts n ps)) ⟨_, _, _, _, _, _, _, rfl, p5.mono (by omega), fun z => absurd z (by decide)⟩ ?_ ?_
    · rintro j _ hj ⟨t, z6, z7, z8, z9, w1, w2, rfl, pj, _⟩
      walk_at "m"
      refine ⟨_, n, pj, rfl, n1, by omega, by omega, fun ps t' hps p' => ?_⟩
      try walk_at "m"
      rw [dat_ns]
      have hle := len_le_of_lt hps.nd hps.lt
      have hz : (ps.map fun i : Nat => PyData.int i).length ≤ sizeLine := by rw [List.length_map, sizeLine_eq]; omega
      refine comp_map (cs := [some (.fz (.list (ps.map fun i : Nat => PyData.int i))), some (.fz (tbD T1))]) (fun a => rowO ps.length fun b => dd T1 (ps.getD a 0) (ps.getD b 0)) hz rfl ?_ ?_
      · intro a d z hd
        obtain ⟨rfl, ha, hm⟩ := natsGetD hd
        have ha' := hps.lt _ hm
        walk_at "m"
        refine comp_map (cs := [some (.fz (tbD T1)), some (.fz (.int (ps.getD a 0 : Nat)))]) (fun b => .fz (frD (dd T1 (ps.getD a 0) (ps.getD b 0)))) hz rfl ?_ ?_
        · intro b d z hd
          obtain ⟨rfl, hb, hm'⟩ := natsGetD hd
          have hb' := hps.lt _ hm'
          walk_at "m"
          simp only [hS.ix ha', hS.ix2 ha' hb']
          exact .of rfl
        · rw [List.length_map]
          exact .of rfl
      rw [List.length_map]
      have e : OT.nd ((List.range ps.length).map fun a => rowO ps.length fun b => dd T1 (ps.getD a 0) (ps.getD b 0)) = tbT (prt T1 ps) := (mkT_tree ps.length _).symm
      rw [e]
      have sP : Sq ps.length (prt T1 ps) := mkT_sq _ _
      simp only [tbT_data]
      try walk_at "m"
      refine ⟨⟨by decide, by decide⟩, ?_⟩
      refine for_rng (fun j' δ => ∃ z9 w1 w2, δ = [some (.fz (.list (ns.map PyData.int))), some (.fz (.int i)), some t', some (.fz (.int n)), some (.fz (tbD T1)), some (.fz (tbD T1)), some (.fz (.int j)), some (.fz (.list (ps.map fun i : Nat => PyData.int i))), some (.fz (tbD (prt T1 ps))), z9, w1, w2, y3, y4, y5, y6]) ⟨_, _, _, rfl⟩ ?_ ?_
      · rintro j' _ hj' ⟨z9, w1, w2, rfl⟩
        walk_at "m"
        rw [OT.map_fz]
        refine ⟨T1, n, ps, rfl, hS, by omega, hps, fun tt ot => ?_⟩
        try walk_at "m"
        rw [ot.dat]
        refine ⟨_, _, rfl, sP, by omega, ?_⟩
        try walk_at "m"
        refine iteF ⟨shp_ns _, shp_ns _, ?_⟩
        rw [eqv_ns]
        refine iteF (iteF ?_)
        try walk_at "m"
        exact ⟨_, _, ot, rfl, sP, by omega, fun t' => iteF ⟨_, _, _, rfl⟩⟩
      rintro _ ⟨z9, w1, w2, rfl⟩
      exact ⟨_, _, _, _, _, _, _, rfl, p'.mono (by omega), fun _ => ⟨ps, rfl, hps⟩⟩
    rintro _ ⟨t, z6, z7, z8, z9, w1, w2, rfl, pj, hj⟩
    obtain ⟨ps, rfl, hps⟩ := hj (by decide)
    try walk_at "m"
    rw [List.length_map]
    have hle := len_le_of_lt hps.nd hps.lt
    have hpos : 0 < ps.length := List.length_pos_iff.mpr hps.ne
    refine ⟨_, (ps.length : Int) + 1, pj, rfl, by omega, by omega, bt9 (by omega), fun at' t6 q0 q1 p6 => ?_⟩
    obtain ⟨o, rfl⟩ : ∃ o : Nat, at' = (o : Int) := ⟨at'.toNat, by omega⟩
    try walk_at "m"
    refine ⟨⟨⟨by decide, by decide, by decide⟩⟩, _, 1000000000000000000000000000000, p6, rfl, by omega, by decide +kernel, bt9 (by decide +kernel), fun r3 t8 r30 r31 p8 => ?_⟩
    try walk_at "m"
    refine ⟨by decide, _, 3, p8, rfl, by omega, by decide, bt9 (by decide), fun r4 t9 r40 r41 p9 => ?_⟩
    obtain ⟨d, hd, e⟩ := ix3 (d1 := .int 0) (d2 := .int 1) (d3 := .int r3) r40 r41
    obtain ⟨far, rfl, hf⟩ : ∃ far : Int, d = .int far ∧ 0 ≤ far := by
      rcases hd with rfl | rfl | rfl
      · exact ⟨_, rfl, by decide⟩
      · exact ⟨_, rfl, by decide⟩
      · exact ⟨_, rfl, r30⟩
    try walk_at "m"
    rw [e]
    clear e r31 r41
    obtain ⟨qs, hqs⟩ : ∃ qs : List Int, qs = ps.map fun i : Nat => (i : Int) := ⟨_, rfl⟩
    obtain ⟨Ps, hPs⟩ : ∃ Ps, Ps = ps.map fun i : Nat => PyData.int i := ⟨_, rfl⟩
    rw [← hPs]
    have hQ : Ps = qs.map PyData.int := by rw [hPs, hqs, List.map_map]; rfl
    have lQ : qs.length = ps.length := by rw [hqs, List.length_map]
    have lP : Ps.length = ps.length := by rw [hPs, List.length_map]
    obtain ⟨v0, v0m, e0⟩ := ix_qs (r := 0) hQ (by omega)
    have e0 : ixD (.list Ps) (.int 0) = some (.int v0) := e0
    have k1 : cutD Ps none (some (o : Int)) = (qs.take o).map PyData.int := by rw [cut_take (by omega), hQ, List.map_take]
    have k2 : cutD Ps (some (o : Int)) none = (qs.drop o).map PyData.int := by rw [cut_drop', hQ, List.map_drop]
    have k3 : cutD Ps (some ((o : Int) + 1)) none = (qs.drop (o + 1)).map PyData.int := by rw [show (o : Int) + 1 = ((o + 1 : Nat) : Int) by omega, cut_drop', hQ, List.map_drop]
    have z : ∀ m, m ≤ 1000 → m ≤ sizeLine := fun m h => by rw [sizeLine_eq]; omega
    try walk_at "m"
    rw [e0]
    try walk_at "m"
    simp only [OT.map_fz, k1, k2]
    refine ⟨by decide, by decide, z _ (by omega), by decide, z _ (by simp; omega), z _ (by simp; omega), by decide, ?_⟩
    try walk_at "m"
    simp only [OT.map_fz, k1, k2, k3]
    refine ⟨by decide, z _ (by simp; omega), z _ (by simp; omega), by decide, z _ (by simp; omega), z _ (by simp; omega), by decide, by decide, ?_⟩
    try walk_at "m"
    rw [lP]
    refine ⟨_, (ps.length : Int), p9, rfl, by omega, by omega, bt9 (by omega), fun r5 ta s0 s1 pa => ?_⟩
    obtain ⟨o2, rfl⟩ : ∃ o2 : Nat, r5 = (o2 : Int) := ⟨r5.toNat, by omega⟩
    obtain ⟨v1, v1m, e1⟩ := ix_qs (r := o2) hQ (by omega)
    try walk_at "m"
    rw [e1]
    try walk_at "m"
    simp only [OT.map_fz, k1, k2, k3]
    refine ⟨by decide, z _ (by simp; omega), z _ (by simp; omega), z _ (by omega), by decide, by decide, ?_⟩
    try walk_at "m"
    have hne : qs ≠ [] := fun y => by rw [y] at lQ; simp at lQ; omega
    refine for_lst (fun i δ => ∃ x1 x2 y5 y6, δ = [some (.fz (.list (ns.map PyData.int))), x1, x2, some (.fz (.int n)), some (.fz (tbD T1)), some (.fz (tbD T1)), z6, some (.fz (.list Ps)), z8, some (.fz (.int v1)), w1, w2, some (.fz (.int o)), some (.fz (.int far)), y5, y6]) ⟨_, _, _, _, rfl⟩ ?_ ?_
    · rintro j d _ hd ⟨x1, x2, y5, y6, rfl⟩
      obtain ⟨zs, rfl, hz1, hz2⟩ : ∃ zs : List Int, d = .list (zs.map PyData.int) ∧ zs.length ≤ 1000 ∧ gd n zs = false := by
        have := List.mem_of_getElem? hd
        simp only [List.mem_cons, List.mem_append, List.not_mem_nil, or_false, hQ] at this
        rcases this with rfl | rfl | rfl | rfl | rfl | rfl | rfl
        · exact ⟨[], rfl, by simp, gd_nil _⟩
        · exact ⟨qs ++ [v0], by rw [List.map_append]; rfl, by simp; omega, gd_twice (dup_end v0m)⟩
        · exact ⟨(qs.take o ++ [-1 - far]) ++ qs.drop o, by rw [List.map_append, List.map_append]; rfl, by simp; omega, gd_bad (p := -1 - far) (by simp) (by omega)⟩
        · exact ⟨(qs.take o ++ [(n : Int) + far]) ++ qs.drop o, by rw [List.map_append, List.map_append]; rfl, by simp; omega, gd_bad (p := (n : Int) + far) (by simp) (by omega)⟩
        · exact ⟨(qs.take o ++ [0 - (n : Int)]) ++ qs.drop (o + 1), by rw [List.map_append, List.map_append]; rfl, by simp; omega, gd_bad (p := 0 - (n : Int)) (by simp) (by omega)⟩
        · exact ⟨(qs.take o ++ [v1]) ++ qs.drop o, by rw [List.map_append, List.map_append]; rfl, by simp; omega, gd_twice (dup_mid (by rw [List.take_append_drop]; exact v1m))⟩
        · exact ⟨qs ++ qs, by rw [List.map_append], by simp; omega, gd_twice (dup_two hne)⟩
      walk_at "m"
      refine ⟨T1, n, zs, rfl, hS, by omega, hz1, hz2, ?_⟩
      try walk_at "m"
      exact iteF (iteF ⟨_, _, _, _, rfl⟩)
    · rintro _ ⟨x1, x2, y5, y6, rfl⟩
      exact ⟨_, _, _, _, _, _, _, _, _, _, _, _, _, _, _, rfl⟩
  · rintro _ ⟨x1, x2, x3, x4, x5, x6, x7, x8, x9, y1, y2, y3, y4, y5, y6, rfl⟩
    walk_at "m"
    exact hk
end
theorem all_mk {l : PySem.W.OpenLaw} {w : World} {K : PySem.W.Frag} {h : Heap} {mg : Str → Option Value} {fa : Addr} {C_CutError : Addr} {C_NoCut : Addr} {C_NoName : Addr} {C_NoNumber : Addr} {C_NoOrder : Addr} {C_NoPoint : Addr} {C_NoRow : Addr} {C_NoTable : Addr} {C_NoText : Addr} {C_NoWeb : Addr} {C_TooMany : Addr} (X : K.In h) (G : h.Ns mainGlobals mg) (hfa : mg "law" = some (.ref fa))
    {f1 : Addr} {od1 an1 : Option Addr} {sl1 : Array (Option Value)} {oc1 kV1 dc1 pm1 cd1 ct1 : Value}
    {f2 : Addr} {od2 an2 : Option Addr} {sl2 : Array (Option Value)} {oc2 kV2 dc2 pm2 cd2 ct2 : Value}
    {f3 : Addr} {od3 an3 : Option Addr} {sl3 : Array (Option Value)} {oc3 kV3 dc3 pm3 cd3 ct3 : Value}
    {f4 : Addr} {od4 an4 : Option Addr} {sl4 : Array (Option Value)} {oc4 kV4 dc4 pm4 cd4 ct4 : Value}
    {f5 : Addr} {od5 an5 : Option Addr} {sl5 : Array (Option Value)} {oc5 kV5 dc5 pm5 cd5 ct5 : Value}
    {f6 : Addr} {od6 an6 : Option Addr} {sl6 : Array (Option Value)} {oc6 kV6 dc6 pm6 cd6 ct6 : Value}
    {f7 : Addr} {od7 an7 : Option Addr} {sl7 : Array (Option Value)} {oc7 kV7 dc7 pm7 cd7 ct7 : Value}
    {f8 : Addr} {od8 an8 : Option Addr} {sl8 : Array (Option Value)} {oc8 kV8 dc8 pm8 cd8 ct8 : Value}
    {f9 : Addr} {od9 an9 : Option Addr} {sl9 : Array (Option Value)} {oc9 kV9 dc9 pm9 cd9 ct9 : Value}
    {f10 : Addr} {od10 an10 : Option Addr} {sl10 : Array (Option Value)} {oc10 kV10 dc10 pm10 cd10 ct10 : Value}
    {f11 : Addr} {od11 an11 : Option Addr} {sl11 : Array (Option Value)} {oc11 kV11 dc11 pm11 cd11 ct11 : Value}
    {f12 : Addr} {od12 an12 : Option Addr} {sl12 : Array (Option Value)} {oc12 kV12 dc12 pm12 cd12 ct12 : Value}
    {f13 : Addr} {od13 an13 : Option Addr} {sl13 : Array (Option Value)} {oc13 kV13 dc13 pm13 cd13 ct13 : Value}
    {f14 : Addr} {od14 an14 : Option Addr} {sl14 : Array (Option Value)} {oc14 kV14 dc14 pm14 cd14 ct14 : Value}
    {f15 : Addr} {od15 an15 : Option Addr} {sl15 : Array (Option Value)} {oc15 kV15 dc15 pm15 cd15 ct15 : Value}
    {f16 : Addr} {od16 an16 : Option Addr} {sl16 : Array (Option Value)} {oc16 kV16 dc16 pm16 cd16 ct16 : Value}
    {f17 : Addr} {od17 an17 : Option Addr} {sl17 : Array (Option Value)} {oc17 kV17 dc17 pm17 cd17 ct17 : Value}
    (a1 : PySem.W.nsIn K mainGlobals "_law_pool" = some (some (.ref f1))) (l1 : K.lookup f1 = some ⟨oc1, od1, .func (PySem.W.fnOf "_law_pool" "_law_pool" (defArgs s_law_pool) (defBody s_law_pool) (defScope s_law_pool) .none kV1 dc1 pm1 an1 cd1 ct1), sl1⟩) (c1 : PySem.W.codeIn K cd1 "_law_pool" = true) (k1 : PySem.W.keepIn K (.ref f1) = true)
    (a2 : PySem.W.nsIn K mainGlobals "_law_take" = some (some (.ref f2))) (l2 : K.lookup f2 = some ⟨oc2, od2, .func (PySem.W.fnOf "_law_take" "_law_take" (defArgs s_law_take) (defBody s_law_take) (defScope s_law_take) .none kV2 dc2 pm2 an2 cd2 ct2), sl2⟩) (c2 : PySem.W.codeIn K cd2 "_law_take" = true) (k2 : PySem.W.keepIn K (.ref f2) = true)
    (a3 : PySem.W.nsIn K mainGlobals "_law_line" = some (some (.ref f3))) (l3 : K.lookup f3 = some ⟨oc3, od3, .func (PySem.W.fnOf "_law_line" "_law_line" (defArgs s_law_line) (defBody s_law_line) (defScope s_law_line) .none kV3 dc3 pm3 an3 cd3 ct3), sl3⟩) (c3 : PySem.W.codeIn K cd3 "_law_line" = true) (k3 : PySem.W.keepIn K (.ref f3) = true)
    (a4 : PySem.W.nsIn K mainGlobals "_law_lowest" = some (some (.ref f4))) (l4 : K.lookup f4 = some ⟨oc4, od4, .func (PySem.W.fnOf "_law_lowest" "_law_lowest" (defArgs s_law_lowest) (defBody s_law_lowest) (defScope s_law_lowest) .none kV4 dc4 pm4 an4 cd4 ct4), sl4⟩) (c4 : PySem.W.codeIn K cd4 "_law_lowest" = true) (k4 : PySem.W.keepIn K (.ref f4) = true)
    (a5 : PySem.W.nsIn K mainGlobals "_law_figures" = some (some (.ref f5))) (l5 : K.lookup f5 = some ⟨oc5, od5, .func (PySem.W.fnOf "_law_figures" "_law_figures" (defArgs s_law_figures) (defBody s_law_figures) (defScope s_law_figures) .none kV5 dc5 pm5 an5 cd5 ct5), sl5⟩) (c5 : PySem.W.codeIn K cd5 "_law_figures" = true) (k5 : PySem.W.keepIn K (.ref f5) = true)
    (a6 : PySem.W.nsIn K mainGlobals "_law_distance" = some (some (.ref f6))) (l6 : K.lookup f6 = some ⟨oc6, od6, .func (PySem.W.fnOf "_law_distance" "_law_distance" (defArgs s_law_distance) (defBody s_law_distance) (defScope s_law_distance) .none kV6 dc6 pm6 an6 cd6 ct6), sl6⟩) (c6 : PySem.W.codeIn K cd6 "_law_distance" = true) (k6 : PySem.W.keepIn K (.ref f6) = true)
    (a7 : PySem.W.nsIn K mainGlobals "_law_table" = some (some (.ref f7))) (l7 : K.lookup f7 = some ⟨oc7, od7, .func (PySem.W.fnOf "_law_table" "_law_table" (defArgs s_law_table) (defBody s_law_table) (defScope s_law_table) .none kV7 dc7 pm7 an7 cd7 ct7), sl7⟩) (c7 : PySem.W.codeIn K cd7 "_law_table" = true) (k7 : PySem.W.keepIn K (.ref f7) = true)
    (a8 : PySem.W.nsIn K mainGlobals "_law_copied" = some (some (.ref f8))) (l8 : K.lookup f8 = some ⟨oc8, od8, .func (PySem.W.fnOf "_law_copied" "_law_copied" (defArgs s_law_copied) (defBody s_law_copied) (defScope s_law_copied) .none kV8 dc8 pm8 an8 cd8 ct8), sl8⟩) (c8 : PySem.W.codeIn K cd8 "_law_copied" = true) (k8 : PySem.W.keepIn K (.ref f8) = true)
    (a9 : PySem.W.nsIn K mainGlobals "_law_points" = some (some (.ref f9))) (l9 : K.lookup f9 = some ⟨oc9, od9, .func (PySem.W.fnOf "_law_points" "_law_points" (defArgs s_law_points) (defBody s_law_points) (defScope s_law_points) .none kV9 dc9 pm9 an9 cd9 ct9), sl9⟩) (c9 : PySem.W.codeIn K cd9 "_law_points" = true) (k9 : PySem.W.keepIn K (.ref f9) = true)
    (a10 : PySem.W.nsIn K mainGlobals "is_point" = some (some (.ref f10))) (l10 : K.lookup f10 = some ⟨oc10, od10, .func (PySem.W.fnOf "is_point" "is_point" (defArgs s_is_point) (defBody s_is_point) (defScope s_is_point) .none kV10 dc10 pm10 an10 cd10 ct10), sl10⟩) (c10 : PySem.W.codeIn K cd10 "is_point" = true) (k10 : PySem.W.keepIn K (.ref f10) = true)
    (a11 : PySem.W.nsIn K mainGlobals "is_part" = some (some (.ref f11))) (l11 : K.lookup f11 = some ⟨oc11, od11, .func (PySem.W.fnOf "is_part" "is_part" (defArgs s_is_part) (defBody s_is_part) (defScope s_is_part) .none kV11 dc11 pm11 an11 cd11 ct11), sl11⟩) (c11 : PySem.W.codeIn K cd11 "is_part" = true) (k11 : PySem.W.keepIn K (.ref f11) = true)
    (a12 : PySem.W.nsIn K mainGlobals "part_of" = some (some (.ref f12))) (l12 : K.lookup f12 = some ⟨oc12, od12, .func (PySem.W.fnOf "part_of" "part_of" (defArgs s_part_of) (defBody s_part_of) (defScope s_part_of) .none kV12 dc12 pm12 an12 cd12 ct12), sl12⟩) (c12 : PySem.W.codeIn K cd12 "part_of" = true) (k12 : PySem.W.keepIn K (.ref f12) = true)
    (a13 : PySem.W.nsIn K mainGlobals "_law_own" = some (some (.ref f13))) (l13 : K.lookup f13 = some ⟨oc13, od13, .func (PySem.W.fnOf "_law_own" "_law_own" (defArgs s_law_own) (defBody s_law_own) (defScope s_law_own) .none kV13 dc13 pm13 an13 cd13 ct13), sl13⟩) (c13 : PySem.W.codeIn K cd13 "_law_own" = true) (k13 : PySem.W.keepIn K (.ref f13) = true)
    (a14 : PySem.W.nsIn K mainGlobals "_law_is" = some (some (.ref f14))) (l14 : K.lookup f14 = some ⟨oc14, od14, .func (PySem.W.fnOf "_law_is" "_law_is" (defArgs s_law_is) (defBody s_law_is) (defScope s_law_is) .none kV14 dc14 pm14 an14 cd14 ct14), sl14⟩) (c14 : PySem.W.codeIn K cd14 "_law_is" = true) (k14 : PySem.W.keepIn K (.ref f14) = true)
    (a15 : PySem.W.nsIn K mainGlobals "_law_refused" = some (some (.ref f15))) (l15 : K.lookup f15 = some ⟨oc15, od15, .func (PySem.W.fnOf "_law_refused" "_law_refused" (defArgs s_law_refused) (defBody s_law_refused) (defScope s_law_refused) .none kV15 dc15 pm15 an15 cd15 ct15), sl15⟩) (c15 : PySem.W.codeIn K cd15 "_law_refused" = true) (k15 : PySem.W.keepIn K (.ref f15) = true)
    (a16 : PySem.W.nsIn K mainGlobals "_law_just" = some (some (.ref f16))) (l16 : K.lookup f16 = some ⟨oc16, od16, .func (PySem.W.fnOf "_law_just" "_law_just" (defArgs s_law_just) (defBody s_law_just) (defScope s_law_just) .none kV16 dc16 pm16 an16 cd16 ct16), sl16⟩) (c16 : PySem.W.codeIn K cd16 "_law_just" = true) (k16 : PySem.W.keepIn K (.ref f16) = true)
    (a17 : PySem.W.nsIn K mainGlobals "law" = some (some (.ref f17))) (l17 : K.lookup f17 = some ⟨oc17, od17, .func (PySem.W.fnOf "law" "law" (defArgs s_law) (defBody s_law) (defScope s_law) .none kV17 dc17 pm17 an17 cd17 ct17), sl17⟩) (c17 : PySem.W.codeIn K cd17 "law" = true) (k17 : PySem.W.keepIn K (.ref f17) = true)
    (z_ValueError : PySem.W.nsIn K mainGlobals "ValueError" = some none)
    (z_abs : PySem.W.nsIn K mainGlobals "abs" = some none)
    (z_bool : PySem.W.nsIn K mainGlobals "bool" = some none)
    (z_int : PySem.W.nsIn K mainGlobals "int" = some none)
    (z_isinstance : PySem.W.nsIn K mainGlobals "isinstance" = some none)
    (z_len : PySem.W.nsIn K mainGlobals "len" = some none)
    (z_list : PySem.W.nsIn K mainGlobals "list" = some none)
    (z_max : PySem.W.nsIn K mainGlobals "max" = some none)
    (z_min : PySem.W.nsIn K mainGlobals "min" = some none)
    (z_range : PySem.W.nsIn K mainGlobals "range" = some none)
    (z_set : PySem.W.nsIn K mainGlobals "set" = some none)
    (z_tuple : PySem.W.nsIn K mainGlobals "tuple" = some none)
    (cc_CutError : PySem.W.nsIn K mainGlobals "CutError" = some (some (.ref C_CutError)))
    (cc_NoCut : PySem.W.nsIn K mainGlobals "NoCut" = some (some (.ref C_NoCut)))
    (cc_NoName : PySem.W.nsIn K mainGlobals "NoName" = some (some (.ref C_NoName)))
    (cc_NoNumber : PySem.W.nsIn K mainGlobals "NoNumber" = some (some (.ref C_NoNumber)))
    (cc_NoOrder : PySem.W.nsIn K mainGlobals "NoOrder" = some (some (.ref C_NoOrder)))
    (cc_NoPoint : PySem.W.nsIn K mainGlobals "NoPoint" = some (some (.ref C_NoPoint)))
    (cc_NoRow : PySem.W.nsIn K mainGlobals "NoRow" = some (some (.ref C_NoRow)))
    (cc_NoTable : PySem.W.nsIn K mainGlobals "NoTable" = some (some (.ref C_NoTable)))
    (cc_NoText : PySem.W.nsIn K mainGlobals "NoText" = some (some (.ref C_NoText)))
    (cc_NoWeb : PySem.W.nsIn K mainGlobals "NoWeb" = some (some (.ref C_NoWeb)))
    (cc_TooMany : PySem.W.nsIn K mainGlobals "TooMany" = some (some (.ref C_TooMany)))
    (r_CutError : RsCls K C_CutError)
    (r_NoPoint : RsCls K C_NoPoint)
    (x_NoPoint_ga : PySem.W.findIn K (.ref C_NoPoint) "__getattribute__" = some (some (.builtin "BaseException.__getattribute__")))
    (x_NoPoint_gt : PySem.W.findIn K (.ref C_NoPoint) "__getattr__" = some none)
    (x_NoPoint_cl : PySem.W.findIn K (.ref C_NoPoint) "__class__" = some (some (.builtin "object.__class__")))
    (x_NoPoint_isB : PySem.W.subIn K (.ref C_NoPoint) (.type "BaseException") = some true)
    (x_NoPoint_isO : PySem.W.subIn K (.ref C_NoPoint) (.type "object") = some true)
    (x_NoPoint_isC : PySem.W.isClsIn K C_NoPoint = true)
    (x_NoPoint_k1 : PySem.W.kitOne K (.ref C_NoPoint) (.type "int") = some false)
    (x_NoPoint_k2 : PySem.W.kitOne K (.ref C_NoPoint) (.type "bool") = some false)
    (x_NoPoint_k3 : PySem.W.kitOne K (.ref C_NoPoint) (.type "str") = some false)
    (x_NoPoint_k4 : PySem.W.kitOne K (.ref C_NoPoint) (.type "list") = some false)
    (x_NoPoint_k5 : PySem.W.kitOne K (.ref C_NoPoint) (.type "tuple") = some false)
    (u_NoPoint_CutError : PySem.W.subIn K (.ref C_NoPoint) (.ref C_CutError) = some true)
    (kt_NoPoint_NoCut : PySem.W.kitOne K (.ref C_NoPoint) (.ref C_NoCut) = some false)
    (kt_NoPoint_NoNumber : PySem.W.kitOne K (.ref C_NoPoint) (.ref C_NoNumber) = some false)
    (kt_NoPoint_NoPoint : PySem.W.kitOne K (.ref C_NoPoint) (.ref C_NoPoint) = some true)
    (kt_NoPoint_NoTable : PySem.W.kitOne K (.ref C_NoPoint) (.ref C_NoTable) = some false)
    (kt_NoPoint_ValueError : PySem.W.kitOne K (.ref C_NoPoint) (.type "ValueError") = some true)
    (ka_NoPoint_0 : PySem.W.kitAny K (.ref C_NoPoint) [.ref C_NoOrder, .ref C_TooMany, .ref C_NoWeb, .ref C_NoText, .ref C_NoName, .ref C_NoRow] = some false)
    : ∃ fd : FuncData, (∀ (s : Shared) (v : Value), BindsTo s fd ⟨[v], []⟩ [("script", v)]) ∧ ∀ base : Heap, K.In base → base.Ns mainGlobals mg → FnOk l.prog w K mg base CX0 5 fa fd ["script"] (spD K SLaw) := by
  have e := hfa.symm.trans (PySem.W.mg_of X G a17)
  cases e
  have F1 := fun_mk (st := s_law_pool) l1 c1 k1
  have b1 := F1.binds (ps := ["script", "k"]) fun _ _ _ _ _ _ us hl => match us, hl with | [_, _], _ => rfl
  have F2 := fun_mk (st := s_law_take) l2 c2 k2
  have b2 := F2.binds (ps := ["pool", "many"]) fun _ _ _ _ _ _ us hl => match us, hl with | [_, _], _ => rfl
  have F3 := fun_mk (st := s_law_line) l3 c3 k3
  have b3 := F3.binds (ps := ["pool", "many"]) fun _ _ _ _ _ _ us hl => match us, hl with | [_, _], _ => rfl
  have F4 := fun_mk (st := s_law_lowest) l4 c4 k4
  have b4 := F4.binds (ps := ["top", "bottom"]) fun _ _ _ _ _ _ us hl => match us, hl with | [_, _], _ => rfl
  have F5 := fun_mk (st := s_law_figures) l5 c5 k5
  have b5 := F5.binds (ps := ["pool"]) fun _ _ _ _ _ _ us hl => match us, hl with | [_], _ => rfl
  have F6 := fun_mk (st := s_law_distance) l6 c6 k6
  have b6 := F6.binds (ps := ["pool"]) fun _ _ _ _ _ _ us hl => match us, hl with | [_], _ => rfl
  have F7 := fun_mk (st := s_law_table) l7 c7 k7
  have b7 := F7.binds (ps := ["pool", "many"]) fun _ _ _ _ _ _ us hl => match us, hl with | [_, _], _ => rfl
  have F8 := fun_mk (st := s_law_copied) l8 c8 k8
  have b8 := F8.binds (ps := ["table"]) fun _ _ _ _ _ _ us hl => match us, hl with | [_], _ => rfl
  have F9 := fun_mk (st := s_law_points) l9 c9 k9
  have b9 := F9.binds (ps := ["pool", "many"]) fun _ _ _ _ _ _ us hl => match us, hl with | [_, _], _ => rfl
  have F10 := fun_mk (st := s_is_point) l10 c10 k10
  have b10 := F10.binds (ps := ["table", "point"]) fun _ _ _ _ _ _ us hl => match us, hl with | [_, _], _ => rfl
  have F11 := fun_mk (st := s_is_part) l11 c11 k11
  have b11 := F11.binds (ps := ["table", "points"]) fun _ _ _ _ _ _ us hl => match us, hl with | [_, _], _ => rfl
  have F12 := fun_mk (st := s_part_of) l12 c12 k12
  have b12 := F12.binds (ps := ["table", "points"]) fun _ _ _ _ _ _ us hl => match us, hl with | [_, _], _ => rfl
  have F13 := fun_mk (st := s_law_own) l13 c13 k13
  have b13 := F13.binds (ps := ["found", "due"]) fun _ _ _ _ _ _ us hl => match us, hl with | [_, _], _ => rfl
  have F14 := fun_mk (st := s_law_is) l14 c14 k14
  have b14 := F14.binds (ps := ["caught", "due"]) fun _ _ _ _ _ _ us hl => match us, hl with | [_, _], _ => rfl
  have F15 := fun_mk (st := s_law_refused) l15 c15 k15
  have b15 := F15.binds (ps := ["table", "points"]) fun _ _ _ _ _ _ us hl => match us, hl with | [_, _], _ => rfl
  have F16 := fun_mk (st := s_law_just) l16 c16 k16
  have b16 := F16.binds (ps := ["found", "due"]) fun _ _ _ _ _ _ us hl => match us, hl with | [_, _], _ => rfl
  have F17 := fun_mk (st := s_law) l17 c17 k17
  have b17 := F17.binds (ps := ["script"]) fun _ _ _ _ _ _ us hl => match us, hl with | [_], _ => rfl
  let T : Txt K mg := { f_law_pool := _, fd_law_pool := _, F_law_pool := F1, b_law_pool := b1, m_law_pool := PySem.W.mg_of X G a1, f_law_take := _, fd_law_take := _, F_law_take := F2, b_law_take := b2, m_law_take := PySem.W.mg_of X G a2, f_law_line := _, fd_law_line := _, F_law_line := F3, b_law_line := b3, m_law_line := PySem.W.mg_of X G a3, f_law_lowest := _, fd_law_lowest := _, F_law_lowest := F4, b_law_lowest := b4, m_law_lowest := PySem.W.mg_of X G a4, f_law_figures := _, fd_law_figures := _, F_law_figures := F5, b_law_figures := b5, m_law_figures := PySem.W.mg_of X G a5, f_law_distance := _, fd_law_distance := _, F_law_distance := F6, b_law_distance := b6, m_law_distance := PySem.W.mg_of X G a6, f_law_table := _, fd_law_table := _, F_law_table := F7, b_law_table := b7, m_law_table := PySem.W.mg_of X G a7, f_law_copied := _, fd_law_copied := _, F_law_copied := F8, b_law_copied := b8, m_law_copied := PySem.W.mg_of X G a8, f_law_points := _, fd_law_points := _, F_law_points := F9, b_law_points := b9, m_law_points := PySem.W.mg_of X G a9, f_is_point := _, fd_is_point := _, F_is_point := F10, b_is_point := b10, m_is_point := PySem.W.mg_of X G a10, f_is_part := _, fd_is_part := _, F_is_part := F11, b_is_part := b11, m_is_part := PySem.W.mg_of X G a11, f_part_of := _, fd_part_of := _, F_part_of := F12, b_part_of := b12, m_part_of := PySem.W.mg_of X G a12, f_law_own := _, fd_law_own := _, F_law_own := F13, b_law_own := b13, m_law_own := PySem.W.mg_of X G a13, f_law_is := _, fd_law_is := _, F_law_is := F14, b_law_is := b14, m_law_is := PySem.W.mg_of X G a14, f_law_refused := _, fd_law_refused := _, F_law_refused := F15, b_law_refused := b15, m_law_refused := PySem.W.mg_of X G a15, f_law_just := _, fd_law_just := _, F_law_just := F16, b_law_just := b16, m_law_just := PySem.W.mg_of X G a16, f_law := _, fd_law := _, F_law := F17, b_law := b17, m_law := PySem.W.mg_of X G a17, z_ValueError := PySem.W.mg_none_of X G z_ValueError, z_abs := PySem.W.mg_none_of X G z_abs, z_bool := PySem.W.mg_none_of X G z_bool, z_int := PySem.W.mg_none_of X G z_int, z_isinstance := PySem.W.mg_none_of X G z_isinstance, z_len := PySem.W.mg_none_of X G z_len, z_list := PySem.W.mg_none_of X G z_list, z_max := PySem.W.mg_none_of X G z_max, z_min := PySem.W.mg_none_of X G z_min, z_range := PySem.W.mg_none_of X G z_range, z_set := PySem.W.mg_none_of X G z_set, z_tuple := PySem.W.mg_none_of X G z_tuple, C_CutError := _, mC_CutError := PySem.W.mg_of X G cc_CutError, C_NoCut := _, mC_NoCut := PySem.W.mg_of X G cc_NoCut, C_NoName := _, mC_NoName := PySem.W.mg_of X G cc_NoName, C_NoNumber := _, mC_NoNumber := PySem.W.mg_of X G cc_NoNumber, C_NoOrder := _, mC_NoOrder := PySem.W.mg_of X G cc_NoOrder, C_NoPoint := _, mC_NoPoint := PySem.W.mg_of X G cc_NoPoint, C_NoRow := _, mC_NoRow := PySem.W.mg_of X G cc_NoRow, C_NoTable := _, mC_NoTable := PySem.W.mg_of X G cc_NoTable, C_NoText := _, mC_NoText := PySem.W.mg_of X G cc_NoText, C_NoWeb := _, mC_NoWeb := PySem.W.mg_of X G cc_NoWeb, C_TooMany := _, mC_TooMany := PySem.W.mg_of X G cc_TooMany, r_CutError := r_CutError, r_NoPoint := r_NoPoint, x_NoPoint_ga := x_NoPoint_ga, x_NoPoint_gt := x_NoPoint_gt, x_NoPoint_cl := x_NoPoint_cl, x_NoPoint_isB := x_NoPoint_isB, x_NoPoint_isO := x_NoPoint_isO, x_NoPoint_isC := x_NoPoint_isC, x_NoPoint_k1 := x_NoPoint_k1, x_NoPoint_k2 := x_NoPoint_k2, x_NoPoint_k3 := x_NoPoint_k3, x_NoPoint_k4 := x_NoPoint_k4, x_NoPoint_k5 := x_NoPoint_k5, u_NoPoint_CutError := u_NoPoint_CutError, kt_NoPoint_NoCut := kt_NoPoint_NoCut, kt_NoPoint_NoNumber := kt_NoPoint_NoNumber, kt_NoPoint_NoPoint := kt_NoPoint_NoPoint, kt_NoPoint_NoTable := kt_NoPoint_NoTable, kt_NoPoint_ValueError := kt_NoPoint_ValueError, ka_NoPoint_0 := ka_NoPoint_0 }
  exact ⟨PySem.W.fnOf "law" "law" (defArgs s_law) (defBody s_law) (defScope s_law) .none kV17 dc17 pm17 an17 cd17 ct17, fun s v => .of_eq rfl, fun base _ _ => ok_law (P := l.prog) (w := w) (base := base) T⟩
theorem walk {l : PySem.W.OpenLaw} {q : Program} {loose : List Str} {XP : (Str → Option Value) → Heap → Prop} {YP : World → Heap → Prop} {d : DefRec} {K : Params → PySem.W.Frag} (hn : l.most = some 63) (hdf : d.params.defaults = [])
    (hY : ∀ (w : World) (h : Heap), YP w h → (K w.params).In h)
    (F : ∀ (w : World) (mg : Str → Option Value) (fa : Addr) (h : Heap), (K w.params).In h → h.Ns mainGlobals mg → mg d.name = some (.ref fa) →
      ∃ fd : FuncData, (∀ (s : Shared) (u : Value), BindsTo s fd ⟨[u], []⟩ [("script", u)]) ∧ ∀ base : Heap, (K w.params).In base → base.Ns mainGlobals mg → FnOk l.prog w (K w.params) mg base CX0 5 fa fd ["script"] (spD (K w.params) SLaw)) :
    PySem.W.WalkO q loose XP YP l.row.toRowW d [] (fun f vs => PySem.call f vs) :=
  L2.walk_of (n := 63) (k := 5) (x := "script") (CX := fun _ => CX0) (sp := fun w => spD (K w.params) SLaw) hn (by decide) hdf ⟨rfl, by decide, by decide⟩ hY F (fun _ _ a ns hl _ hS => law_sp hl hS) fun _ _ _ _ _ z => z
end My
open PySem PySem.W PyProof.Rows
set_option maxRecDepth 100000 in
set_option maxHeartbeats 0 in
theorem PySem.Challenge.cw_farcuts_k08_parts_of_tables_holds : PySem.Challenge.rw_farcuts_k08_parts_of_tables.Holds := by
  w_on; o_law; k_head; (case hw => w_witness2)
  k_fill
  refine My.walk (l := PySem.Challenge.rw_farcuts_k08_parts_of_tables) rfl rfl (fun w h Y => PySem.W.kIn_of Y) ?F
  case F =>
    intro w mg fa h KX G hmg
    refine' My.all_mk KX G hmg ?a1 ?l1 ?c1 ?k1 ?a2 ?l2 ?c2 ?k2 ?a3 ?l3 ?c3 ?k3 ?a4 ?l4 ?c4 ?k4 ?a5 ?l5 ?c5 ?k5 ?a6 ?l6 ?c6 ?k6 ?a7 ?l7 ?c7 ?k7 ?a8 ?l8 ?c8 ?k8 ?a9 ?l9 ?c9 ?k9 ?a10 ?l10 ?c10 ?k10 ?a11 ?l11 ?c11 ?k11 ?a12 ?l12 ?c12 ?k12 ?a13 ?l13 ?c13 ?k13 ?a14 ?l14 ?c14 ?k14 ?a15 ?l15 ?c15 ?k15 ?a16 ?l16 ?c16 ?k16 ?a17 ?l17 ?c17 ?k17 ?z_ValueError ?z_abs ?z_bool ?z_int ?z_isinstance ?z_len ?z_list ?z_max ?z_min ?z_range ?z_set ?z_tuple ?cc_CutError ?cc_NoCut ?cc_NoName ?cc_NoNumber ?cc_NoOrder ?cc_NoPoint ?cc_NoRow ?cc_NoTable ?cc_NoText ?cc_NoWeb ?cc_TooMany ?r_CutError ?r_NoPoint ?x_NoPoint_ga ?x_NoPoint_gt ?x_NoPoint_cl ?x_NoPoint_isB ?x_NoPoint_isO ?x_NoPoint_isC ?x_NoPoint_k1 ?x_NoPoint_k2 ?x_NoPoint_k3 ?x_NoPoint_k4 ?x_NoPoint_k5 ?u_NoPoint_CutError ?kt_NoPoint_NoCut ?kt_NoPoint_NoNumber ?kt_NoPoint_NoPoint ?kt_NoPoint_NoTable ?kt_NoPoint_ValueError ?ka_NoPoint_0
    (case a1 => k_is)
    (case l1 => k_is)
    (case c1 => k_is)
    (case k1 => k_is)
    (case a2 => k_is)
    (case l2 => k_is)
    (case c2 => k_is)
    (case k2 => k_is)
    (case a3 => k_is)
    (case l3 => k_is)
    (case c3 => k_is)
    (case k3 => k_is)
    (case a4 => k_is)
    (case l4 => k_is)
    (case c4 => k_is)
    (case k4 => k_is)
    (case a5 => k_is)
    (case l5 => k_is)
    (case c5 => k_is)
    (case k5 => k_is)
    (case a6 => k_is)
    (case l6 => k_is)
    (case c6 => k_is)
    (case k6 => k_is)
    (case a7 => k_is)
    (case l7 => k_is)
    (case c7 => k_is)
    (case k7 => k_is)
    (case a8 => k_is)
    (case l8 => k_is)
    (case c8 => k_is)
    (case k8 => k_is)
    (case a9 => k_is)
    (case l9 => k_is)
    (case c9 => k_is)
    (case k9 => k_is)
    (case a10 => k_is)
    (case l10 => k_is)
    (case c10 => k_is)
    (case k10 => k_is)
    (case a11 => k_is)
    (case l11 => k_is)
    (case c11 => k_is)
    (case k11 => k_is)
    (case a12 => k_is)
    (case l12 => k_is)
    (case c12 => k_is)
    (case k12 => k_is)
    (case a13 => k_is)
    (case l13 => k_is)
    (case c13 => k_is)
    (case k13 => k_is)
    (case a14 => k_is)
    (case l14 => k_is)
    (case c14 => k_is)
    (case k14 => k_is)
    (case a15 => k_is)
    (case l15 => k_is)
    (case c15 => k_is)
    (case k15 => k_is)
    (case a16 => k_is)
    (case l16 => k_is)
    (case c16 => k_is)
    (case k16 => k_is)
    (case a17 => k_is)
    (case l17 => k_is)
    (case c17 => k_is)
    (case k17 => k_is)
    (case z_ValueError => k_is)
    (case z_abs => k_is)
    (case z_bool => k_is)
    (case z_int => k_is)
    (case z_isinstance => k_is)
    (case z_len => k_is)
    (case z_list => k_is)
    (case z_max => k_is)
    (case z_min => k_is)
    (case z_range => k_is)
    (case z_set => k_is)
    (case z_tuple => k_is)
    (case cc_CutError => k_is)
    (case cc_NoCut => k_is)
    (case cc_NoName => k_is)
    (case cc_NoNumber => k_is)
    (case cc_NoOrder => k_is)
    (case cc_NoPoint => k_is)
    (case cc_NoRow => k_is)
    (case cc_NoTable => k_is)
    (case cc_NoText => k_is)
    (case cc_NoWeb => k_is)
    (case cc_TooMany => k_is)
    (case r_CutError => show PySem.W.excIn _ _ _ _ = true; k_exc)
    (case r_NoPoint => show PySem.W.excIn _ _ _ _ = true; k_exc)
    (case x_NoPoint_ga => k_is)
    (case x_NoPoint_gt => k_is)
    (case x_NoPoint_cl => k_is)
    (case x_NoPoint_isB => k_is)
    (case x_NoPoint_isO => k_is)
    (case x_NoPoint_isC => k_is)
    (case x_NoPoint_k1 => kit_is)
    (case x_NoPoint_k2 => kit_is)
    (case x_NoPoint_k3 => kit_is)
    (case x_NoPoint_k4 => kit_is)
    (case x_NoPoint_k5 => kit_is)
    (case u_NoPoint_CutError => k_is)
    (case kt_NoPoint_NoCut => kit_is)
    (case kt_NoPoint_NoNumber => kit_is)
    (case kt_NoPoint_NoPoint => kit_is)
    (case kt_NoPoint_NoTable => kit_is)
    (case kt_NoPoint_ValueError => kit_is)
    (case ka_NoPoint_0 => kit_is)
#print axioms PySem.Challenge.cw_farcuts_k08_parts_of_tables_holds
