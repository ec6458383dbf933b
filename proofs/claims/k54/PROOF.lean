import PyProof.Rows.All
import Wide.All
import OpenK.AllK
import Wide.FinOn
import PyProof.EqAt
import PyProof.EqKinds
import PyProof.TupleCall
import PyProof.P3In
import PyProof.ZipIter
import PyProof.ListRange
import PyProof.SetRoads
import PyProof.Rows.SetFrom
import PyProof.Rows.SeqMore2
import KE.RegKIsAll
import PySem.Challenge.RW_farcuts_k54_points_that_bar_a_line
set_option Elab.async false
set_option linter.all false
set_option maxRecDepth 100000
/-! THE HAND LAYER, for ints, bools, texts, own classes, LISTS and tuples (index, slices, in, append, pop ..), calls, loops. Paste it whole ahead of your own text; what your proof does not reach may be deleted. -/
namespace L2
open PySem PySem.Spec PyProof.Rows
noncomputable abbrev Key:=Sum Int Str
noncomputable def Z3b:Key→Value→Bool
 | .inl k,v=>Value.isInt k v
 | .inr x,v=>Value.isStrOf x v
noncomputable def Z9a (w:World):Key→Int
 | .inl k=>hashInt k
 | .inr x=>hashStr w x
theorem Jf:∀ {k:Key} {v:Value},Z3b k v = true→(∃ i t,k = Sum.inl i∧v = Value.int i t)∨(∃ x t,k = Sum.inr x∧v = Value.str x t)
 | .inl i,v,h=>by
  obtain ⟨t,e⟩:=Value.isInt_shape (k:=i) (v:=v) h
  exact .inl ⟨i,t,rfl,e⟩
 | .inr x,v,h=>by
  obtain ⟨t,e⟩:=Value.isStrOf_shape (x:=x) (v:=v) h
  exact .inr ⟨x,t,rfl,e⟩
theorem Z08 (a b:Int):decide ((Sum.inl a:Key) = Sum.inl b) = (a == b):=by
 by_cases e:a = b
 ·subst e; simp
 ·have h:¬ (Sum.inl a:Key) = Sum.inl b:=fun q=>e (Sum.inl.inj q)
  rw [decide_eq_false h]
  exact (beq_eq_false_iff_ne.mpr e).symm
theorem Z2w (a b:Str):decide ((Sum.inr a:Key) = Sum.inr b) = decide (a = b):=by
 by_cases e:a = b
 ·subst e; simp
 ·have h:¬ (Sum.inr a:Key) = Sum.inr b:=fun q=>e (Sum.inr.inj q)
  rw [decide_eq_false h,decide_eq_false e]
theorem Z3y (a:Int) (b:Str):decide ((Sum.inl a:Key) = Sum.inr b) = false:=decide_eq_false (fun q=>nomatch q)
theorem Z0h (a:Str) (b:Int):decide ((Sum.inr a:Key) = Sum.inl b) = false:=decide_eq_false (fun q=>nomatch q)
noncomputable def Zmz (prog:Program) (w:World):PySem.KeyKind prog w Key where
 is:=Z3b
 hash:=Z9a w
 inj:=fun v a b ha hb=>by
  rcases Jf ha with ⟨i,t,rfl,rfl⟩ | ⟨x,t,rfl,rfl⟩
  ·rcases Jf hb with ⟨j,u,rfl,e⟩ | ⟨y,u,rfl,e⟩
   ·injection e with e1 _; rw [e1]
   ·exact nomatch e
  ·rcases Jf hb with ⟨j,u,rfl,e⟩ | ⟨y,u,rfl,e⟩
   ·exact nomatch e
   ·injection e with e1 _; rw [e1]
 byValue:=fun k v h=>by
  rcases Jf h with ⟨i,t,rfl,rfl⟩ | ⟨x,t,rfl,rfl⟩ <;> rfl
 pyHash:=fun hv h=>by
  rcases Jf hv with ⟨i,t,rfl,rfl⟩ | ⟨x,t,rfl,rfl⟩
  ·exact wpAny_pyHash_int h
  ·exact wpAny_pyHash_str h
 eqBool:=fun hu hv h=>by
  rcases Jf hu with ⟨i,t,rfl,rfl⟩ | ⟨x,t,rfl,rfl⟩
  ·rcases Jf hv with ⟨j,u,rfl,rfl⟩ | ⟨y,u,rfl,rfl⟩
   ·rw [Z08] at h; exact wpAny_eqBool_int h
   ·rw [Z3y] at h; exact SeqAt.EqAt.int_str i t y u _ _ _ _ h
  ·rcases Jf hv with ⟨j,u,rfl,rfl⟩ | ⟨y,u,rfl,rfl⟩
   ·rw [Z0h] at h; exact SeqAt.EqAt.str_int x t j u _ _ _ _ h
   ·rw [Z2w] at h; exact wpAny_eqBool_str h
 «strs»:=fun k x t v h=>by
  rcases Jf h with ⟨i,u,rfl,e⟩ | ⟨y,u,rfl,e⟩
  ·exact nomatch e
  ·injection e with e1 _
   subst e1
   cases v <;> rfl
end L2
namespace L2
open PySem PySem.Spec PyProof.Rows
inductive V where
 | non | bl (b:Bool) | int (i:Int) | str (x:Str) | byt (b:Array UInt8) | flt (b:UInt64) | ref (a:Addr) | ty (n:String)
 deriving DecidableEq
noncomputable def RelV:V→Value→Prop
 | .non,u=>u = Value.none
 | .bl b,u=>u = Value.bool b
 | .int i,u=>∃ t,u = Value.int i t
 | .str x,u=>∃ t,u = Value.str x t
 | .byt b,u=>∃ t,u = Value.bytes b t
 | .flt b,u=>∃ t,u = Value.float b t
 | .ref a,u=>u = Value.ref a
 | .ty n,u=>u = Value.type n
noncomputable abbrev Vals:List V→List Value→Prop:=Paired RelV
theorem Vals.length {xs:List V} {us:List Value} (r:Vals xs us):xs.length = us.length:=Paired.length r
theorem Vals.get {xs:List V} {us:List Value} {i:Nat} {x:V} (h:Vals xs us) (e:xs[i]? = some x):∃ u,us[i]? = some u∧RelV x u:=by
 induction h generalizing i with
 | nil=>exact (Option.some_ne_none _ (e.symm.trans List.getElem?_nil)).elim
 | cons r t ih =>
  cases i with
  | zero=>exact ⟨_,rfl,Option.some.inj e ▸ r⟩
  | succ i=>exact ih e
theorem Vals.set {x:V} {u:Value} (r:RelV x u) {xs:List V} {us:List Value} (i:Nat) (h:Vals xs us):Vals (xs.set i x) (us.set i u):=by
 induction h generalizing i with
 | nil=>exact .nil
 | cons q t ih =>
  cases i with
  | zero=>exact .cons r t
  | succ i=>exact .cons q (ih i)
theorem Vals.append {xs ys:List V} {us ws:List Value} (h:Vals xs us) (s:Vals ys ws):Vals (xs ++ ys) (us ++ ws):=by
 induction h with
 | nil=>exact s
 | cons r t ih=>exact .cons r ih
theorem Vals.take {xs:List V} {us:List Value} (n:Nat) (h:Vals xs us):Vals (xs.take n) (us.take n):=by
 induction h generalizing n with
 | nil=>rw [List.take_nil,List.take_nil]; exact .nil
 | cons r t ih =>
  cases n with
  | zero=>exact .nil
  | succ n=>exact .cons r (ih n)
theorem Vals.drop {xs:List V} {us:List Value} (n:Nat) (h:Vals xs us):Vals (xs.drop n) (us.drop n):=by
 induction h generalizing n with
 | nil=>rw [List.drop_nil,List.drop_nil]; exact .nil
 | cons r t ih =>
  cases n with
  | zero=>exact .cons r t
  | succ n=>exact ih n
noncomputable def Z5p:Option V→Option Value→Prop
 | some v,some u=>RelV v u
 | none,none=>True
 | _,_=>False
noncomputable def KV {κ:Type}:List (κ × V)→List (κ × Value)→Prop:=Paired fun (p:κ × V) (q:κ × Value)=>p.1 = q.1∧RelV p.2 q.2
noncomputable def kV:Key→V
 | .inl i=>.int i
 | .inr x=>.str x
inductive HO where
  | lst (xs:List V)
  | tup (xs:List V)
  | dK (kvs:List (Key × V)) | dT (kvs:List (List Key × V))
  | set (S:Int→Bool) (n:Nat)
  | ins (C dx:Addr) (fs:List (Str × V))
  | own (x:Addr)
  | xd (fs:List (Str × V))
  | met (f x:Addr)
  | rng (lo hi:Int)
  | frz (o:Obj) (u:HO)
  | tbl (ps:Array Value)
  | ext (φ:Heap→Prop)
noncomputable abbrev Hp:=Addr→Option HO
noncomputable def upd (H:Hp) (a:Addr) (o:HO):Hp:=fun b=>if b = a then some o else H b
theorem Y5 {H:Hp} {a:Addr} {o:HO}:upd H a o a = some o:=by unfold upd; rw [if_pos rfl]
theorem Yq {H:Hp} {a b:Addr} {o:HO} (h:b ≠ a):upd H a o b = H b:=by unfold upd; rw [if_neg h]
theorem Ja {H:Hp} {a b:Addr} {o:HO} (h:H a = some o) (h':H b = none):a ≠ b:=by
 intro e; subst e; rw [h] at h'; cases h'
section
variable (P:Program) (w:World)
noncomputable def ObjOk (H:Hp) (h:Heap) (a:Addr):HO→Prop
 | .lst xs=>xs.length ≤ sizeLine∧∃ (its:List Value) (n:Nat),Vals xs its∧h.get? a = some { cls:=.type "list", data:=.seq its.toArray n }
 | .tup xs=>xs.length ≤ sizeLine∧∃ its:List Value,Vals xs its∧IsTup h a its.toArray
 | .dK kvs=>kvs.length ≤ sizeLine∧(a == sysModules) = false∧∃ vs,KV kvs vs∧h.DictOf (Zmz P w) a vs
 | .dT kvs=>kvs.length ≤ sizeLine∧(a == sysModules) = false∧∃ xs:List (List Key × Addr × Value),
   Paired (fun (p:List Key × V) (q:List Key × Addr × Value)=>p.1 = q.1∧H q.2.1 = some (.tup (p.1.map kV))∧RelV p.2 q.2.2) kvs xs ∧
   ∃ o es ep,h.get? a = some o∧o.ExactDict∧o.data = .dict es ep∧es.toList = xs.map (entryOfKey (tupleKind (Zmz P w)))∧(xs.map (·.1)).Nodup
 | .set S n=>h.SetOf (intKind P w) a S n
 | .ins C dx fs=>H dx = some (.own a)∧fs.length ≤ 1000∧dx ≠ a∧h.get? a = some (PySem.W.instObj C dx) ∧
   ∃ mA,h.Ns1 dx mA∧(∀ f,Z5p (fs.lookup f) (mA f))∧PySem.Within mA (fs.map (·.1))
 | .own _=>∃ o,h.get? a = some o
 | .xd fs=>∃ mA,h.Ns1 a mA∧∀ f,Z5p (fs.lookup f) (mA f)
 | .rng lo hi=>∃ t u v,h.get? a = some { cls:=.type "range", data:=.fields #[.int lo t,.int hi u,.int 1 v] }
 | .frz o u=>h.get? a = some o∧ObjOk H h a u
 | .tbl ps=>h.get? a = some { cls:=.none,data:=.fields ps }
 | .met f x=>h.get? a = some (PySem.W.methodObj (.ref f) (.ref x))
 | .ext φ=>φ h∧(∃ o,h.get? a = some o)∧∀ h1 h2:Heap,φ h1→(∀ o,h1.get? a = some o→h2.get? a = some o)→φ h2
noncomputable def HOk (H:Hp) (h:Heap):Prop:=∀ a o,H a = some o→ObjOk P w H h a o
end
section
variable {P:Program} {w:World} {H H':Hp} {h h':Heap} {a:Addr} {o:HO}
theorem ObjOk.lt (x:ObjOk P w H h a o):a < h.objs.size:=by
 cases o with
 | lst xs=>obtain ⟨_,_,_,_,e⟩:=x; exact Heap.lt_size e
 | tup xs=>obtain ⟨_,_,_,p⟩:=x; exact p.lt
 | dK kvs=>obtain ⟨_,_,_,_,o,_,_,e,_⟩:=x; exact Heap.lt_size e
 | dT kvs=>obtain ⟨_,_,_,_,o,_,_,e,_⟩:=x; exact Heap.lt_size e
 | set S n=>obtain ⟨o,_,_,_,e,_⟩:=x; exact Heap.lt_size e
 | ins C dx fs=>obtain ⟨_,_,_,e,_⟩:=x; exact Heap.lt_size e
 | own y=>obtain ⟨_,e⟩:=x; exact Heap.lt_size e
 | xd fs=>obtain ⟨_,⟨_,_,_,e,_⟩,_⟩:=x; exact Heap.lt_size e
 | rng lo hi=>obtain ⟨_,_,_,e⟩:=x; exact Heap.lt_size e
 | frz ob u=>obtain ⟨e,_⟩:=x; exact Heap.lt_size e
 | tbl ps=>exact Heap.lt_size (show h.get? a = some _ from x)
 | met f y=>exact Heap.lt_size (show h.get? a = some _ from x)
 | ext φ=>obtain ⟨_,⟨_,e⟩,_⟩:=x; exact Heap.lt_size e
theorem Paired.mapP {α β:Type} {F G:α→β→Prop} {l₁:List α} {l₂:List β} (h:Paired F l₁ l₂) (f:∀ a b,F a b→G a b):Paired G l₁ l₂:=by
 induction h with
 | nil=>exact .nil
 | cons r t ih=>exact .cons (f _ _ r) ih
theorem ObjOk.stay (x:ObjOk P w H h a o) (k:∀ b u,(b = a∨H b = some (.own a))→h.get? b = some u→h'.get? b = some u)
  (ho:∀ b,H b = some (.own a)→H' b = some (.own a)) (ht:∀ b xs,H b = some (.tup xs)→H' b = some (.tup xs)):ObjOk P w H' h' a o:=by
 induction o with
 | lst xs=>obtain ⟨z,its,n,r,e⟩:=x; exact ⟨z,its,n,r,k _ _ (.inl rfl) e⟩
 | tup xs=>obtain ⟨z,its,r,ob,e,c⟩:=x; exact ⟨z,its,r,ob,k _ _ (.inl rfl) e,c⟩
 | dK kvs=>obtain ⟨z,y,vs,r,ob,es,ep,e,c⟩:=x; exact ⟨z,y,vs,r,ob,es,ep,k _ _ (.inl rfl) e,c⟩
 | dT kvs =>
  obtain ⟨z,y,xs,r,ob,es,ep,e,c⟩:=x
  exact ⟨z,y,xs,Paired.mapP r fun p q z=>⟨z.1,ht _ _ z.2.1,z.2.2⟩,ob,es,ep,k _ _ (.inl rfl) e,c⟩
 | set S n=>obtain ⟨ob,es,ep,t,e,c⟩:=x; exact ⟨ob,es,ep,t,k _ _ (.inl rfl) e,c⟩
 | ins C dx fs =>
  obtain ⟨d,z,ne,e,mA,⟨od,es,ep,e2,c⟩,r⟩:=x
  exact ⟨ho _ d,z,ne,k _ _ (.inl rfl) e,mA,⟨od,es,ep,k _ _ (.inr d) e2,c⟩,r⟩
 | own y=>obtain ⟨ob,e⟩:=x; exact ⟨ob,k _ _ (.inl rfl) e⟩
 | xd fs=>obtain ⟨mA,⟨od,es,ep,e,c⟩,r⟩:=x; exact ⟨mA,⟨od,es,ep,k _ _ (.inl rfl) e,c⟩,r⟩
 | rng lo hi=>obtain ⟨t,u,v,e⟩:=x; exact ⟨t,u,v,k _ _ (.inl rfl) e⟩
 | frz ob u ih=>obtain ⟨e,q⟩:=x; exact ⟨k _ _ (.inl rfl) e,ih q⟩
 | tbl ps =>
  have e:h.get? a = some { cls:=.none,data:=.fields ps }:=x
  show h'.get? a = some { cls:=.none,data:=.fields ps }
  exact k a _ (.inl rfl) e
 | met f y =>
  have e:h.get? a = some (PySem.W.methodObj (.ref f) (.ref y)):=x
  show h'.get? a = some (PySem.W.methodObj (.ref f) (.ref y))
  exact k a _ (.inl rfl) e
 | ext φ=>obtain ⟨p,⟨o,e⟩,st⟩:=x; exact ⟨st _ _ p fun o q=>k _ _ (.inl rfl) q,⟨o,k _ _ (.inl rfl) e⟩,st⟩
theorem HOk.lt (x:HOk P w H h) (e:H a = some o):a < h.objs.size:=(x a o e).lt
theorem HOk.fresh (x:HOk P w H h) (e:h.objs.size ≤ a):H a = none:=by
 cases q:H a with
 | none=>rfl
 | some u=>exact absurd (Nat.lt_of_lt_of_le (x.lt q) e) (Nat.lt_irrefl _)
theorem HOk.kept (x:HOk P w H h) (k:∀ b u,h.get? b = some u→h'.get? b = some u):HOk P w H h':=fun a o e =>
 (x a o e).stay (fun b u _ q=>k b u q) (fun _ q=>q) fun _ _ q=>q
theorem HOk.laid (x:HOk P w H h) (k:∀ b u,h.get? b = some u→h'.get? b = some u) (hp:h.objs.size ≤ a) (new:ObjOk P w (upd H a o) h' a o):HOk P w (upd H a o) h':=fun b u e=>by
 have hn:=x.fresh hp
 by_cases hb:b = a
 ·subst hb; rw [Y5] at e; cases e; exact new
 ·rw [Yq hb] at e
  exact (x b u e).stay (fun c v _ q=>k c v q) (fun c q=>by rw [Yq (Ja q hn)]; exact q) fun c xs q=>by rw [Yq (Ja q hn)]; exact q
end
noncomputable def Rd (H:Hp) (a:Addr) (u:HO):Prop:=H a = some u∨∃ o,H a = some (.frz o u)
theorem Rd.ok {P:Program} {w:World} {H:Hp} {h:Heap} {a:Addr} {u:HO} (r:Rd H a u) (x:HOk P w H h):ObjOk P w H h a u:=by
 rcases r with r | ⟨o,r⟩
 ·exact x a u r
 ·obtain ⟨_,q⟩:=x a _ r
  exact q
noncomputable def Mut:Option HO→Prop
 | some (.lst _)=>True
 | some (.dK _)=>True
 | some (.dT _)=>True
 | some (.set _ _)=>True
 | some (.ins _ _ _)=>True
 | some (.ext _)=>True
 | _=>False
section
variable {P:Program} {w:World} {H:Hp} {h h':Heap} {x e:Addr} {o':HO}
theorem HOk.write (ok:HOk P w H h) (mu:Mut (H x)) (he:e = x∨H e = some (.own x)) (k:∀ b u,b ≠ e→h.get? b = some u→h'.get? b = some u) (heo:∃ u,h'.get? e = some u)
  (new:ObjOk P w (upd H x o') h' x o'):HOk P w (upd H x o') h':=fun b u q=>by
 have nown:∀ c y,H c = some (.own y)→c ≠ x:=fun c y r z=>by subst z; rw [r] at mu; exact mu
 have ntup:∀ c xs,H c = some (.tup xs)→c ≠ x:=fun c xs r z=>by subst z; rw [r] at mu; exact mu
 by_cases hb:b = x
 ·subst hb; rw [Y5] at q; cases q; exact new
 ·rw [Yq hb] at q
  by_cases hbe:b = e
  ·have q':H b = some (.own x):=by
    rcases he with z | z
    ·exact absurd (hbe.trans z) hb
    ·rw [hbe]; exact z
   rw [q] at q'; cases q'
   obtain ⟨v,hv⟩:=heo
   exact ⟨v,by rw [hbe]; exact hv⟩
  ·refine (ok b u q).stay (fun c v hc r=>k c v ?_ r) (fun c r=>by rw [Yq (nown c b r)]; exact r) fun c xs r=>by rw [Yq (ntup c xs r)]; exact r
   rcases hc with rfl | hc
   ·exact hbe
   ·rintro rfl
    rcases he with z | z
    ·exact nown c b hc z
    ·rw [hc] at z; cases z; exact hb rfl
end
structure Un (fs ex:List Addr) (H H':Hp) (h h':Heap):Prop where
 keep:∀ b o,h.get? b = some o→H b = none→b ∉ fs→b ∉ ex→h'.get? b = some o
 slot:∀ b o,h.get? b = some o→H b = none→b ∈ fs→b ∉ ex→∃ sl,h'.get? b = some { o with slots:=sl }
 free:∀ b o,h.get? b = some o→H b = none→b ∉ ex→H' b = none
 there:∀ b o,h.get? b = some o→b ∉ ex→∃ o',h'.get? b = some o'
 tups:∀ b xs,H b = some (.tup xs)→H' b = some (.tup xs)
 frzs:∀ b o u,H b = some (.frz o u)→H' b = some (.frz o u)
 tbls:∀ b ps,H b = some (.tbl ps)→∃ more,H' b = some (.tbl (ps ++ more))
section
variable {fs fs' ex ex':List Addr} {H H1 H2:Hp} {h h1 h2 h':Heap} {a x e:Addr} {o:HO}
theorem Un.any (u:Un fs ex H H1 h h1) {b:Addr} {ob:Obj} (q:h.get? b = some ob) (n:H b = none) (hx:b ∉ ex):∃ sl,h1.get? b = some { ob with slots:=sl }:=by
 by_cases hb:b ∈ fs
 ·exact u.slot b ob q n hb hx
 ·exact ⟨ob.slots,u.keep b ob q n hb hx⟩
theorem Un.kept (k:∀ b u,h.get? b = some u→h'.get? b = some u):Un fs ex H H h h' :=
 ⟨fun b ob q _ _ _=>k b ob q,fun b ob q _ _ _=>⟨ob.slots,k b ob q⟩,fun _ _ _ n _=>n,fun b ob q _=>⟨ob,k b ob q⟩,fun _ _ q=>q,fun _ _ _ q=>q,fun _ ps q=>⟨#[],by rw [q]; simp⟩⟩
theorem Un.refl:Un fs ex H H h h:=Un.kept fun _ _ q=>q
theorem Un.laid (k:∀ b u,h.get? b = some u→h'.get? b = some u) (hp:h.objs.size ≤ a) (hn:H a = none):Un fs ex H (upd H a o) h h' where
 keep:=fun b u q _ _ _=>k b u q
 slot:=fun b u q _ _ _=>⟨u.slots,k b u q⟩
 free:=fun b u q n _=>by rw [Yq (Nat.ne_of_lt (Nat.lt_of_lt_of_le (Heap.lt_size q) hp))]; exact n
 there:=fun b u q _=>⟨u,k b u q⟩
 tups:=fun b xs q=>by rw [Yq (Ja q hn)]; exact q
 frzs:=fun b u xs q=>by rw [Yq (Ja q hn)]; exact q
 tbls:=fun b ps q=>⟨#[],by rw [Yq (Ja q hn),q]; simp⟩
theorem Un.write (mu:Mut (H x)) (he:e = x∨H e = some (.own x)) (k:∀ b u,b ≠ e→h.get? b = some u→h'.get? b = some u) (heo:∃ u,h'.get? e = some u):Un fs ex H (upd H x o) h h':=by
 have hx:∀ b,H b = none→b ≠ x:=fun b n z=>by subst z; rw [n] at mu; exact mu
 have hb:∀ b,H b = none→b ≠ e:=fun b n z=>by
  subst z
  rcases he with r | r
  ·exact hx b n r
  ·rw [n] at r; cases r
 have hm:∀ b u,H b = some u→¬ Mut (some u)→b ≠ x:=fun b u q nm z=>by subst z; rw [q] at mu; exact nm mu
 refine ⟨fun b u q n _ _=>k b u (hb b n) q,fun b u q n _ _=>⟨u.slots,k b u (hb b n) q⟩,fun b u q n _=>by rw [Yq (hx b n)]; exact n,fun b u q _=>?_,
  fun b xs q=>by rw [Yq (hm b _ q fun z=>z)]; exact q,fun b u xs q=>by rw [Yq (hm b _ q fun z=>z)]; exact q,fun b ps q=>⟨#[],by rw [Yq (hm b _ q fun z=>z),q]; simp⟩⟩
 by_cases hbe:b = e
 ·subst hbe; exact heo
 ·exact ⟨u,k b u hbe q⟩
end
noncomputable def trk (h:Heap) (H:Hp):List Addr:=(List.range h.objs.size).filter fun a=>(H a).isSome
noncomputable def Zuo (h:Heap) (H:Hp):Heap:=PySem.W.hideAll h (trk h H)
theorem Zqm (h:Heap) (H:Hp):(Zuo h H).objs.size = h.objs.size:=PySem.W.hideAll_size _ _
theorem Zuv {h:Heap} {H:Hp} {b:Addr} {o:Obj} (e:h.get? b = some o) (n:H b = none):(Zuo h H).get? b = some o :=
 PySem.W.hideAll_get _ e fun hm=>by
  have q:(H b).isSome = true:=(List.mem_filter.mp hm).2
  rw [n] at q; simp at q
theorem Zzb {h:Heap} {H:Hp} {b:Addr} {o:Obj} (e:(Zuo h H).get? b = some o):h.get? b = some o∧H b = none:=by
 have e':h.get? b = some o:=PySem.W.of_hideAll (trk h H) e
 refine ⟨e',?_⟩
 cases q:H b with
 | none=>rfl
 | some x =>
  have hm:b ∈ trk h H:=List.mem_filter.mpr ⟨List.mem_range.mpr (Heap.lt_size e'),by simp [q]⟩
  have z:(Zuo h H).get? b = none:=PySem.W.hideAll_none (trk h H) hm
  rw [z] at e; cases e
noncomputable def Zys (g h:Heap) (L:Addr):List (Addr × Obj):=(List.range h.objs.size).filterMap fun a=>if a = L∨(g.get? a).isSome = true then none else (h.get? a).map fun o=>(a,o)
noncomputable def rest (g h:Heap) (L d:Addr):List (Addr × Obj):=(Zys g h L).filter fun p=>decide (p.1 ≠ d)
end L2
namespace L2
open PySem PySem.Spec PyProof.Rows
structure Mod (K:PySem.W.Frag) (mg:Str→Option Value) (base:Heap):Prop where
 kin:K.In base
 glob:base.Ns mainGlobals mg
 blt:∃ mb,base.Ns builtinsNs mb∧∀ x:Str,x ≠ "__name__" → mb x = bootBuiltins x
 nolimit:base.NoLimit
set_option genInjectivity false in
structure Cx where
 prog:Program
 w:World
 K:PySem.W.Frag
 mg:Str→Option Value
 base:Heap
 A:Around
 N:List Str
 s₀:Shared
 H₀:Hp
 env:Env
 outer:List Env
 stack:List Env
 ex:List Addr
 fn:Str→Bool
 calm:Bool
 pn:List (Addr × Obj)
 xe:Value→Shared→Prop
noncomputable def frs (l:List Env):List Addr:=l.filterMap (·.frame)
noncomputable abbrev Cx.fs (X:Cx):List Addr:=frs X.outer
noncomputable def Vis (sc:Scope) (x:Str):Prop:=sc.names.lookup x = some .local∨sc.names.lookup x = some .cell∨sc.names.lookup x = some .free
noncomputable def Loc (sc:Scope) (x:Str):Prop:=sc.names.lookup x = some .local∨sc.names.lookup x = some .cell
noncomputable def Look (env:Env) (h:Heap) (m:Str→Option Value) (x:Str) (u:Value):Prop :=
 (env.kindOf x = some .local∧m x = some u)∨((env.kindOf x = some .cell∨env.kindOf x = some .free)∧∃ c,env.cells.lookup x = some c∧h.IsCell c (some u))
structure Cx.Ok (X:Cx):Prop where
 mod:Mod X.K X.mg X.base
 kind:X.env.scope.kind = .function
 glob:X.env.globals = mainGlobals
 blt:X.env.builtins = builtinsNs
 above:X.s₀.heap.objs.size ≤ X.env.locals
 inj:∀ x y c,X.env.cells.lookup x = some c→X.env.cells.lookup y = some c→x = y
 has:∀ x,(X.env.kindOf x = some .cell∨X.env.kindOf x = some .free)→∃ c,X.env.cells.lookup x = some c
 cab:∀ x c,X.fn x = true→X.env.cells.lookup x = some c→X.s₀.heap.objs.size ≤ c
 hd:X.calm = true→X.A.handled = none
 frames:X.A.frames = some X.stack
 stk:X.stack = X.outer∨(X.stack = X.env :: X.outer∧X.env.frame = some X.env.locals)
 exf:∀ b ∈ X.ex,b ≠ X.env.locals∧∀ x c,X.env.cells.lookup x = some c→c ≠ b
 bs:∀ b o,X.base.get? b = some o→X.s₀.heap.get? b = some o∧X.H₀ b = none
 bsz:X.base.objs.size ≤ X.s₀.heap.objs.size
 noex:∀ b o,X.base.get? b = some o→b ∉ X.ex
 exfs:∀ b ∈ X.ex,b ∉ X.fs
 funs:X.s₀.heap.FunFrames X.base X.outer
 frf:∀ b ∈ X.fs,X.H₀ b = none
structure Inv (X:Cx) (pins:List (Addr × Obj)) (σ:List (Option V)) (H:Hp) (s:Shared):Prop where
 ok:X.Ok
 os:s.os = X.s₀.os
 bare:AllBare s.gens
 base:Un X.fs X.ex X.H₀ H X.s₀.heap s.heap
 loc:∃ m,s.heap.Ns X.env.locals m∧∀ (i:Nat) (x:Str) (v:V),X.N[i]? = some x→σ[i]? = some (some v)→Vis X.env.scope x→∃ u,RelV v u∧Look X.env s.heap m x u
 cell:∀ x c,X.env.cells.lookup x = some c→∃ v,s.heap.IsCell c v
 free:H X.env.locals = none
 freeC:∀ x c,X.env.cells.lookup x = some c→H c = none
 pin:∀ p ∈ X.pn ++ pins,s.heap.get? p.1 = some p.2∧H p.1 = none∧p.1 ≠ X.env.locals∧p.1 ∉ X.fs∧∀ v,p.2.data ≠ .cell v
 hok:HOk X.prog X.w H s.heap
 len:σ.length = X.N.length
section
variable {X:Cx} {pins:List (Addr × Obj)} {σ:List (Option V)} {H H':Hp} {s:Shared} {h':Heap}
theorem Cx.Ok.nofr (ok:X.Ok) {b:Addr} {o:Obj} (e:X.base.get? b = some o):b ∉ X.fs:=fun hb=>by
 have:=(ok.funs.mem hb).1
 rw [e] at this; cases this
theorem Inv.bs (I:Inv X pins σ H s):∀ b o,X.base.get? b = some o→s.heap.get? b = some o∧H b = none:=fun b o e =>
 ⟨I.base.keep b o (I.ok.bs b o e).1 (I.ok.bs b o e).2 (I.ok.nofr e) (I.ok.noex b o e),I.base.free b o (I.ok.bs b o e).1 (I.ok.bs b o e).2 (I.ok.noex b o e)⟩
theorem Inv.bk (I:Inv X pins σ H s):∀ b o,X.base.get? b = some o→s.heap.get? b = some o:=fun b o e=>(I.bs b o e).1
theorem Inv.mod (I:Inv X pins σ H s):Mod X.K X.mg X.base:=I.ok.mod
theorem Inv.kIn (I:Inv X pins σ H s):X.K.In s.heap:=I.ok.mod.kin.keeps I.bk
theorem Inv.lt (I:Inv X pins σ H s):X.env.locals < s.heap.objs.size:=let ⟨_,hn,_⟩:=I.loc; hn.lt
theorem Inv.sz (I:Inv X pins σ H s):X.s₀.heap.objs.size ≤ s.heap.objs.size:=Nat.le_trans I.ok.above (Nat.le_of_lt I.lt)
theorem Inv.nofs (I:Inv X pins σ H s) {a:Addr} (h:s.heap.objs.size ≤ a):a ∉ X.fs:=fun hb=>by
 obtain ⟨_,o,ho,_⟩:=I.ok.funs.mem hb
 exact absurd (Nat.lt_of_lt_of_le (Heap.lt_size ho) (Nat.le_trans I.sz h)) (Nat.lt_irrefl _)
theorem Inv.cne (I:Inv X pins σ H s):∀ x c,X.env.cells.lookup x = some c→c ≠ X.env.locals:=fun x c e z=>by
 obtain ⟨v,o,ho,hd⟩:=I.cell x c e
 obtain ⟨m,⟨o',es,ep,ho',hd',_⟩,_⟩:=I.loc
 rw [z,ho'] at ho; cases ho; rw [hd'] at hd; cases hd
theorem Inv.funs (I:Inv X pins σ H s):s.heap.FunFrames X.base X.outer:=by
 have all:∀ (l:List Env),(∀ b ∈ frs l,b ∈ X.fs)→X.s₀.heap.FunFrames X.base l→s.heap.FunFrames X.base l:=by
  intro l
  induction l with
  | nil=>intro _ _; trivial
  | cons env r ih =>
   intro hs hl
   obtain ⟨hk,⟨L,o,hf,hn,ho,hd⟩,hr⟩:=hl
   have hL:L ∈ X.fs:=hs L (by unfold frs; rw [List.filterMap_cons,hf]; exact List.mem_cons_self)
   obtain ⟨sl,e⟩:=I.base.slot L o ho (I.ok.frf L hL) hL fun z=>I.ok.exfs L z hL
   exact ⟨hk,⟨L,_,hf,hn,e,hd⟩,ih (fun b hb=>hs b (by unfold frs; rw [List.filterMap_cons,hf]; exact List.mem_cons_of_mem _ hb)) hr⟩
 exact all X.outer (fun _ hb=>hb) I.ok.funs
theorem Inv.stack (I:Inv X pins σ H s):s.heap.FunFrames X.base X.stack:=by
 rcases I.ok.stk with e | ⟨e,hf⟩
 ·rw [e]; exact I.funs
 ·rw [e]
  obtain ⟨m,hn,_⟩:=I.loc
  refine .cons (by rw [I.ok.kind]; decide) hf hn ?_ I.funs
  exact Heap.get?_none_of_le (Nat.le_trans I.ok.bsz I.ok.above)
theorem Inv.stkSub (I:Inv X pins σ H s):∀ b ∈ frs X.stack,b ∈ X.env.locals :: X.fs:=fun b hb=>by
 rcases I.ok.stk with e | ⟨e,hf⟩
 ·rw [e] at hb; exact List.mem_cons_of_mem _ hb
 ·rw [e] at hb
  unfold frs at hb
  rw [List.filterMap_cons,hf] at hb
  exact hb
theorem Inv.stkFree (I:Inv X pins σ H s):∀ b ∈ frs X.stack,H b = none:=fun b hb=>by
 rcases List.mem_cons.mp (I.stkSub b hb) with e | hb
 ·rw [e]; exact I.free
 ·obtain ⟨_,o,ho,_⟩:=I.ok.funs.mem hb
  exact I.base.free b o ho (I.ok.frf b hb) fun z=>I.ok.exfs b z hb
theorem Inv.step {g':Array GenState} {t':Nat} {d':Drawn} {ch:List Addr} (I:Inv X pins σ H s)
  (hch:∀ b ∈ ch,(b ∈ X.ex∨X.s₀.heap.objs.size ≤ b)∧b ≠ X.env.locals∧(∀ x c,X.env.cells.lookup x = some c→c ≠ b)∧∀ p ∈ X.pn ++ pins,p.1 ≠ b)
  (keep:∀ b o,b ≠ X.env.locals→b ∉ X.fs→b ∉ ch→s.heap.get? b = some o→H b = none→h'.get? b = some o)
  (slot:∀ b o,b ≠ X.env.locals→b ∈ X.fs→b ∉ ch→s.heap.get? b = some o→H b = none→∃ sl,h'.get? b = some { o with slots:=sl }) (free:∀ b o,b ∉ ch→s.heap.get? b = some o→H b = none→H' b = none)
  (there:∀ b o,b ∉ ch→s.heap.get? b = some o→∃ o',h'.get? b = some o')
  (tups:∀ b xs,H b = some (.tup xs)→H' b = some (.tup xs)) (frzs:∀ b o u,H b = some (.frz o u)→H' b = some (.frz o u)) (tbls:∀ b ps,H b = some (.tbl ps)→∃ more,H' b = some (.tbl (ps ++ more)))
  (ns:∀ m,s.heap.Ns X.env.locals m→h'.Ns X.env.locals m) (hok:HOk X.prog X.w H' h') (hg:AllBare g') :
  Inv X pins σ H' { s with heap:=h',gens:=g',drawn:=d',toks:=t' }:=by
 have neL:∀ b o,X.s₀.heap.get? b = some o→b ≠ X.env.locals:=fun b o e=>Nat.ne_of_lt (Nat.lt_of_lt_of_le (Heap.lt_size e) I.ok.above)
 have neC:∀ b o,X.s₀.heap.get? b = some o→b ∉ X.ex→b ∉ ch:=fun b o e hx hb=>by
  rcases (hch b hb).1 with z | z
  ·exact hx z
  ·exact absurd (Nat.lt_of_lt_of_le (Heap.lt_size e) z) (Nat.lt_irrefl _)
 have cellK:∀ x c,X.env.cells.lookup x = some c→∀ v,s.heap.IsCell c v→h'.IsCell c v:=fun x c e v ⟨o,ho,hd⟩=>by
  have nch:c ∉ ch:=fun z=>(hch c z).2.2.1 x c e rfl
  by_cases hc:c ∈ X.fs
  ·obtain ⟨sl,q⟩:=slot c o (I.cne x c e) hc nch ho (I.freeC x c e)
   exact ⟨_,q,hd⟩
  ·exact ⟨o,keep c o (I.cne x c e) hc nch ho (I.freeC x c e),hd⟩
 refine ⟨I.ok,I.os,hg,⟨fun b o e n hb hx=>?_,fun b o e n hb hx=>?_,fun b o e n hx=>?_,fun b o e hx=>?_,fun b xs e=>tups b xs (I.base.tups b xs e),fun b o xs e=>frzs b o xs (I.base.frzs b o xs e),fun b ps e=>?_⟩,?_,fun x c e=>?_,?_,fun x c e=>?_,fun p hp=>?_,hok,I.len⟩
 ·exact keep b o (neL b o e) hb (neC b o e hx) (I.base.keep b o e n hb hx) (I.base.free b o e n hx)
 ·obtain ⟨sl,e1⟩:=I.base.slot b o e n hb hx
  obtain ⟨sl',e2⟩:=slot b _ (neL b o e) hb (neC b o e hx) e1 (I.base.free b o e n hx)
  exact ⟨sl',e2⟩
 ·obtain ⟨o',e1⟩:=I.base.there b o e hx
  exact free b o' (neC b o e hx) e1 (I.base.free b o e n hx)
 ·obtain ⟨o',e1⟩:=I.base.there b o e hx
  exact there b o' (neC b o e hx) e1
 ·obtain ⟨m1,e1⟩:=I.base.tbls b ps e
  obtain ⟨m2,e2⟩:=tbls b _ e1
  exact ⟨m1 ++ m2,by rw [e2,Array.append_assoc]⟩
 ·obtain ⟨m,hn,hl⟩:=I.loc
  refine ⟨m,ns m hn,fun i x v e1 e2 e3=>?_⟩
  obtain ⟨u,r,l⟩:=hl i x v e1 e2 e3
  refine ⟨u,r,?_⟩
  rcases l with l | ⟨k,c,e,z⟩
  ·exact .inl l
  ·exact .inr ⟨k,c,e,cellK x c e _ z⟩
 ·obtain ⟨v,z⟩:=I.cell x c e
  exact ⟨v,cellK x c e v z⟩
 ·obtain ⟨m,⟨o,_,_,ho,_⟩,_⟩:=I.loc
  exact free _ o (fun z=>(hch _ z).2.1 rfl) ho I.free
 ·obtain ⟨v,o,ho,hd⟩:=I.cell x c e
  exact free c o (fun z=>(hch c z).2.2.1 x c e rfl) ho (I.freeC x c e)
 ·obtain ⟨e,n,ne,nf,d⟩:=I.pin p hp
  have nch:p.1 ∉ ch:=fun z=>(hch p.1 z).2.2.2 p hp rfl
  exact ⟨keep p.1 p.2 ne nf nch e n,free p.1 p.2 nch e n,ne,nf,d⟩
theorem Inv.un {t':Nat} (I:Inv X pins σ H s) (u:Un X.fs [] H H' s.heap h') (hok:HOk X.prog X.w H' h'):Inv X pins σ H' { s with heap:=h',toks:=t' }:=by
 obtain ⟨m,⟨o,es,ep,ho,r⟩,_⟩:=id I.loc
 obtain ⟨sl,hL⟩:=u.any ho I.free (by simp)
 exact I.step (g':=s.gens) (d':=s.drawn) (ch:=[]) (fun _ z=>nomatch z) (fun b o _ hb _ e n=>u.keep b o e n hb (by simp)) (fun b o _ hb _ e n=>u.slot b o e n hb (by simp)) (fun b o _ e n=>u.free b o e n (by simp)) (fun b o _ e=>u.there b o e (by simp)) u.tups u.frzs u.tbls (fun m' hm=>by
  obtain ⟨o',es',ep',ho',r'⟩:=hm
  rw [ho] at ho'; cases ho'
  exact ⟨_,es',ep',hL,r'⟩) hok I.bare
theorem Inv.call {g':Array GenState} {t':Nat} {d':Drawn} {ch:List Addr} (I:Inv X pins σ H s) (u:Un (frs X.stack) ch H H' s.heap h') (hok:HOk X.prog X.w H' h') (hg:AllBare g')
  (hch:∀ b ∈ ch,(b ∈ X.ex∨X.s₀.heap.objs.size ≤ b)∧b ≠ X.env.locals∧(∀ x c,X.env.cells.lookup x = some c→c ≠ b)∧∀ p ∈ X.pn ++ pins,p.1 ≠ b) :
  Inv X pins σ H' { s with heap:=h',gens:=g',drawn:=d',toks:=t' }:=by
 obtain ⟨m,⟨o,es,ep,ho,r⟩,_⟩:=id I.loc
 obtain ⟨sl,hL⟩:=u.any ho I.free fun z=>(hch _ z).2.1 rfl
 exact I.step (ch:=ch) hch (fun b o hL hb hc e n=>u.keep b o e n (fun z=>(List.mem_cons.mp (I.stkSub b z)).elim hL hb) hc) (fun b o _ _ hc e n=>u.any e n hc) (fun b o hc e n=>u.free b o e n hc) (fun b o hc e=>u.there b o e hc) u.tups u.frzs u.tbls (fun m' hm=>by
  obtain ⟨o',es',ep',ho',r'⟩:=hm
  rw [ho] at ho'; cases ho'
  exact ⟨_,es',ep',hL,r'⟩) hok hg
theorem Inv.turned {t':Nat} {it:Addr} (I:Inv X pins σ H s) (k:∀ b o,b ≠ it→s.heap.get? b = some o→h'.get? b = some o) (hn:H it = none) (hL:it ≠ X.env.locals)
  (h1:it ∈ X.ex∨X.s₀.heap.objs.size ≤ it) (h2:∀ x c,X.env.cells.lookup x = some c→c ≠ it) (h3:∀ p ∈ X.pn ++ pins,p.1 ≠ it):Inv X pins σ H { s with heap:=h',toks:=t' }:=by
 have nit:∀ b u,H b = some u→b ≠ it:=fun b u e z=>by rw [z,hn] at e; cases e
 refine I.step (g':=s.gens) (d':=s.drawn) (ch:=[it]) (fun b hb=>?_) (fun b o _ _ hc e _=>k b o (fun z=>hc (by simp [z])) e) (fun b o _ _ hc e _=>⟨o.slots,k b o (fun z=>hc (by simp [z])) e⟩) (fun _ _ _ _ n=>n)
  (fun b o hc e=>⟨o,k b o (fun z=>hc (by simp [z])) e⟩) (fun _ _ e=>e) (fun _ _ _ e=>e) (fun b ps e=>⟨#[],by rw [e]; simp⟩) (fun m hm=>?_) (fun b u e=>?_) I.bare
 ·have e:b = it:=by simpa using hb
  subst e
  exact ⟨h1,hL,h2,h3⟩
 ·obtain ⟨o,es,ep,ho,r⟩:=hm
  exact ⟨o,es,ep,k _ o (Ne.symm hL) ho,r⟩
 ·refine (I.hok b u e).stay (fun c v hc q=>k c v ?_ q) (fun _ q=>q) fun _ _ q=>q
  rcases hc with z | z
  ·rw [z]; exact nit b u e
  ·exact nit c _ z
theorem Inv.tok (I:Inv X pins σ H s) (t:Nat):Inv X pins σ H { s with toks:=t }:=I.un (h':=s.heap) (t':=t) Un.refl I.hok
theorem Inv.kept {t':Nat} (I:Inv X pins σ H s) (k:∀ b u,s.heap.get? b = some u→h'.get? b = some u):Inv X pins σ H { s with heap:=h',toks:=t' }:=I.un (Un.kept k) (I.hok.kept k)
theorem Inv.laid {a:Addr} {o:HO} {t':Nat} (I:Inv X pins σ H s) (k:∀ b u,s.heap.get? b = some u→h'.get? b = some u) (hp:s.heap.objs.size ≤ a) (new:ObjOk X.prog X.w (upd H a o) h' a o) :
  Inv X pins σ (upd H a o) { s with heap:=h',toks:=t' }:=I.un (Un.laid k hp (I.hok.fresh hp)) (I.hok.laid k hp new)
theorem Inv.write {x e:Addr} {o:HO} {t':Nat} (I:Inv X pins σ H s) (mu:Mut (H x)) (he:e = x∨H e = some (.own x)) (k:∀ b u,b ≠ e→s.heap.get? b = some u→h'.get? b = some u) (heo:∃ u,h'.get? e = some u)
  (new:ObjOk X.prog X.w (upd H x o) h' x o):Inv X pins σ (upd H x o) { s with heap:=h',toks:=t' }:=I.un (Un.write mu he k heo) (I.hok.write mu he k heo new)
theorem Inv.pins_of {pins':List (Addr × Obj)} (I:Inv X pins σ H s) (h:∀ p ∈ pins',s.heap.get? p.1 = some p.2∧H p.1 = none∧p.1 ≠ X.env.locals∧p.1 ∉ X.fs∧∀ v,p.2.data ≠ .cell v):Inv X pins' σ H s :=
 ⟨I.ok,I.os,I.bare,I.base,I.loc,I.cell,I.free,I.freeC,fun p hp=>(List.mem_append.mp hp).elim (fun z=>I.pin p (List.mem_append_left _ z)) (h p),I.hok,I.len⟩
theorem Zny {N:List Str} (hN:N.Nodup) {i j:Nat} {x:Str} (a:N[i]? = some x) (b:N[j]? = some x):i = j:=by
 obtain ⟨h1,e1⟩:=List.getElem?_eq_some_iff.mp a
 obtain ⟨h2,e2⟩:=List.getElem?_eq_some_iff.mp b
 exact (List.getElem_inj hN).mp (e1.trans e2.symm)
theorem Zk8 {M:Model} {A:Around} {E:Value→Shared→Prop} {i:Nat} {x:Str} {v:V} {u:Value} {Q:Unit→Shared→Prop} (I:Inv X pins σ H s) (hN:X.N.Nodup) (hi:X.N[i]? = some x) (hx:Loc X.env.scope x) (r:RelV v u)
  (h:∀ s',Inv X pins (σ.set i (some v)) H s'→(∃ a,Heap.SameBut a s.heap s'.heap∧(a = X.env.locals∨X.env.cells.lookup x = some a))→Q () s') (hf:X.fn x = true∨X.env.scope.names.lookup x = some .local:=by first | exact .inl rfl | exact .inr rfl | assumption):wpAny M A (storeName X.env x u) Q E s:=by
 obtain ⟨m,hn,hl⟩:=id I.loc
 have hcls:(X.env.scope.kind == .class || (X.env.scope.kind == .module && X.env.locals != X.env.globals)) = false:=by rw [I.ok.kind]; rfl
 have hiσ:i < σ.length:=by rw [I.len]; exact (List.getElem?_eq_some_iff.mp hi).1
 have cne:=I.cne
 have tracked:∀ {a:Addr} {h':Heap},(∃ o,s.heap.get? a = some o∧H a = none)→Heap.SameBut a s.heap h'→HOk X.prog X.w H h':=fun {a h'} ha hs b ob e=>by
  obtain ⟨_,_,hfree⟩:=ha
  refine (I.hok b ob e).stay (fun c w' hc q=>(hs.2 c ?_).trans q) (fun _ q=>q) fun _ _ q=>q
  rintro rfl
  rcases hc with rfl | hc
  ·rw [hfree] at e; cases e
  ·rw [hfree] at hc; cases hc
 rcases hx with hk | hk
 ·refine wpAny_storeName_local hk hn (fun h' hn' hs=>?_) hcls
  obtain ⟨oL,_,_,hoL,_⟩:=id hn
  refine h _ ⟨I.ok,I.os,I.bare,⟨fun b o e n hb hx=>?_,fun b o e n hb hx=>?_,I.base.free,fun b o e hx=>?_,I.base.tups,I.base.frzs,I.base.tbls⟩,⟨_,hn',fun j y v' e1 e2 e3=>?_⟩,fun y c e=>?_,I.free,I.freeC,fun p hp=>?_,tracked ⟨oL,hoL,I.free⟩ hs,by simpa using I.len⟩ ⟨_,hs,.inl rfl⟩
  ·exact (hs.2 b (Nat.ne_of_lt (Nat.lt_of_lt_of_le (Heap.lt_size e) I.ok.above))).trans (I.base.keep b o e n hb hx)
  ·obtain ⟨sl,e1⟩:=I.base.slot b o e n hb hx
   exact ⟨sl,(hs.2 b (Nat.ne_of_lt (Nat.lt_of_lt_of_le (Heap.lt_size e) I.ok.above))).trans e1⟩
  ·obtain ⟨o',e1⟩:=I.base.there b o e hx
   exact ⟨o',(hs.2 b (Nat.ne_of_lt (Nat.lt_of_lt_of_le (Heap.lt_size e) I.ok.above))).trans e1⟩
  ·by_cases hj:j = i
   ·subst hj
    rw [hi] at e1; cases e1
    rw [List.getElem?_set_self hiσ] at e2
    cases e2
    exact ⟨u,r,.inl ⟨hk,by simp⟩⟩
   ·rw [List.getElem?_set_ne (Ne.symm hj)] at e2
    obtain ⟨u',r',q⟩:=hl j y v' e1 e2 e3
    refine ⟨u',r',?_⟩
    rcases q with ⟨k,e⟩ | ⟨k,c,e,z⟩
    ·refine .inl ⟨k,?_⟩
     have:y ≠ x:=fun e=>hj (Zny hN e1 (e ▸ hi))
     simp [this,e]
    ·exact .inr ⟨k,c,e,z.sameBut hs (cne y c e)⟩
  ·obtain ⟨w',z⟩:=I.cell y c e
   exact ⟨w',z.sameBut hs (cne y c e)⟩
  ·obtain ⟨e,n,ne,nf,d⟩:=I.pin p hp
   exact ⟨(hs.2 p.1 ne).trans e,n,ne,nf,d⟩
 ·have hfn:X.fn x = true:=by
   rcases hf with z | z
   ·exact z
   ·rw [z] at hk; cases hk
  obtain ⟨c,hc⟩:=I.ok.has x (.inl hk)
  obtain ⟨w',z⟩:=I.cell x c hc
  refine wpAny_storeName_cell I.ok.kind hk hc z (fun h' hc' hs=>?_)
  obtain ⟨oc,hoc,hocd⟩:=id z
  refine h { s with heap:=h' } ⟨I.ok,I.os,I.bare,⟨fun b o e n hb hx=>?_,fun b o e n hb hx=>?_,I.base.free,fun b o e hx=>?_,I.base.tups,I.base.frzs,I.base.tbls⟩,⟨m,hn.sameBut hs (Ne.symm (cne x c hc)),fun j y v' e1 e2 e3=>?_⟩,fun y c' e=>?_,I.free,I.freeC,fun p hp=>?_,tracked ⟨oc,hoc,I.freeC x c hc⟩ hs,by simpa using I.len⟩ ⟨c,hs,.inr hc⟩
  ·exact (hs.2 b (Nat.ne_of_lt (Nat.lt_of_lt_of_le (Heap.lt_size e) (I.ok.cab x c hfn hc)))).trans (I.base.keep b o e n hb hx)
  ·obtain ⟨sl,e1⟩:=I.base.slot b o e n hb hx
   exact ⟨sl,(hs.2 b (Nat.ne_of_lt (Nat.lt_of_lt_of_le (Heap.lt_size e) (I.ok.cab x c hfn hc)))).trans e1⟩
  ·obtain ⟨o',e1⟩:=I.base.there b o e hx
   exact ⟨o',(hs.2 b (Nat.ne_of_lt (Nat.lt_of_lt_of_le (Heap.lt_size e) (I.ok.cab x c hfn hc)))).trans e1⟩
  ·by_cases hj:j = i
   ·subst hj
    rw [hi] at e1; cases e1
    rw [List.getElem?_set_self hiσ] at e2
    cases e2
    exact ⟨u,r,.inr ⟨.inl hk,c,hc,hc'⟩⟩
   ·rw [List.getElem?_set_ne (Ne.symm hj)] at e2
    obtain ⟨u',r',q⟩:=hl j y v' e1 e2 e3
    refine ⟨u',r',?_⟩
    rcases q with q | ⟨k,c',e,z'⟩
    ·exact .inl q
    ·refine .inr ⟨k,c',e,z'.sameBut hs ?_⟩
     rintro rfl
     exact hj (Zny hN e1 (I.ok.inj _ _ _ e hc ▸ hi))
  ·by_cases hcc:c' = c
   ·subst hcc; exact ⟨_,hc'⟩
   ·obtain ⟨w2,z2⟩:=I.cell y c' e
    exact ⟨w2,z2.sameBut hs hcc⟩
  ·obtain ⟨e,n,ne,nf,d⟩:=I.pin p hp
   refine ⟨(hs.2 p.1 ?_).trans e,n,ne,nf,d⟩
   intro q
   rw [q,hoc] at e
   have q':oc = p.2:=Option.some.inj e
   exact d w' (by rw [← q']; exact hocd)
theorem Zoo {M:Model} {A:Around} {E:Value→Shared→Prop} {i:Nat} {x:Str} {v:V} {u:Value} {Q:Unit→Shared→Prop} (I:Inv X pins σ H s) (hN:X.N.Nodup) (hi:X.N[i]? = some x) (hx:Loc X.env.scope x) (r:RelV v u)
  (h:∀ s',Inv X pins (σ.set i (some v)) H s'→Q () s') (hf:X.fn x = true∨X.env.scope.names.lookup x = some .local:=by first | exact .inl rfl | exact .inr rfl | assumption):wpAny M A (storeName X.env x u) Q E s :=
 Zk8 I hN hi hx r (fun s' I' _=>h s' I') hf
theorem Inv.call' {s':Shared} {ch:List Addr} (I:Inv X pins σ H s) (ho:s'.os = s.os) (u:Un (frs X.stack) ch H H' s.heap s'.heap) (hok:HOk X.prog X.w H' s'.heap) (hg:AllBare s'.gens)
  (hch:∀ b ∈ ch,(b ∈ X.ex∨X.s₀.heap.objs.size ≤ b)∧b ≠ X.env.locals∧(∀ x c,X.env.cells.lookup x = some c→c ≠ b)∧∀ p ∈ X.pn ++ pins,p.1 ≠ b):Inv X pins σ H' s':=by
 obtain ⟨h',g',d',t',o'⟩:=s'
 have e:o' = s.os:=ho
 subst e
 exact I.call (g':=g') (t':=t') (d':=d') u hok hg hch
end
noncomputable abbrev XK:=Value→Option Addr→Hp→Prop
noncomputable abbrev St:=List (Option V)
noncomputable abbrev VK:=V→Hp→Prop
noncomputable abbrev TE:=St→Hp→VK→Prop
noncomputable abbrev TT:=St→Hp→(Bool→Hp→Prop)→Prop
noncomputable abbrev TA:=St→Hp→(List V→Hp→Prop)→Prop
set_option genInjectivity false in
structure Ends where
 nx:St→Hp→Prop
 rt:VK
 bk:St→Hp→Prop:=fun _ _=>False
 ct:St→Hp→Prop:=fun _ _=>False
noncomputable abbrev TS:=Ends→St→Hp→Prop
noncomputable def EP (X:Cx) (pins:List (Addr × Obj)) (σ:St) (Q:VK) (u:Value) (s':Shared):Prop:=∃ v H',Inv X pins σ H' s'∧RelV v u∧Q v H'
noncomputable def TP (X:Cx) (pins:List (Addr × Obj)) (σ:St) (Q:Bool→Hp→Prop) (b:Bool) (s':Shared):Prop:=∃ H',Inv X pins σ H' s'∧Q b H'
noncomputable def AP (X:Cx) (pins:List (Addr × Obj)) (σ:St) (Q:List V→Hp→Prop) (us:List Value) (s':Shared):Prop:=∃ vs H',Inv X pins σ H' s'∧Vals vs us∧Q vs H'
noncomputable def SP (X:Cx) (pins:List (Addr × Obj)) (D:Ends) (f:Flow) (s':Shared):Prop :=
 match f with
 | .next=>∃ σ' H',Inv X pins σ' H' s'∧D.nx σ' H'
 | .brk=>∃ σ' H',Inv X pins σ' H' s'∧D.bk σ' H'
 | .cont=>∃ σ' H',Inv X pins σ' H' s'∧D.ct σ' H'
 | .ret u=>∃ v σ' H',Inv X pins σ' H' s'∧RelV v u∧D.rt v H'
noncomputable def PE (X:Cx) (e:Expr) (t:TE):Prop :=
 ∀ (pins:List (Addr × Obj)) (s:Shared) (σ:St) (H:Hp) (Q:VK),Inv X pins σ H s→t σ H Q→wpAny (model X.prog X.w) X.A (eval e X.env) (EP X pins σ Q) X.xe s
noncomputable def PT (X:Cx) (e:Expr) (t:TT):Prop :=
 ∀ (pins:List (Addr × Obj)) (s:Shared) (σ:St) (H:Hp) (Q:Bool→Hp→Prop),Inv X pins σ H s→t σ H Q→wpAny (model X.prog X.w) X.A (isTrue e X.env (eval e X.env)) (TP X pins σ Q) X.xe s
noncomputable def PW (X:Cx) (e:Expr) (t:TT):Prop :=
 ∀ (whole:Sem Value) (pins:List (Addr × Obj)) (s:Shared) (σ:St) (H:Hp) (Q:Bool→Hp→Prop),Inv X pins σ H s→t σ H Q→wpAny (model X.prog X.w) X.A (isTrue e X.env whole) (TP X pins σ Q) X.xe s
theorem PW.pt {X:Cx} {e:Expr} {t:TT} (h:PW X e t):PT X e t:=h _
noncomputable def PA (X:Cx) (es:List Expr) (t:TA):Prop :=
 ∀ (pos:Pos) (pins:List (Addr × Obj)) (s:Shared) (σ:St) (H:Hp) (Q:List V→Hp→Prop),Inv X pins σ H s→t σ H Q→wpAny (model X.prog X.w) X.A (spliced (backTo pos (starEach es X.env))) (AP X pins σ Q) X.xe s
noncomputable def PS (X:Cx) (st:Stmt) (t:TS):Prop :=
 ∀ (pins:List (Addr × Obj)) (s:Shared) (σ:St) (H:Hp) (D:Ends),Inv X pins σ H s→t D σ H→wpAny (model X.prog X.w) X.A (exec st X.env) (SP X pins D) X.xe s
noncomputable def PSs (X:Cx) (st:List Stmt) (t:TS):Prop :=
 ∀ (pins:List (Addr × Obj)) (s:Shared) (σ:St) (H:Hp) (D:Ends),Inv X pins σ H s→t D σ H→wpAny (model X.prog X.w) X.A (execs st X.env) (SP X pins D) X.xe s
theorem thn {α:Type} {t:Sem α} {Q Q':α→Shared→Prop} {M:Model} {A:Around} {E:Value→Shared→Prop} {s:Shared} (h:wpAny M A t Q E s) (hQ:∀ a s,Q a s→Q' a s):wpAny M A t Q' E s:=wpAny_mono h hQ fun _ _ x=>x
end L2
namespace L2
open PySem PySem.Spec PyProof.Rows
section
variable {X:Cx}
noncomputable def Z6h (i:Nat):TE:=fun σ H Q=>∃ v,σ[i]? = some (some v)∧Q v H
noncomputable def tC (v:V):TE:=fun _ H Q=>Q v H
theorem Z3r {i:Nat} {x:Str} {pos:Pos} (hN:X.N[i]? = some x) (hv:Vis X.env.scope x) (hd:(x == ("__debug__" : Str)) = false:=by decide) (hcd:(x == ("__classdict__" : Str)) = false:=by decide):PE X (.Name x pos) (Z6h i):=by
 intro pins s σ H Q I h
 obtain ⟨v,e,h⟩:=h
 obtain ⟨m,hn,hl⟩:=I.loc
 obtain ⟨u,r,l⟩:=hl i x v hN e hv
 have fin:EP X pins σ Q u s:=⟨v,H,I,r,h⟩
 rcases l with ⟨hk,hm⟩ | ⟨hk,c,hc,hcell⟩
 ·exact wpAny_Name (wpAny_loadName_local I.ok.kind hk hn hm fin) hd
 ·rcases hk with hk | hk
  ·exact wpAny_Name (wpAny_loadName_cell I.ok.kind hk hc hcell fin) hd
  ·exact wpAny_Name (wpAny_loadName_free I.ok.kind hk hc hcell fin hcd) hd
theorem Z2z {i j pos}:PE X (.Constant (.int i) j pos) (tC (.int i)):=fun _ _ _ H _ I h=>wpAny_Constant_int ⟨.int i,H,I.tok _,⟨_,rfl⟩,h⟩
theorem Z4s {b j pos}:PE X (.Constant (.bool b) j pos) (tC (.bl b)):=fun _ _ _ H _ I h=>Constant_bool ⟨.bl b,H,I,rfl,h⟩
theorem Z34 {j pos}:PE X (.Constant .none j pos) (tC .non):=fun _ _ _ H _ I h=>Constant_none ⟨.non,H,I,rfl,h⟩
theorem Z0m {x j pos}:PE X (.Constant (.str x) j pos) (tC (.str x)):=fun _ _ _ H _ I h=>Calls.Constant_str ⟨.str x,H,I.tok _,⟨_,rfl⟩,h⟩
noncomputable def Gl (X:Cx) (x:Str):Prop:=X.env.kindOf x = some .globalImplicit
theorem Zru {E:Value→Shared→Prop} {pins:List (Addr × Obj)} {s:Shared} {σ:St} {H:Hp} {x:Str} {u:Value} {pos:Pos} {Q:Value→Shared→Prop} (I:Inv X pins σ H s) (hg:Gl X x) (hm:X.mg x = some u) (h:Q u s)
  (hd:(x == ("__debug__" : Str)) = false:=by decide):wpAny (model X.prog X.w) X.A (eval (.Name x pos) X.env) Q E s :=
 Calls.Name_function_global I.ok.kind hg (Calls.loadGlobal_global (by rw [I.ok.glob]; exact I.mod.glob.keeps I.bk) hm h) hd
theorem Ziy {E:Value→Shared→Prop} {pins:List (Addr × Obj)} {s:Shared} {σ:St} {H:Hp} {x:Str} {u:Value} {pos:Pos} {Q:Value→Shared→Prop} (I:Inv X pins σ H s) (hg:Gl X x) (hm:X.mg x = none) (hv:bootBuiltins x = some u) (h:Q u s)
  (hn:x ≠ "__name__" := by decide) (hd:(x == ("__debug__" : Str)) = false:=by decide):wpAny (model X.prog X.w) X.A (eval (.Name x pos) X.env) Q E s:=by
 obtain ⟨mb,h1,h2⟩:=I.mod.blt
 exact Calls.Name_function_global I.ok.kind hg (Calls.loadGlobal_builtin (by rw [I.ok.glob]; exact I.mod.glob.keeps I.bk) hm (by rw [I.ok.blt]; exact h1.keeps I.bk) ((h2 x hn).trans hv) h) hd
theorem Zzu {x:Str} {v:V} {u:Value} {pos:Pos} (hg:Gl X x) (hm:X.mg x = none) (hv:bootBuiltins x = some u) (r:RelV v u) (hn:x ≠ "__name__" := by decide) (hd:(x == ("__debug__" : Str)) = false:=by decide):PE X (.Name x pos) (tC v) :=
 fun _ _ _ H _ I h=>Ziy I hg hm hv ⟨v,H,I,r,h⟩ hn hd
noncomputable def t2I (ta tb:TE) (k:Int→Int→Hp→Prop):St→Hp→Prop:=fun σ H=>ta σ H fun x H1=>tb σ H1 fun y H2=>∃ i j,x = .int i∧y = .int j∧k i j H2
variable {a b:Expr} {ta tb:TE} {pos:Pos}
noncomputable def Zz6 (p:Int→Int→Bool) (ta tb:TE):TE:=fun σ H Q=>t2I ta tb (fun i j H2=>Q (.bl (p i j)) H2) σ H
noncomputable abbrev tLt:TE→TE→TE:=Zz6 fun i j=>decide (i < j)
noncomputable abbrev tLe:TE→TE→TE:=Zz6 fun i j=>decide (i ≤ j)
noncomputable abbrev tGt:TE→TE→TE:=Zz6 fun i j=>decide (j < i)
noncomputable abbrev tGe:TE→TE→TE:=Zz6 fun i j=>decide (j ≤ i)
noncomputable abbrev Z9c:TE→TE→TE:=Zz6 fun i j=>decide (i = j)
noncomputable abbrev Z9b:TE→TE→TE:=Zz6 fun i j=>!decide (i = j)
noncomputable def tB (t:TE):TT:=fun σ H Q=>t σ H fun x H1=>∃ c,x = .bl c∧Q c H1
variable {tA tB':TT} {rest:List Expr}
noncomputable def Z8c (t u:TT):TT:=fun σ H Q=>t σ H fun c H1=>if c = true then u σ H1 Q else Q false H1
noncomputable def tOr (t u:TT):TT:=fun σ H Q=>t σ H fun c H1=>if c = true then Q true H1 else u σ H1 Q
noncomputable def Z8y (t:TT):TT:=fun σ H Q=>t σ H fun c H1=>Q (!c) H1
theorem Zw1 (ha:PT X a tA):PW X (.BoolOp .And [a] pos) tA:=by
 intro wh pins s σ H Q I h
 refine isTrue_and (thn (ha pins s σ H Q I h) fun c s1 e=>?_)
 cases c with
 | true=>exact isTrue_and_nil e
 | false=>exact e
theorem Z2d (ha:PT X a tA):PW X (.BoolOp .Or [a] pos) tA:=by
 intro wh pins s σ H Q I h
 refine isTrue_or (thn (ha pins s σ H Q I h) fun c s1 e=>?_)
 cases c with
 | false=>exact isTrue_or_nil e
 | true=>exact e
theorem Z0s (ha:PT X a tA) (hb:PW X (.BoolOp .And (b :: rest) pos) tB'):PW X (.BoolOp .And (a :: b :: rest) pos) (Z8c tA tB'):=by
 intro wh pins s σ H Q I h
 refine isTrue_and (thn (ha pins s σ H _ I h) fun c s1 qz9=>?_)
 obtain ⟨H1,I1,q1⟩:=qz9
 cases c with
 | true=>exact hb wh pins s1 σ H1 Q I1 q1
 | false=>exact ⟨H1,I1,q1⟩
theorem Z5q (ha:PT X a tA) (hb:PW X (.BoolOp .Or (b :: rest) pos) tB'):PW X (.BoolOp .Or (a :: b :: rest) pos) (tOr tA tB'):=by
 intro wh pins s σ H Q I h
 refine isTrue_or (thn (ha pins s σ H _ I h) fun c s1 qz9=>?_)
 obtain ⟨H1,I1,q1⟩:=qz9
 cases c with
 | true=>exact ⟨H1,I1,q1⟩
 | false=>exact hb wh pins s1 σ H1 Q I1 q1
theorem Z3k (ha:PT X a tA):PT X (.UnaryOp .Not a pos) (Z8y tA):=by
 intro pins s σ H Q I h
 exact isTrue_not (ha pins s σ H (fun c H1=>Q (!c) H1) I h)
noncomputable def Z5d (ta tb:TE):TE:=fun σ H Q=>ta σ H fun x H1=>∃ c,x = .bl c∧if c = true then tb σ H1 Q else Q (.bl false) H1
noncomputable def Z45 (ta:TE):TE:=fun σ H Q=>ta σ H fun x H1=>∃ c,x = .bl c∧Q (.bl (!c)) H1
theorem Z4c {op} {t:TE} (h:PE X a t):PE X (.BoolOp op [a] pos) t:=fun pins s σ H Q I hw=>BoolOp_one (h pins s σ H Q I hw)
theorem Z0w (ha:PE X a ta) (hb:PE X (.BoolOp .And (b :: rest) pos) tb):PE X (.BoolOp .And (a :: b :: rest) pos) (Z5d ta tb):=by
 intro pins s σ H Q I h
 refine BoolOp_and (thn (ha pins s σ H _ I h) fun v s1 qz9=>?_)
 obtain ⟨x,H1,I1,r1,q1⟩:=qz9
 obtain ⟨c,rfl,q1⟩:=q1
 cases r1
 refine wpAny_truthy_bool ?_
 cases c with
 | true=>exact hb pins s1 σ H1 Q I1 q1
 | false=>exact ⟨.bl false,H1,I1,rfl,q1⟩
theorem Z0k (ha:PE X a ta):PE X (.UnaryOp .Not a pos) (Z45 ta):=by
 intro pins s σ H Q I h
 refine UnaryOp_ (thn (ha pins s σ H _ I h) fun v s1 qz9=>?_)
 obtain ⟨x,H1,I1,r1,q1⟩:=qz9
 obtain ⟨c,rfl,q1⟩:=q1
 cases r1
 exact not_of (wpAny_truthy_bool ⟨.bl (!c),H1,I1,rfl,q1⟩)
noncomputable def tIf (t:TT) (ta tb:TE):TE:=fun σ H Q=>t σ H fun c H1=>if c = true then ta σ H1 Q else tb σ H1 Q
theorem Zuj {c:Expr} (hc:PT X c tA) (ha:PE X a ta) (hb:PE X b tb):PE X (.IfExp c a b pos) (tIf tA ta tb):=by
 intro pins s σ H Q I h
 refine wpAny_IfExp (thn (hc pins s σ H _ I h) fun d s1 qz9=>?_)
 obtain ⟨H1,I1,q1⟩:=qz9
 cases d with
 | true=>exact ha pins s1 σ H1 Q I1 q1
 | false=>exact hb pins s1 σ H1 Q I1 q1
end
end L2
namespace L2
open PySem PySem.Spec PyProof.Rows
noncomputable def SqL (K:PySem.W.Frag) (H:Hp) (a:Addr) (xs:List V):Prop :=
 Rd H a (.lst xs) ∨
  ∃ (o:Obj) (its:Array Value) (n:Nat),K.lookup a = some o∧o.cls = .type "list" ∧ o.dict = none∧o.data = .seq its n∧its.size ≤ sizeLine∧Vals xs its.toList
noncomputable def SqT (K:PySem.W.Frag) (H:Hp) (a:Addr) (xs:List V):Prop :=
 Rd H a (.tup xs) ∨
  ∃ (o:Obj) (its:Array Value) (n:Nat),K.lookup a = some o∧o.cls = .type "tuple" ∧ o.data = .seq its n∧its.size ≤ sizeLine∧Vals xs its.toList
noncomputable def Z80:Value→Option V
 | .none=>some .non
 | .bool b=>some (.bl b)
 | .int i _=>some (.int i)
 | .str x _=>some (.str x)
 | .bytes b _=>some (.byt b)
 | .float b _=>some (.flt b)
 | .ref a=>some (.ref a)
 | .type n=>some (.ty n)
 | _=>none
theorem RelV.abs {x:V} {u:Value} (r:RelV x u):Z80 u = some x:=by
 cases x with
 | non=>cases r; rfl
 | bl _=>cases r; rfl
 | int _=>obtain ⟨t,rfl⟩:=r; rfl
 | str _=>obtain ⟨t,rfl⟩:=r; rfl
 | byt _=>obtain ⟨t,rfl⟩:=r; rfl
 | flt _=>obtain ⟨t,rfl⟩:=r; rfl
 | ref _=>cases r; rfl
 | ty _=>cases r; rfl
theorem RelV.inj {x y:V} {u:Value} (r:RelV x u) (q:RelV y u):x = y:=Option.some.inj (r.abs.symm.trans q.abs)
theorem Vals.inj {xs ys:List V} {us:List Value} (h:Vals xs us) (k:Vals ys us):xs = ys:=by
 induction h generalizing ys with
 | nil=>cases k; rfl
 | cons r t ih =>
  cases k with
  | cons r' t'=>rw [r.inj r',ih t']
section
variable {X:Cx} {pins:List (Addr × Obj)} {σ:St} {H:Hp} {s:Shared} {a:Addr} {xs ys:List V}
theorem Inv.list (I:Inv X pins σ H s) (h:SqL X.K H a xs):∃ its:List Value,Vals xs its∧PlainL s.heap a its.toArray∧xs.length ≤ sizeLine:=by
 rcases h with h | ⟨o,its,n,hk,hc,hd,hs,hz,r⟩
 ·obtain ⟨z,its,n,r,e⟩:=h.ok I.hok
  exact ⟨its,r,⟨_,n,e,rfl,rfl,rfl⟩,z⟩
 ·refine ⟨its.toList,r,⟨o,n,I.kIn a o hk,hc,hd,by simpa using hs⟩,?_⟩
  have e:=r.length
  simp only [Array.length_toList] at e
  omega
theorem Inv.tuple (I:Inv X pins σ H s) (h:SqT X.K H a xs):∃ its:List Value,Vals xs its∧IsTup s.heap a its.toArray∧xs.length ≤ sizeLine:=by
 rcases h with h | ⟨o,its,n,hk,hc,hs,hz,r⟩
 ·obtain ⟨z,its,r,p⟩:=h.ok I.hok
  exact ⟨its,r,p,z⟩
 ·refine ⟨its.toList,r,⟨o,I.kIn a o hk,hc,n,by simpa using hs⟩,?_⟩
  have e:=r.length
  simp only [Array.length_toList] at e
  omega
theorem Inv.list_inj (I:Inv X pins σ H s) (h:SqL X.K H a xs) (h':SqL X.K H a ys):xs = ys:=by
 obtain ⟨its,r,⟨o,n,e,_,_,d⟩,_⟩:=I.list h
 obtain ⟨its',r',⟨o',n',e',_,_,d'⟩,_⟩:=I.list h'
 rw [e] at e'; cases e'
 rw [d] at d'
 injection d' with d1 _
 have:its = its':=by simpa using congrArg Array.toList d1
 subst this
 exact r.inj r'
theorem Inv.tuple_inj (I:Inv X pins σ H s) (h:SqT X.K H a xs) (h':SqT X.K H a ys):xs = ys:=by
 obtain ⟨its,r,⟨o,e,_,n,d⟩,_⟩:=I.tuple h
 obtain ⟨its',r',⟨o',e',_,n',d'⟩,_⟩:=I.tuple h'
 rw [e] at e'; cases e'
 rw [d] at d'
 injection d' with d1 _
 have:its = its':=by simpa using congrArg Array.toList d1
 subst this
 exact r.inj r'
end
noncomputable abbrev Cx.wish (X:Cx) (E:Value→Shared→Prop):Cx:={ X with xe:=E }
noncomputable abbrev Cx.nox (X:Cx):Cx:=X.wish fun _ _=>False
theorem Cx.Ok.wish {X:Cx} (ok:X.Ok) (E:Value→Shared→Prop):(X.wish E).Ok :=
 ⟨ok.mod,ok.kind,ok.glob,ok.blt,ok.above,ok.inj,ok.has,ok.cab,ok.hd,ok.frames,ok.stk,ok.exf,ok.bs,ok.bsz,ok.noex,ok.exfs,ok.funs,ok.frf⟩
theorem Cx.Ok.unwish {X:Cx} {E:Value→Shared→Prop} (ok:(X.wish E).Ok):X.Ok :=
 ⟨ok.mod,ok.kind,ok.glob,ok.blt,ok.above,ok.inj,ok.has,ok.cab,ok.hd,ok.frames,ok.stk,ok.exf,ok.bs,ok.bsz,ok.noex,ok.exfs,ok.funs,ok.frf⟩
section
variable {X:Cx} {pins:List (Addr × Obj)} {σ:St} {H:Hp} {s:Shared} {E:Value→Shared→Prop}
theorem Inv.wish (I:Inv X pins σ H s) (E:Value→Shared→Prop):Inv (X.wish E) pins σ H s:=⟨I.ok.wish E,I.os,I.bare,I.base,I.loc,I.cell,I.free,I.freeC,I.pin,I.hok,I.len⟩
theorem Inv.unwish (I:Inv (X.wish E) pins σ H s):Inv X pins σ H s:=⟨I.ok.unwish,I.os,I.bare,I.base,I.loc,I.cell,I.free,I.freeC,I.pin,I.hok,I.len⟩
theorem SP.unwish {D:Ends} {f:Flow} {s':Shared} (h:SP (X.wish E) pins D f s'):SP X pins D f s':=by
 cases f with
 | next=>obtain ⟨σ',H',I,q⟩:=h; exact ⟨σ',H',I.unwish,q⟩
 | brk=>obtain ⟨σ',H',I,q⟩:=h; exact ⟨σ',H',I.unwish,q⟩
 | cont=>obtain ⟨σ',H',I,q⟩:=h; exact ⟨σ',H',I.unwish,q⟩
 | ret u=>obtain ⟨v,σ',H',I,r,q⟩:=h; exact ⟨v,σ',H',I.unwish,r,q⟩
theorem PSs.nox {st:List Stmt} {t:TS} (h:PSs X.nox st t):PSs X st t:=fun pins s σ H D I hw =>
 wpAny_mono (h pins s σ H D (I.wish _) hw) (fun _ _ q=>q.unwish) fun _ _ z=>False.elim z
end
section
variable {X:Cx} {st:Stmt} {rest:List Stmt} {t u:TS} {e:Expr} {te:TE} {pos:Pos}
noncomputable def Z47:TS:=fun D σ H=>D.nx σ H
noncomputable def Z8h (t u:TS):TS:=fun D σ H=>t { D with nx:=u D } σ H
theorem Zxv:PSs X [] Z47:=fun _ _ σ H _ I h=>wpAny_execs_nil ⟨σ,H,I,h⟩
theorem Zvd (h1:PS X st t) (h2:PSs X rest u):PSs X (st :: rest) (Z8h t u):=by
 intro pins s σ H D I h
 refine wpAny_execs_cons (thn (h1 pins s σ H { D with nx:=u D } I h) fun f s1 q=>?_)
 cases f with
 | next =>
  obtain ⟨σ',H',I',q⟩:=q
  exact h2 pins s1 σ' H' D I' q
 | ret v=>exact q
 | brk=>exact q
 | cont=>exact q
theorem Zx6 (h1:PS X st t):PSs X [st] t:=by
 intro pins s σ H D I h
 refine wpAny_execs_cons (thn (h1 pins s σ H D I h) fun f s1 q=>?_)
 cases f with
 | next=>exact wpAny_execs_nil q
 | ret v=>exact q
 | brk=>exact q
 | cont=>exact q
theorem Inv.quiet {pins:List (Addr × Obj)} {σ:St} {H:Hp} {s:Shared} (I:Inv X pins σ H s):interactive X.env = false:=by simp [interactive,I.ok.kind]
noncomputable def Z6x (te:TE):TS:=fun D σ H=>te σ H fun _ H1=>D.nx σ H1
theorem Zji (he:PE X e te) (hs:swapsWith e none pos.line X.env = pure false:=by rfl):PS X (.Expr e pos) (Z6x te):=by
 intro pins s σ H D I h
 refine wpAny_Expr_any (thn (he pins s σ H _ I h) fun v s1 qz9=>?_) I.quiet hs
 obtain ⟨x,H1,I1,r1,q1⟩:=qz9
 exact ⟨σ,H1,I1,q1⟩
noncomputable def Z8t (te:TE):TS:=fun D σ H=>te σ H D.rt
theorem Zvl (he:PE X e te):PS X (.Return (some e) pos) (Z8t te):=by
 intro pins s σ H D I h
 refine wpAny_Return_some (thn (he pins s σ H _ I h) fun v s1 qz9=>?_)
 obtain ⟨x,H1,I1,r1,q1⟩:=qz9
 exact ⟨x,σ,H1,I1,r1,q1⟩
noncomputable def Z8a (c:TT) (t u:TS):TS:=fun D σ H=>c σ H fun b H1=>if b = true then t D σ H1 else u D σ H1
theorem Z4t {c:Expr} {a b:List Stmt} {tc:TT} (hc:PT X c tc) (ha:PSs X a t) (hb:PSs X b u):PS X (.If c a b pos) (Z8a tc t u):=by
 intro pins s σ H D I h
 refine wpAny_If (thn (hc pins s σ H _ I h) fun d s1 qz9=>?_)
 obtain ⟨H1,I1,q1⟩:=qz9
 cases d with
 | true=>exact ha pins s1 σ H1 D I1 q1
 | false=>exact hb pins s1 σ H1 D I1 q1
noncomputable def Z09:TS:=fun _ _ _=>False
theorem Ztf:PS X st Z09:=fun _ _ _ _ _ _ h=>h.elim
end
noncomputable abbrev TG:=V→St→Hp→(St→Hp→Prop)→Prop
noncomputable abbrev TGs:=List V→St→Hp→(St→Hp→Prop)→Prop
noncomputable def PG (X:Cx) (target:Expr) (t:TG):Prop :=
 ∀ (pins:List (Addr × Obj)) (s:Shared) (σ:St) (H:Hp) (v:V) (u:Value) (Q:St→Hp→Prop),Inv X pins σ H s→RelV v u→t v σ H Q →
  wpAny (model X.prog X.w) X.A (assign target X.env u) (fun _ s'=>∃ σ' H',Inv X pins σ' H' s'∧Q σ' H') X.xe s
noncomputable def PGs (X:Cx) (ts:List Expr) (t:TGs):Prop :=
 ∀ (pins:List (Addr × Obj)) (s:Shared) (σ:St) (H:Hp) (vs:List V) (us:List Value) (Q:St→Hp→Prop),Inv X pins σ H s→Vals vs us→t vs σ H Q →
  wpAny (model X.prog X.w) X.A (assignInOrder ((assignEach ts X.env).map (·.2)) us) (fun _ s'=>∃ σ' H',Inv X pins σ' H' s'∧Q σ' H') X.xe s
noncomputable abbrev Z5t:=V→V→V→Hp→(Hp→Prop)→Prop
noncomputable def Z62 (X:Cx) (t:Z5t):Prop :=
 ∀ (pins:List (Addr × Obj)) (s:Shared) (σ:St) (H:Hp) (o i v:V) (ov iv u:Value) (Q:Hp→Prop),Inv X pins σ H s→RelV o ov→RelV i iv→RelV v u→t o i v H Q →
  wpAny (model X.prog X.w) X.A (setItem ov iv u) (fun _ s'=>∃ H',Inv X pins σ H' s'∧Q H') X.xe s
noncomputable abbrev TIp:=V→V→Hp→VK→Prop
section
variable {X:Cx} {pos:Pos}
noncomputable def Zqv (i:Nat):TG:=fun v σ H Q=>Q (σ.set i (some v)) H
theorem Zsa {i:Nat} {x:Str} (hN:X.N.Nodup) (hi:X.N[i]? = some x) (hx:Loc X.env.scope x) (hf:X.fn x = true∨X.env.scope.names.lookup x = some .local:=by first | exact .inl rfl | exact .inr rfl | assumption):PG X (.Name x pos) (Zqv i):=by
 intro pins s σ H v u Q I r h
 exact wpAny_assign_Name (Zoo I hN hi hx r (fun s' I'=>⟨_,H,I',h⟩) hf)
noncomputable def Z85:TGs:=fun vs σ H Q=>vs = []∧Q σ H
noncomputable def Z5j (t:TG) (u:TGs):TGs:=fun vs σ H Q=>∃ v r,vs = v :: r∧t v σ H fun σ' H'=>u r σ' H' Q
theorem Zxr:PGs X [] Z85:=by
 intro pins s σ H vs us Q I r h
 obtain ⟨e,h⟩:=h
 subst e
 cases r
 exact assignInOrder_nil ⟨σ,H,I,h⟩
theorem Znu {e:Expr} {es:List Expr} {t:TG} {u:TGs} (h1:PG X e t) (h2:PGs X es u)
  (hs:(assignEach (e :: es) X.env).map (·.2) = assign e X.env :: (assignEach es X.env).map (·.2):=by rfl):PGs X (e :: es) (Z5j t u):=by
 intro pins s σ H vs us Q I r h
 obtain ⟨v,vr,e1,h⟩:=h
 subst e1
 cases r with
 | cons r rr =>
  rw [hs]
  refine assignInOrder_cons (thn (h1 pins s σ H _ _ _ I r h) fun _ s1 qz9=>?_)
  obtain ⟨σ1,H1,I1,q1⟩:=qz9
  exact h2 pins s1 σ1 H1 _ _ Q I1 rr q1
noncomputable def Z8u (K:PySem.W.Frag) (n:Nat) (t:TGs):TG:=fun v σ H Q=>∃ a xs,v = .ref a∧SqT K H a xs∧xs.length = n∧t xs σ H Q
theorem Z1n {es:List Expr} {k:Nat} {t:TGs} {n:Nat} (hc:X.calm = true) (h:PGs X es t)
  (hn:(assignEach es X.env).length = n:=by rfl) (hst:(assignEach es X.env).findIdx? (·.1) = none:=by rfl):PG X (.Tuple es k pos) (Z8u X.K n t):=by
 intro pins s σ H v u Q I r hw
 obtain ⟨a,xs,e1,hq,hl,hw⟩:=hw
 subst e1
 cases r
 obtain ⟨its,rv,ht,hz⟩:=I.tuple hq
 refine assign_Tuple_tuple (I.ok.hd hc) ht (by simp [hn,← hl,rv.length]) hst fun h' hx=>?_
 have I1:Inv X pins σ H { s with heap:=h' }:=I.kept (t':=s.toks) fun b o e=>hx b o (Nat.ne_of_lt (Heap.lt_size e)) e
 exact h pins _ σ H xs _ Q I1 (by simpa using rv) hw
noncomputable def Z5o (to ti:TE) (t:Z5t):TG:=fun v σ H Q=>to σ H fun o H1=>ti σ H1 fun i H2=>t o i v H2 fun H3=>Q σ H3
theorem Zwo {o i:Expr} {to ti:TE} {t:Z5t} (ho:PE X o to) (hi:PE X i ti) (hs:Z62 X t)
  (ha:∀ v,assign (.Subscript o i pos) X.env v = (do
   let ov ← holding [v] (eval o X.env)
   let iv ← holding [v,ov] (eval i X.env)
   standAt pos
   holding [v,ov,iv] (setItem ov iv v)
   release [v,ov,iv] []):=by intro _; rfl):PG X (.Subscript o i pos) (Z5o to ti t):=by
 intro pins s σ H v u Q I r h
 rw [ha]
 refine wpAny_bind (wpAny_holding (thn (ho pins s σ H _ I h) fun ov s1 qz9=>?_))
 obtain ⟨x,H1,I1,r1,q1⟩:=qz9
 refine wpAny_bind (wpAny_holding (thn (hi pins s1 σ H1 _ I1 q1) fun iv s2 qz9=>?_))
 obtain ⟨y,H2,I2,r2,q2⟩:=qz9
 refine wpAny_bind (wpAny_standAt (wpAny_bind (wpAny_holding (thn (hs pins s2 σ H2 x y v ov iv u _ I2 r1 r2 r q2) fun _ s3 qz9=>?_))))
 obtain ⟨H3,I3,q3⟩:=qz9
 exact wpAny_release ⟨σ,H3,I3,q3⟩
noncomputable def Z1b (te:TE) (g:TG):TS:=fun D σ H=>te σ H fun x H1=>g x σ H1 D.nx
theorem Zvs {tg e:Expr} {te:TE} {g:TG} (he:PE X e te) (hg:PG X tg g) (hs:swapsWithSole [tg] e pos.line X.env = pure false:=by rfl) (hw:swappedStores [tg] e X.env = pure none:=by rfl)
  (h1:(assignEach [tg] X.env).map (·.2) = [assign tg X.env]:=by rfl):PS X (.Assign [tg] e pos) (Z1b te g):=by
 intro pins s σ H D I h
 refine wpAny_Assign_stores (thn (he pins s σ H _ I h) fun v s1 qz9=>?_) hs hw
 obtain ⟨x,H1,I1,r1,q1⟩:=qz9
 rw [h1]
 exact thn (hg pins s1 σ H1 x v _ I1 r1 q1) fun _ s2 q=>q
theorem Zwv {i:Nat} {x:Str} {e:Expr} {te:TE} {pos':Pos} (hN:X.N.Nodup) (hi:X.N[i]? = some x) (hx:Loc X.env.scope x) (he:PE X e te) (hs:swapsWith e (some (.Name x pos')) pos.line X.env = pure false:=by rfl) (hf:X.fn x = true∨X.env.scope.names.lookup x = some .local:=by first | exact .inl rfl | exact .inr rfl | assumption) :
  PS X (.Assign [.Name x pos'] e pos) (Z1b te (Zqv i)):=by
 intro pins s σ H D I h
 refine wpAny_Assign_Name (thn (he pins s σ H _ I h) fun v s1 qz9=>?_) hs
 obtain ⟨y,H1,I1,r1,q1⟩:=qz9
 exact Zoo I1 hN hi hx r1 (fun s2 I2=>⟨_,H1,I2,q1⟩) hf
end
section
variable {X:Cx} {pos:Pos}
noncomputable def Z1e (c:TT) (tb:TS):TS:=fun D σ H=>∃ W:Nat→St→Hp→Prop,(∃ m,W m σ H)∧∀ m σ H,W m σ H →
 c σ H fun b H1=>if b = true then ∃ N:St→Hp→Prop,(∀ σ' H',N σ' H'→∃ m',m' < m∧W m' σ' H')∧tb { D with nx:=N,ct:=N,bk:=D.nx } σ H1 else D.nx σ H1
theorem Ztl {c:Expr} {body:List Stmt} {tc:TT} {tb:TS} (hp:PassesOwn (model X.prog X.w) X.A X.env X.xe) (hc:PT X c tc) (hb:PSs X body tb):PS X (.While c body [] pos) (Z1e tc tb):=by
 intro pins s σ H D I h
 obtain ⟨W,⟨m0,w0⟩,turn⟩:=h
 refine wpAny_While (codeAny_whileLoop (fun n s'=>∃ σ' H',Inv X pins σ' H' s'∧W n σ' H') ?_ m0 ⟨σ,H,I,w0⟩)
 rintro n s1 ⟨σ1,H1,I1,w1⟩
 refine wpAny_passesOwn hp (thn (hc pins s1 σ1 H1 _ I1 (turn n σ1 H1 w1)) fun b s2 qz9=>?_)
 obtain ⟨H2,I2,q2⟩:=qz9
 cases b with
 | true =>
  obtain ⟨N,hN,q2⟩:=q2
  rw [if_pos rfl]
  refine wpAny_passesOwn hp (thn (hb pins s2 σ1 H2 _ I2 q2) fun f s3 q3=>?_)
  cases f with
  | next =>
   obtain ⟨σ3,H3,I3,n3⟩:=q3
   obtain ⟨m',hm,w3⟩:=hN σ3 H3 n3
   exact ⟨m',hm,σ3,H3,I3,w3⟩
  | cont =>
   obtain ⟨σ3,H3,I3,n3⟩:=q3
   obtain ⟨m',hm,w3⟩:=hN σ3 H3 n3
   exact ⟨m',hm,σ3,H3,I3,w3⟩
  | brk=>exact q3
  | ret v=>exact q3
 | false =>
  rw [if_neg Bool.false_ne_true]
  exact wpAny_execs_nil ⟨σ1,H2,I2,q2⟩
end
set_option genInjectivity false in
structure It where
 go:Nat→Hp→Prop
 yld:Nat→Hp→V→Hp→Prop
 stop:Nat→Hp→Prop
noncomputable def Zju (X:Cx) (pins:List (Addr × Obj)) (H:Hp) (b:Addr):Prop :=
 H b = none∧b ≠ X.env.locals∧b ∉ X.fs∧(b ∈ X.ex∨X.s₀.heap.objs.size ≤ b)∧(∀ x c,X.env.cells.lookup x = some c→c ≠ b)∧∀ p ∈ X.pn ++ pins,p.1 ≠ b
theorem Inv.fpOk {X:Cx} {pins:List (Addr × Obj)} {σ:St} {H H':Hp} {s:Shared} {b:Addr} (I:Inv X pins σ H s) (hb:s.heap.objs.size ≤ b) (hn:H' b = none):Zju X pins H' b:=by
 refine ⟨hn,Nat.ne_of_gt (Nat.lt_of_lt_of_le I.lt hb),I.nofs hb,.inr (Nat.le_trans I.sz hb),fun x c e z=>?_,fun p hp z=>?_⟩
 ·obtain ⟨v,q⟩:=I.cell x c e
  exact absurd (Nat.lt_of_lt_of_le q.lt (by rw [z]; exact hb)) (Nat.lt_irrefl _)
 ·exact absurd (Nat.lt_of_lt_of_le (Heap.lt_size (I.pin p hp).1) (by rw [z]; exact hb)) (Nat.lt_irrefl _)
structure Turn (P:Program) (w:World) (K:PySem.W.Frag) (tg:Expr) (J:It) (fp:List Addr) (it:Addr) (tn:Nat→Heap→Prop):Prop where
 mem:it ∈ fp
 obj:∀ i h,tn i h→∀ b ∈ fp,∃ o,h.get? b = some o∧∀ v,o.data ≠ .cell v
 keep:∀ i h h',tn i h→(∀ b ∈ fp,∀ o,h.get? b = some o→h'.get? b = some o)→tn i h'
 item:∀ (X:Cx),X.prog = P→X.w = w→X.K = K→X.calm = true→∀ (i:Nat) (pins:List (Addr × Obj)) (s:Shared) (σ:St) (H:Hp) (E:Value→Shared→Prop),Inv X pins σ H s→(∀ b ∈ fp,Zju X pins H b)→tn i s.heap→J.go i H →
  wpAny (model P w) X.A (pyNext (.ref it)) (fun r s1=>∃ u,r = some u ∧
   wpAny (model P w) X.A (letOwnedTupleGo tg (.ref it) u) (fun _ s2=>∃ x H',Inv X pins σ H' s2∧RelV x u∧J.yld i H x H'∧tn (i + 1) s2.heap∧∀ b ∈ fp,H' b = none) E s1) E s
 done:∀ (X:Cx),X.prog = P→X.w = w→X.K = K→X.calm = true→∀ (i:Nat) (pins:List (Addr × Obj)) (s:Shared) (σ:St) (H:Hp) (E:Value→Shared→Prop),Inv X pins σ H s→(∀ b ∈ fp,Zju X pins H b)→tn i s.heap→J.stop i H →
  wpAny (model P w) X.A (pyNext (.ref it)) (fun r s1=>r = none∧Inv X pins σ H s1) E s
 self:∀ (A:Around) (i:Nat) (s:Shared) (Q:Value→Shared→Prop) (E:Value→Shared→Prop),tn i s.heap→Q (.ref it) s→wpAny (model P w) A (pyIter (.ref it)) Q E s
noncomputable abbrev TI:=St→Hp→(It→Hp→Prop)→Prop
noncomputable def PIE (X:Cx) (pins:List (Addr × Obj)) (σ:St) (tg:Expr) (R:It→Hp→Prop) (itv:Value) (s2:Shared):Prop :=
 ∃ (it:Addr) (fp:List Addr) (tn:Nat→Heap→Prop) (J:It) (H':Hp),itv = .ref it∧Inv X pins σ H' s2∧Turn X.prog X.w X.K tg J fp it tn∧tn 0 s2.heap∧(∀ b ∈ fp,Zju X pins H' b)∧R J H'
noncomputable def PI (X:Cx) (tg iter:Expr) (wi:TI):Prop :=
 ∀ (pins:List (Addr × Obj)) (s:Shared) (σ:St) (H:Hp) (R:It→Hp→Prop),Inv X pins σ H s→wi σ H R →
  wpAny (model X.prog X.w) X.A (eval iter X.env) (fun v s1=>wpAny (model X.prog X.w) X.A (pyIter v) (PIE X pins σ tg R) X.xe s1) X.xe s
theorem Zyf {M:Model} {A:Around} {E:Value→Shared→Prop} {s:Shared} {tg:Expr} {it:Addr} {u:Value} {o:Obj} {n:String} {vs:Array Value} {Q:Unit→Shared→Prop} (ho:s.heap.get? it = some o) (hc:o.cls = .type n) (hd:o.data = .fields vs)
  (hn:["enumerate", "zip", "dict_itemiterator", "dict_reverseitemiterator", "odict_iterator", "itertools.zip_longest", "itertools.pairwise"].contains n = false) (hQ:Q () s):wpAny M A (letOwnedTupleGo tg (.ref it) u) Q E s:=by
 unfold letOwnedTupleGo
 cases tg <;> first
  | exact wpAny_pure hQ
  | (cases u <;> first
    | exact wpAny_pure hQ
    | (refine wpAny_bind (wpAny_load ho ?_)
       rw [hc,hd]
       show wpAny M A (if (["enumerate", "zip", "dict_itemiterator", "dict_reverseitemiterator", "odict_iterator", "itertools.zip_longest", "itertools.pairwise"].contains n && vs[0]? == some (rawInt _)) = true then _ else _) Q E s
       rw [if_neg (by intro h; rw [hn,Bool.false_and] at h; cases h)]
       exact wpAny_pure hQ))
noncomputable def Itl (K:PySem.W.Frag) (a:Addr):It :=
 ⟨fun i H=>∃ xs x,SqL K H a xs∧xs[i]? = some x,fun i H x H'=>H' = H∧∀ xs,SqL K H a xs→xs[i]? = some x,fun i H=>∃ xs,SqL K H a xs∧xs.length ≤ i⟩
noncomputable def Itt (K:PySem.W.Frag) (a:Addr):It :=
 ⟨fun i H=>∃ xs x,SqT K H a xs∧xs[i]? = some x,fun i H x H'=>H' = H∧∀ xs,SqT K H a xs→xs[i]? = some x,fun i H=>∃ xs,SqT K H a xs∧xs.length ≤ i⟩
noncomputable def Itr (lo:Int) (n:Nat):It:=⟨fun i _=>i < n,fun i H x H'=>H' = H∧x = .int (lo + i),fun i _=>n ≤ i⟩
theorem Zqw {P:Program} {w:World} {K:PySem.W.Frag} {tg:Expr} (a it:Addr):Turn P w K tg (Itl K a) [it] it (fun i h=>h.IsListIter it a i) where
 mem:=by simp
 obj:=fun i h st b hb=>by
  have e:b = it:=by simpa using hb
  subst e
  obtain ⟨o,e,c,d⟩:=st
  exact ⟨o,e,fun v z=>by rw [d] at z; cases z⟩
 keep:=fun i h h' st k=>st.at fun o e=>k it (by simp) o e
 item:=by
  intro X hP hw hK hc i pins s σ H E I hf st hg
  subst hP hw hK
  obtain ⟨xs,x,hq,hx⟩:=hg
  obtain ⟨its,rv,p,hz⟩:=I.list hq
  obtain ⟨u,hu,ru⟩:=rv.get hx
  obtain ⟨f0,f1,f2,f3,f4,f5⟩:=hf it (by simp)
  refine wpAny_pyNext_list_item st p.isList (x:=u) (by simpa using hu) fun h' st' sb=>?_
  have I1:Inv X pins σ H { s with heap:=h' }:=I.turned (t':=s.toks) (fun b o hb e=>(sb.2 b hb).trans e) f0 f1 f3 f4 f5
  obtain ⟨o,e,c,d⟩:=id st'
  exact ⟨u,rfl,Zyf (s:={ s with heap:=h' }) e c d (by decide) ⟨x,H,I1,ru,⟨rfl,fun ys hy=>by rw [I.list_inj hy hq]; exact hx⟩,st',fun b hb=>(hf b hb).1⟩⟩
 done:=by
  intro X hP hw hK hc i pins s σ H E I hf st hg
  subst hP hw hK
  obtain ⟨xs,hq,hx⟩:=hg
  obtain ⟨its,rv,p,hz⟩:=I.list hq
  obtain ⟨f0,f1,f2,f3,f4,f5⟩:=hf it (by simp)
  have hl:=rv.length
  exact wpAny_pyNext_list_end (I.ok.hd hc) st p.isList (by simp; omega) fun h' eb=>⟨rfl,I.turned (t':=s.toks) (fun b o hb e=>eb b o hb e) f0 f1 f3 f4 f5⟩
 self:=fun _ _ _ _ _ st h=>wpAny_pyIter_listiter st h
theorem Zp0 {P:Program} {w:World} {K:PySem.W.Frag} {tg:Expr} (a it:Addr):Turn P w K tg (Itt K a) [it] it (fun i h=>h.IsTupleIter it a i) where
 mem:=by simp
 obj:=fun i h st b hb=>by
  have e:b = it:=by simpa using hb
  subst e
  obtain ⟨o,e,c,d⟩:=st
  exact ⟨o,e,fun v z=>by rw [d] at z; cases z⟩
 keep:=fun i h h' st k=>st.at fun o e=>k it (by simp) o e
 item:=by
  intro X hP hw hK hc i pins s σ H E I hf st hg
  subst hP hw hK
  obtain ⟨xs,x,hq,hx⟩:=hg
  obtain ⟨its,rv,p,hz⟩:=I.tuple hq
  obtain ⟨u,hu,ru⟩:=rv.get hx
  obtain ⟨f0,f1,f2,f3,f4,f5⟩:=hf it (by simp)
  refine wpAny_pyNext_tuple_item st (show s.heap.IsTuple a its.toArray from p) (x:=u) (by simpa using hu) fun h' st' sb=>?_
  have I1:Inv X pins σ H { s with heap:=h' }:=I.turned (t':=s.toks) (fun b o hb e=>(sb.2 b hb).trans e) f0 f1 f3 f4 f5
  obtain ⟨o,e,c,d⟩:=id st'
  exact ⟨u,rfl,Zyf (s:={ s with heap:=h' }) e c d (by decide) ⟨x,H,I1,ru,⟨rfl,fun ys hy=>by rw [I.tuple_inj hy hq]; exact hx⟩,st',fun b hb=>(hf b hb).1⟩⟩
 done:=by
  intro X hP hw hK hc i pins s σ H E I hf st hg
  subst hP hw hK
  obtain ⟨xs,hq,hx⟩:=hg
  obtain ⟨its,rv,p,hz⟩:=I.tuple hq
  obtain ⟨f0,f1,f2,f3,f4,f5⟩:=hf it (by simp)
  have hl:=rv.length
  exact wpAny_pyNext_tuple_end (I.ok.hd hc) st (show s.heap.IsTuple a its.toArray from p) (by simp; omega) fun h' eb=>⟨rfl,I.turned (t':=s.toks) (fun b o hb e=>eb b o hb e) f0 f1 f3 f4 f5⟩
 self:=fun _ _ _ _ _ st h=>wpAny_pyIter_tupleiter st h
theorem Zo6 {P:Program} {w:World} {K:PySem.W.Frag} {tg:Expr} (it:Addr) (lo:Int) (n:Nat):Turn P w K tg (Itr lo n) [it] it (fun i h=>IsRangeIter h it (lo + (i:Nat) * 1) ((n:Int) - (i:Nat)) 1) where
 mem:=by simp
 obj:=fun i h st b hb=>by
  have e:b = it:=by simpa using hb
  subst e
  exact ⟨_,st,fun v z=>by
   have z':Data.fields _ = Data.cell v:=z
   cases z'⟩
 keep:=fun i h h' st k=>k it (by simp) _ st
 item:=by
  intro X hP hw hK hc i pins s σ H E I hf st hg
  subst hP hw hK
  obtain ⟨f0,f1,f2,f3,f4,f5⟩:=hf it (by simp)
  have W:=Walks.range (prog:=X.prog) (w:=X.w) (I.ok.hd hc) it lo 1 n
  refine W.item i s _ _ hg st fun v h' tk hv st' kk=>?_
  obtain ⟨t,rfl⟩:=hv
  have I1:Inv X pins σ H { s with heap:=h',toks:=tk }:=I.turned (fun b o hb e=>kk b o (by simpa using hb) e) f0 f1 f3 f4 f5
  refine ⟨_,rfl,Zyf (s:={ s with heap:=h',toks:=tk }) (n := "range_iterator") st' rfl rfl (by decide) ⟨.int (lo + i),H,I1,⟨t,?_⟩,⟨rfl,rfl⟩,st',fun b hb=>(hf b hb).1⟩⟩
  rw [Int.mul_one]
 done:=by
  intro X hP hw hK hc i pins s σ H E I hf st hg
  subst hP hw hK
  obtain ⟨f0,f1,f2,f3,f4,f5⟩:=hf it (by simp)
  exact wpAny_pyNext_range_end (I.ok.hd hc) st (by have:n ≤ i:=hg; omega) fun h' eb=>⟨rfl,I.turned (t':=s.toks) (fun b o hb e=>eb b o hb e) f0 f1 f3 f4 f5⟩
 self:=fun _ _ _ _ _ st h=>wpAny_pyIter_rangeiter st h
end L2
namespace L2
open PySem PySem.Spec PyProof.Rows
section
variable {X:Cx} {tg:Expr}
noncomputable def Z3u (K:PySem.W.Frag) (tl:TE):TI:=fun σ H R=>tl σ H fun x H1=>∃ a,x = .ref a∧(∃ xs,SqL K H1 a xs)∧R (Itl K a) H1
noncomputable def Z7i (K:PySem.W.Frag) (tl:TE):TI:=fun σ H R=>tl σ H fun x H1=>∃ a,x = .ref a∧(∃ xs,SqT K H1 a xs)∧R (Itt K a) H1
theorem Zyg {l:Expr} {tl:TE} (hl:PE X l tl):PI X tg l (Z3u X.K tl):=by
 intro pins s σ H R I h
 refine thn (hl pins s σ H _ I h) fun v s1 qz9=>?_
 obtain ⟨x,H1,I1,r1,q1⟩:=qz9
 obtain ⟨a,e,⟨xs,hq⟩,q⟩:=q1
 subst e
 cases r1
 obtain ⟨its,rv,p,hz⟩:=I1.list hq
 refine wpAny_pyIter_list p.isList ?_
 refine ⟨s1.heap.objs.size,[s1.heap.objs.size],_,_,H1,rfl,I1.kept (t':=s1.toks) fun b o e=>Heap.get?_push_of_some _ e,Zqw a _,⟨_,Heap.get?_push_size _ rfl,rfl,rfl⟩,fun b hb=>?_,q⟩
 have e:b = s1.heap.objs.size:=by simpa using hb
 subst e
 exact I1.fpOk (Nat.le_refl _) (I1.hok.fresh (Nat.le_refl _))
theorem Z3f {l:Expr} {tl:TE} (hl:PE X l tl):PI X tg l (Z7i X.K tl):=by
 intro pins s σ H R I h
 refine thn (hl pins s σ H _ I h) fun v s1 qz9=>?_
 obtain ⟨x,H1,I1,r1,q1⟩:=qz9
 obtain ⟨a,e,⟨xs,hq⟩,q⟩:=q1
 subst e
 cases r1
 obtain ⟨its,rv,p,hz⟩:=I1.tuple hq
 refine wpAny_pyIter_tuple (show s1.heap.IsTuple a its.toArray from p) ?_
 refine ⟨s1.heap.objs.size,[s1.heap.objs.size],_,_,H1,rfl,I1.kept (t':=s1.toks) fun b o e=>Heap.get?_push_of_some _ e,Zp0 a _,⟨_,Heap.get?_push_size _ rfl,rfl,rfl⟩,fun b hb=>?_,q⟩
 have e:b = s1.heap.objs.size:=by simpa using hb
 subst e
 exact I1.fpOk (Nat.le_refl _) (I1.hok.fresh (Nat.le_refl _))
theorem Zoh {pins:List (Addr × Obj)} {σ:St} {H:Hp} {s:Shared} {R:It→Hp→Prop} {E:Value→Shared→Prop} {lo hi:Int} {t u v:Tok} {tk:Nat} (I:Inv X pins σ H s) (h1:-(2 ^ 62) ≤ lo) (h2:lo < 2 ^ 62) (h3:-(2 ^ 62) ≤ hi) (h4:hi < 2 ^ 62)
  (q:R (Itr lo (hi - lo).toNat) H):wpAny (model X.prog X.w) X.A (pyIter (.ref s.heap.objs.size)) (PIE X pins σ tg R) E { s with heap:=s.heap.push { cls:=.type "range", data:=.fields #[.int lo t,.int hi u,.int 1 v] },toks:=tk }:=by
 refine wpAny_pyIter_range (IsRange.new ..) (small_one h1 h2 h3 h4) ?_
 have I1:Inv X pins σ H { s with heap:=s.heap.push { cls:=.type "range", data:=.fields #[.int lo t,.int hi u,.int 1 v] },toks:=tk }:=I.kept fun b o e=>Heap.get?_push_of_some _ e
 refine ⟨(s.heap.push { cls:=.type "range", data:=.fields #[.int lo t,.int hi u,.int 1 v] }).objs.size,[(s.heap.push { cls:=.type "range", data:=.fields #[.int lo t,.int hi u,.int 1 v] }).objs.size],_,_,H,rfl,
  I1.kept (t':=tk) fun b o e=>Heap.get?_push_of_some _ e,Zo6 _ lo (hi - lo).toNat,?_,fun b hb=>?_,q⟩
 ·have e1:lo + ((0:Nat):Int) * 1 = lo:=by simp
  have e2:(((hi - lo).toNat:Nat):Int) - ((0:Nat):Int) = Builtin.Range.rangeSize lo hi 1:=by rw [rangeSize_one]; split <;> omega
  show IsRangeIter _ _ (lo + ((0:Nat):Int) * 1) ((((hi - lo).toNat:Nat):Int) - ((0:Nat):Int)) 1
  rw [e1,e2]
  exact Heap.get?_push_size _ rfl
 ·have e:b = (s.heap.push { cls:=.type "range", data:=.fields #[.int lo t,.int hi u,.int 1 v] }).objs.size:=by simpa using hb
  subst e
  exact I1.fpOk (Nat.le_refl _) (I1.hok.fresh (Nat.le_refl _))
noncomputable def Z6u (ta:TA):TI:=fun σ H R=>ta σ H fun vs H1=>∃ j:Int,vs = [.int j]∧-(2 ^ 62) ≤ j∧j < 2 ^ 62∧R (Itr 0 j.toNat) H1
noncomputable def Z5c (ta:TA):TI:=fun σ H R=>ta σ H fun vs H1=>∃ i j:Int,vs = [.int i,.int j]∧(-(2 ^ 62) ≤ i∧i < 2 ^ 62∧-(2 ^ 62) ≤ j∧j < 2 ^ 62)∧R (Itr i (j - i).toNat) H1
theorem Zsj {a:Expr} {ta:TA} {p pos:Pos} (hg:Gl X "range") (hm:X.mg "range" = none) (ha:PA X [a] ta) (hs:starEach [a] X.env = [(false,eval a X.env)]:=by rfl):PI X tg (.Call (.Name "range" p) [a] [] pos) (Z6u ta):=by
 intro pins s σ H R I h
 refine Call_ (Ziy I hg hm boot_range (PyProof.Rows.callWith_type1 (thn (ha pos pins s σ H _ I h) fun us s1 qz9=>?_) hs rfl))
 obtain ⟨vs,H1,I1,r1,q1⟩:=qz9
 obtain ⟨j,e,q1,q2,q⟩:=q1
 subst e
 cases r1 with
 | cons r rr =>
  cases rr
  obtain ⟨t,rfl⟩:=r
  exact call_range_1 (Zoh I1 (by omega) (by omega) q1 q2 (by simpa using q))
theorem Zsp {a b:Expr} {ta:TA} {p pos:Pos} (hg:Gl X "range") (hm:X.mg "range" = none) (ha:PA X [a,b] ta) (hs:starEach [a,b] X.env = [(false,eval a X.env),(false,eval b X.env)]:=by rfl) (hs2:starEach [b] X.env = [(false,eval b X.env)]:=by rfl) :
  PI X tg (.Call (.Name "range" p) [a,b] [] pos) (Z5c ta):=by
 intro pins s σ H R I h
 refine Call_ (Ziy I hg hm boot_range (PyProof.Rows.callWith_type1 (thn (ha pos pins s σ H _ I h) fun us s1 ⟨vs,H1,I1,r1,q1⟩=>?_) (by rw [hs,hs2]) (by rw [hs2]; rfl)))
 obtain ⟨i,j,e,⟨q1,q2,q3,q4⟩,q⟩:=q1
 subst e
 cases r1 with
 | cons r rr =>
  cases rr with
  | cons r' rr =>
   cases rr
   obtain ⟨t,rfl⟩:=r
   obtain ⟨t',rfl⟩:=r'
   exact call_range_2 (Zoh I1 q1 q2 q3 q4 q)
noncomputable def Z83 (wi:TI) (g:TG) (tb:TS):TS:=fun D σ H=>wi σ H fun J H1=>∃ W:Nat→Nat→St→Hp→Prop,(∃ m,W 0 m σ H1)∧∀ i m σ H,W i m σ H →
 (J.stop i H∧D.nx σ H)∨(J.go i H∧∃ N:St→Hp→Prop,(∀ σ' H',N σ' H'→∃ m',m' < m∧W (i + 1) m' σ' H')∧∀ x H',J.yld i H x H'→g x σ H' fun σ2 H2=>tb { D with nx:=N,ct:=N,bk:=D.nx } σ2 H2)
noncomputable def Zlb (fp:List Addr) (h:Heap):List (Addr × Obj):=fp.filterMap fun b=>(h.get? b).map fun o=>(b,o)
theorem Zfa {fp:List Addr} {h:Heap} {b:Addr} {o:Obj} (hb:b ∈ fp) (e:h.get? b = some o):(b,o) ∈ Zlb fp h:=List.mem_filterMap.mpr ⟨b,hb,by rw [e]; rfl⟩
theorem Zsl {fp:List Addr} {h:Heap} {p:Addr × Obj} (hp:p ∈ Zlb fp h):p.1 ∈ fp∧h.get? p.1 = some p.2:=by
 obtain ⟨b,hb,e⟩:=List.mem_filterMap.mp hp
 cases q:h.get? b with
 | none=>rw [q] at e; cases e
 | some o =>
  rw [q] at e
  have e':(b,o) = p:=Option.some.inj e
  subst e'
  exact ⟨hb,q⟩
theorem Inv.pinned {pins:List (Addr × Obj)} {σ:St} {H:Hp} {s:Shared} {fp:List Addr} (I:Inv X pins σ H s) (hf:∀ b ∈ fp,Zju X pins H b) (ho:∀ b ∈ fp,∃ o,s.heap.get? b = some o∧∀ v,o.data ≠ .cell v):Inv X (pins ++ Zlb fp s.heap) σ H s :=
 I.pins_of fun p hp=>(List.mem_append.mp hp).elim (fun z=>I.pin p (List.mem_append_right _ z)) fun z=>by
  obtain ⟨hb,e⟩:=Zsl z
  obtain ⟨f0,f1,f2,_⟩:=hf p.1 hb
  obtain ⟨o,e',d⟩:=ho p.1 hb
  rw [e] at e'; cases e'
  exact ⟨e,f0,f1,f2,d⟩
theorem Inv.unpinned {pins pl:List (Addr × Obj)} {σ:St} {H:Hp} {s:Shared} (I:Inv X (pins ++ pl) σ H s):Inv X pins σ H s:=I.pins_of fun p hp=>I.pin p (List.mem_append_right _ (List.mem_append_left _ hp))
theorem Z12 {iter:Expr} {body:List Stmt} {wi:TI} {g:TG} {tb:TS} {pos:Pos} (hp:PassesOwn (model X.prog X.w) X.A X.env X.xe) (hc:X.calm = true) (hi:PI X tg iter wi) (hg:PG X tg g) (hb:PSs X body tb)
  (hs:∀ x,foldedSetIterable iter X.env x = pure x:=by intro _; rfl):PS X (.For tg iter body [] pos) (Z83 wi g tb):=by
 intro pins s σ H D I h
 refine wpAny_For (thn (hi pins s σ H _ I h) fun v s1 h1=>thn h1 fun itv s2 h2=>?_) hs
 obtain ⟨it,fp,tn,J,H2,e,I2,T,st2,f2,W,⟨m0,w0⟩,turn⟩:=h2
 subst e
 -- what stays true of the iterator's objects through the loop
 have stat:∀ {H':Hp},(∀ b ∈ fp,H' b = none)→∀ b ∈ fp,Zju X pins H' b:=fun hn b hb=>⟨hn b hb,(f2 b hb).2⟩
 refine codeAny_forLoop_any (fun n s'=>∃ i σ' H',Inv X pins σ' H' s'∧tn i s'.heap∧(∀ b ∈ fp,H' b = none)∧W i n σ' H') ?_ m0 ⟨0,σ,H2,I2,st2,fun b hb=>(f2 b hb).1,w0⟩
 rintro n s3 ⟨i,σ3,H3,I3,st3,fr3,w3⟩
 rcases turn i n σ3 H3 w3 with ⟨stop,qn⟩ | ⟨go,N,hN,step⟩
 ·refine wpAny_passesOwn hp (thn (T.done X rfl rfl rfl hc i pins s3 σ3 H3 X.xe I3 (stat fr3) st3 stop) fun r s4 qz9=>?_)
  obtain ⟨hr,I4⟩:=qz9
  subst hr
  exact wpAny_execs_nil ⟨σ3,H3,I4,qn⟩
 ·refine wpAny_passesOwn hp (thn (T.item X rfl rfl rfl hc i pins s3 σ3 H3 X.xe I3 (stat fr3) st3 go) fun r s4 qz9=>?_)
  obtain ⟨u,hr,h4⟩:=qz9
  subst hr
  refine wpAny_passesOwn hp (thn h4 fun _ s5 qz9=>?_)
  obtain ⟨x,H5,I5,r5,y5,st5,fr5⟩:=qz9
  have I5':=I5.pinned (stat fr5) (T.obj _ _ st5)
  refine wpAny_passesOwn hp (thn (hg _ s5 σ3 H5 x u _ I5' r5 (step x H5 y5)) fun _ s6 qz9=>?_)
  obtain ⟨σ6,H6,I6,q6⟩:=qz9
  refine wpAny_passesOwn hp (thn (hb _ s6 σ6 H6 _ I6 q6) fun f s7 q7=>?_)
  have again:∀ {σ7:St} {H7:Hp},Inv X (pins ++ Zlb fp s5.heap) σ7 H7 s7→N σ7 H7→∃ m,m < n∧∃ i σ' H',Inv X pins σ' H' s7∧tn i s7.heap∧(∀ b ∈ fp,H' b = none)∧W i m σ' H':=fun {σ7 H7} I7 n7=>by
   obtain ⟨m',hm,w7⟩:=hN σ7 H7 n7
   refine ⟨m',hm,i + 1,σ7,H7,I7.unpinned,T.keep _ _ _ st5 fun b hb o e=>(I7.pin (b,o) (List.mem_append_right _ (List.mem_append_right _ (Zfa hb e)))).1,fun b hb=>?_,w7⟩
   obtain ⟨o,e,d⟩:=T.obj _ _ st5 b hb
   exact (I7.pin (b,o) (List.mem_append_right _ (List.mem_append_right _ (Zfa hb e)))).2.1
  cases f with
  | next=>obtain ⟨σ7,H7,I7,n7⟩:=q7; exact again I7 n7
  | cont=>obtain ⟨σ7,H7,I7,n7⟩:=q7; exact again I7 n7
  | brk=>obtain ⟨σ7,H7,I7,q7⟩:=q7; exact ⟨σ7,H7,I7.unpinned,q7⟩
  | ret v=>obtain ⟨x7,σ7,H7,I7,r7,q7⟩:=q7; exact ⟨x7,σ7,H7,I7.unpinned,r7,q7⟩
end
end L2
namespace L2
open PySem PySem.Spec PyProof.Rows
noncomputable abbrev R2:=V→V→Hp→VK→Prop
noncomputable def OpR (X:Cx) (f:Value→Value→Sem Value) (r:R2):Prop :=
 ∀ (pins:List (Addr × Obj)) (s:Shared) (σ:St) (H:Hp) (x y:V) (v u:Value) (Q:VK),Inv X pins σ H s→RelV x v→RelV y u→r x y H Q →
  wpAny (model X.prog X.w) X.A (f v u) (EP X pins σ Q) X.xe s
noncomputable def UnR (X:Cx) (f:Value→Sem Value) (r:V→Hp→VK→Prop):Prop :=
 ∀ (pins:List (Addr × Obj)) (s:Shared) (σ:St) (H:Hp) (x:V) (v:Value) (Q:VK),Inv X pins σ H s→RelV x v→r x H Q →
  wpAny (model X.prog X.w) X.A (f v) (EP X pins σ Q) X.xe s
noncomputable def Zd9 (X:Cx) (f:Value) (r:List V→Hp→VK→Prop):Prop :=
 ∀ (pins:List (Addr × Obj)) (s:Shared) (σ:St) (H:Hp) (xs:List V) (us:List Value) (Q:VK),Inv X pins σ H s→Vals xs us→r xs H Q →
  wpAny (model X.prog X.w) X.A (call f us) (EP X pins σ Q) X.xe s
noncomputable def Z8l (X:Cx) (r:V→Hp→(Bool→Hp→Prop)→Prop):Prop :=
 ∀ (pins:List (Addr × Obj)) (s:Shared) (σ:St) (H:Hp) (x:V) (v:Value) (Q:Bool→Hp→Prop),Inv X pins σ H s→RelV x v→r x H Q →
  wpAny (model X.prog X.w) X.A (truthy v) (TP X pins σ Q) X.xe s
noncomputable def tOp (r:R2) (ta tb:TE):TE:=fun σ H Q=>ta σ H fun x H1=>tb σ H1 fun y H2=>r x y H2 Q
noncomputable def tUn (r:V→Hp→VK→Prop) (ta:TE):TE:=fun σ H Q=>ta σ H fun x H1=>r x H1 Q
noncomputable def rI (C:Int→Int→Prop) (g:Int→Int→V):R2:=fun x y H Q=>∃ i j,x = .int i∧y = .int j∧C i j∧Q (g i j) H
noncomputable def rI0 (g:Int→Int→V):R2:=fun x y H Q=>∃ i j,x = .int i∧y = .int j∧Q (g i j) H
noncomputable def rU (g:Int→V):V→Hp→VK→Prop:=fun x H Q=>∃ i,x = .int i∧Q (g i) H
section
variable {X:Cx} {a b c:Expr} {ta tb tc:TE} {pos:Pos}
theorem Z59 (ha:PE X a ta) (hb:PE X b tb) {pins:List (Addr × Obj)} {s:Shared} {σ:St} {H:Hp} {R:V→V→Hp→Prop} (I:Inv X pins σ H s)
  (h:ta σ H fun x H1=>tb σ H1 fun y H2=>R x y H2) {Q:Value→Shared→Prop} {f:Value→Value→Sem Value}
  (hf:∀ v u s2 x y H2,Inv X pins σ H2 s2→RelV x v→RelV y u→R x y H2→wpAny (model X.prog X.w) X.A (f v u) Q X.xe s2) :
  wpAny (model X.prog X.w) X.A (eval a X.env) (fun v s₁=>wpAny (model X.prog X.w) X.A (eval b X.env) (fun u s₂=>wpAny (model X.prog X.w) X.A (f v u) Q X.xe s₂) X.xe s₁) X.xe s:=by
 refine thn (ha pins s σ H _ I h) fun v s1 qz9=>?_
 obtain ⟨x,H1,I1,r1,q1⟩:=qz9
 refine thn (hb pins s1 σ H1 _ I1 q1) fun u s2 qz9=>?_
 obtain ⟨y,H2,I2,r2,q2⟩:=qz9
 exact hf v u s2 x y H2 I2 r1 r2 q2
theorem Z1s {op:Operator} {r:R2} (ho:OpR X (binaryOp op) r) (ha:PE X a ta) (hb:PE X b tb):PE X (.BinOp a op b pos) (tOp r ta tb):=by
 intro pins s σ H Q I h
 exact wpAny_BinOp (Z59 ha hb I h fun v u s2 x y H2 I2 rx ry q=>ho pins s2 σ H2 x y v u Q I2 rx ry q)
theorem Z55 {op:UnaryOp} {r:V→Hp→VK→Prop} (ho:UnR X (unaryOp op) r) (ha:PE X a ta):PE X (.UnaryOp op a pos) (tUn r ta):=by
 intro pins s σ H Q I h
 refine UnaryOp_ (thn (ha pins s σ H _ I h) fun v s1 qz9=>?_)
 obtain ⟨x,H1,I1,r1,q1⟩:=qz9
 exact ho pins s1 σ H1 x v Q I1 r1 q1
theorem opI {f:Value→Value→Sem Value} {C:Int→Int→Prop} {g:Int→Int→Int}
  (rule:∀ (i j:Int) (t u:Tok) (s:Shared) (Q:Value→Shared→Prop) (E:Value→Shared→Prop),C i j→Q (.int (g i j) s.toks) { s with toks:=s.toks + 1 }→wpAny (model X.prog X.w) X.A (f (.int i t) (.int j u)) Q E s) :
  OpR X f (rI C fun i j=>.int (g i j)):=by
 intro pins s σ H x y v u Q I rx ry h
 obtain ⟨i,j,rfl,rfl,hc,q⟩:=h
 obtain ⟨t,rfl⟩:=rx
 obtain ⟨t',rfl⟩:=ry
 exact rule i j t t' s _ _ hc ⟨.int (g i j),H,I.tok _,⟨_,rfl⟩,q⟩
theorem Z6m {f:Value→Value→Sem Value} {g:Int→Int→Int}
  (rule:∀ (i j:Int) (t u:Tok) (s:Shared) (Q:Value→Shared→Prop) (E:Value→Shared→Prop),Q (.int (g i j) s.toks) { s with toks:=s.toks + 1 }→wpAny (model X.prog X.w) X.A (f (.int i t) (.int j u)) Q E s) :
  OpR X f (rI0 fun i j=>.int (g i j)):=by
 intro pins s σ H x y v u Q I rx ry h
 obtain ⟨i,j,rfl,rfl,q⟩:=h
 obtain ⟨t,rfl⟩:=rx
 obtain ⟨t',rfl⟩:=ry
 exact rule i j t t' s _ _ ⟨.int (g i j),H,I.tok _,⟨_,rfl⟩,q⟩
theorem Z4d {f:Value→Value→Sem Value} {g:Int→Int→Bool}
  (rule:∀ (i j:Int) (t u:Tok) (s:Shared) (Q:Value→Shared→Prop) (E:Value→Shared→Prop),Q (.bool (g i j)) s→wpAny (model X.prog X.w) X.A (f (.int i t) (.int j u)) Q E s) :
  OpR X f (rI0 fun i j=>.bl (g i j)):=by
 intro pins s σ H x y v u Q I rx ry h
 obtain ⟨i,j,rfl,rfl,q⟩:=h
 obtain ⟨t,rfl⟩:=rx
 obtain ⟨t',rfl⟩:=ry
 exact rule i j t t' s _ _ ⟨.bl (g i j),H,I,rfl,q⟩
noncomputable def Z0e (i j:Int):Prop:=0 ≤ j∧j ≤ 1000000∧i.natAbs < 2 ^ 64
theorem Zox (k:Nat):(0:Int) ≤ 2 ^ k:=by
 rw [two_pow_cast]
 exact Int.natCast_nonneg _
theorem W3:OpR X (binaryOp .Add) (rI0 fun i j=>.int (i + j)):=Z6m fun _ _ _ _ _ _ _ q=>add_int q
theorem Zgs:OpR X (binaryOp .Sub) (rI0 fun i j=>.int (i - j)):=Z6m fun _ _ _ _ _ _ _ q=>sub_int q
theorem Zhl:OpR X (binaryOp .Mod) (rI (fun _ j=>j ≠ 0) fun i j=>.int (i.fmod j)):=opI fun _ _ _ _ _ _ _ hc q=>mod_int' hc q
theorem Z01:OpR X (binaryOp .Pow) (rI Z0e fun i j=>.int (i ^ j.toNat)):=opI fun _ _ _ _ _ _ _ hc q=>pow_int_small hc.1 hc.2.1 hc.2.2 q
theorem Z21:OpR X (binaryOp .LShift) (rI Z0e fun i j=>.int (i * 2 ^ j.toNat)):=opI fun _ _ _ _ _ _ _ hc q=>lshift_int_small hc.1 hc.2.1 hc.2.2 q
theorem Zwu:OpR X (binaryOp .RShift) (rI (fun _ j=>0 ≤ j) fun i j=>.int (i / 2 ^ j.toNat)):=opI fun i j _ _ _ _ _ hc q =>
 rshift_int hc (by rw [Int.fdiv_eq_ediv_of_nonneg i (Zox _)]; exact q)
theorem Zvo:OpR X (binaryOp .BitAnd) (rI0 fun i j=>.int (Builtin.bitAnd i j)):=Z6m fun _ _ _ _ _ _ _ q=>and_int q
theorem unI {f:Value→Sem Value} {g:Int→Int}
  (rule:∀ (i:Int) (t:Tok) (s:Shared) (Q:Value→Shared→Prop) (E:Value→Shared→Prop),Q (.int (g i) s.toks) { s with toks:=s.toks + 1 }→wpAny (model X.prog X.w) X.A (f (.int i t)) Q E s) :
  UnR X f (rU fun i=>.int (g i)):=by
 intro pins s σ H x v Q I rx h
 obtain ⟨i,rfl,q⟩:=h
 obtain ⟨t,rfl⟩:=rx
 exact rule i t s _ _ ⟨.int (g i),H,I.tok _,⟨_,rfl⟩,q⟩
theorem Z0r:UnR X (unaryOp .USub) (rU fun i=>.int (-i)):=unI fun _ _ _ _ _ q=>neg_int q
end
section
variable {X:Cx} {a b c:Expr} {ta tb tc:TE} {pos:Pos}
theorem Zwt {pins:List (Addr × Obj)} {σ:St} {H:Hp} {s:Shared} {Q:VK} {k k':Bool} (I:Inv X pins σ H s) (q:Q (.bl k) H) (e:k = k'):EP X pins σ Q (.bool k') s:=by
 subst e
 exact ⟨.bl k,H,I,rfl,q⟩
theorem Z4a:OpR X (compareOp .Lt) (rI0 fun i j=>.bl (decide (i < j))):=Z4d fun _ _ _ _ _ _ _ q=>lt_int q
theorem Z5w:OpR X (compareOp .LtE) (rI0 fun i j=>.bl (decide (i ≤ j))):=Z4d fun _ _ _ _ _ _ _ q=>le_int q
theorem Zo0:OpR X (compareOp .Gt) (rI0 fun i j=>.bl (decide (j < i))):=Z4d fun _ _ _ _ _ _ _ q=>gt_int q
theorem Z6d:OpR X (compareOp .GtE) (rI0 fun i j=>.bl (decide (j ≤ i))):=Z4d fun _ _ _ _ _ _ _ q=>ge_int q
theorem Zot:OpR X (compareOp .Is) (fun x y H Q=>y = .non∧Q (.bl (decide (x = .non))) H):=by
 intro pins s σ H x y v u Q I rx ry h
 obtain ⟨rfl,q⟩:=h
 cases ry
 refine is_none_gen (Zwt I q ?_)
 cases x <;> first
  | (cases rx; rfl)
  | (obtain ⟨t,rfl⟩:=rx; rfl)
theorem Zql:OpR X (compareOp .IsNot) (fun x y H Q=>y = .non∧Q (.bl (!decide (x = .non))) H):=by
 intro pins s σ H x y v u Q I rx ry h
 obtain ⟨rfl,q⟩:=h
 cases ry
 refine isnot_none_gen (Zwt I q ?_)
 cases x <;> first
  | (cases rx; rfl)
  | (obtain ⟨t,rfl⟩:=rx; rfl)
theorem Yw (b:Expr) {op:CmpOp} (h:op ≠ .In:=by decide) (h2:op ≠ .NotIn:=by decide):behindInMarks op b = false:=by
 have e1:(op == CmpOp.In) = false:=by cases op <;> first | rfl | exact absurd rfl h
 have e2:(op == CmpOp.NotIn) = false:=by cases op <;> first | rfl | exact absurd rfl h2
 cases b <;> simp [behindInMarks,e1,e2]
theorem Zx2 {op:CmpOp} {r:R2} (ho:OpR X (compareOp op) r) (ha:PE X a ta) (hb:PE X b tb) (hm:behindInMarks op b = false):PE X (.Compare a [op] [b] pos) (tOp r ta tb):=by
 intro pins s σ H Q I h
 exact wpAny_Compare1 (Z59 ha hb I h fun v u s2 x y H2 I2 rx ry q=>ho pins s2 σ H2 x y v u Q I2 rx ry q) hm
noncomputable def Z2a (t:TE):TT:=fun σ H Q=>t σ H fun x H'=>∃ k,x = .bl k∧Q k H'
theorem Zw3 {op:CmpOp} {r:R2} (ho:OpR X (compareOp op) r) (ha:PE X a ta) (hb:PE X b tb) (hm:behindInMarks op b = false):PT X (.Compare a [op] [b] pos) (Z2a (tOp r ta tb)):=by
 intro pins s σ H Q I h
 refine wpAny_isTrue_Compare1 (thn (ha pins s σ H _ I h) fun v s1 ⟨x,H1,I1,r1,q1⟩=>thn (hb pins s1 σ H1 _ I1 q1) fun u s2 ⟨y,H2,I2,r2,q2⟩ =>
  thn (ho pins s2 σ H2 x y v u _ I2 r1 r2 q2) fun c s3 ⟨z,H3,I3,r3,k,e,q3⟩=>?_) hm
 subst e
 cases r3
 exact wpAny_truthy_bool ⟨H3,I3,q3⟩
noncomputable def Zwh (r r':R2) (ta tb tc:TE):TE:=fun σ H Q=>ta σ H fun x H1=>tb σ H1 fun y H2=>r x y H2 fun z H3=>∃ k,z = .bl k ∧
 (if k = true then tc σ H3 fun w' H4=>r' y w' H4 Q else Q (.bl false) H3)
theorem Zvc {op op':CmpOp} {r r':R2} (ho:OpR X (compareOp op) r) (ho':OpR X (compareOp op') r') (ha:PE X a ta) (hb:PE X b tb) (hc:PE X c tc)
  (hm:lastMarks [op,op'] [b,c] = false:=by with_unfolding_all rfl):PE X (.Compare a [op,op'] [b,c] pos) (Zwh r r' ta tb tc):=by
 intro pins s σ H Q I h
 refine Compare_chain (thn (ha pins s σ H _ I h) fun v s1 ⟨x,H1,I1,r1,q1⟩=>chain_link (thn (hb pins s1 σ H1 _ I1 q1) fun u s2 ⟨y,H2,I2,r2,q2⟩ =>
  thn (ho pins s2 σ H2 x y v u _ I2 r1 r2 q2) fun d s3 ⟨z,H3,I3,r3,k,e,q3⟩=>?_)) hm
 subst e
 cases r3
 refine wpAny_truthy_bool ?_
 cases k with
 | false=>exact ite_ff ⟨.bl false,H3,I3,rfl,q3⟩
 | true=>exact ite_tt (chain_last (thn (hc pins s3 σ H3 _ I3 q3) fun w' s4 ⟨z',H4,I4,r4,q4⟩=>ho' pins s4 σ H4 y z' u w' Q I4 r2 r4 q4))
noncomputable def Z6q (K:PySem.W.Frag) (x:V) (H:Hp) (k:Bool):Prop :=
 match x with
 | .non=>k = false
 | .bl b=>k = b
 | .int i=>k = (i != 0)
 | .str y=>y.length ≤ sizeLine∧k = ((y.length:Int) != 0)
 | .byt y=>y.size ≤ sizeLine∧k = ((y.size:Int) != 0)
 | .ref p=>(∃ xs,SqL K H p xs∧k = !xs.isEmpty)∨(∃ xs,SqT K H p xs∧k = !xs.isEmpty)∨∃ kvs,H p = some (.dK kvs)∧k = !kvs.isEmpty
 | _=>False
theorem Zpv {κ:Type} {kvs:List (κ × V)} {vs:List (κ × Value)} (r:KV kvs vs):(!vs.isEmpty) = !kvs.isEmpty:=by
 cases r <;> rfl
theorem Zit {xs:List V} {its:List Value} (r:Vals xs its):(!its.toArray.isEmpty) = !xs.isEmpty:=by
 cases r <;> simp
theorem Zi4:(sizeLine:Nat) < 2 ^ 63:=by rw [sizeLine_eq]; decide
theorem Z2m:Z8l X (fun x H Q=>∃ k,Z6q X.K x H k∧Q k H):=by
 intro pins s σ H x v Q I rx h
 obtain ⟨k,e,q⟩:=h
 have hl:=Zi4
 have hs:sizeLine = 16777216:=sizeLine_eq
 cases x with
 | non =>
  cases rx
  have e':k = false:=e
  subst e'
  exact truthy_none ⟨H,I,q⟩
 | bl b =>
  cases rx
  have e':k = b:=e
  subst e'
  exact wpAny_truthy_bool ⟨H,I,q⟩
 | int i =>
  obtain ⟨t,rfl⟩:=rx
  have e':k = (i != 0):=e
  subst e'
  exact PySem.P.truthy_int ⟨H,I,q⟩
 | str y =>
  obtain ⟨t,rfl⟩:=rx
  obtain ⟨hy,e'⟩:y.length ≤ sizeLine∧k = ((y.length:Int) != 0):=e
  subst e'
  exact PySem.P.truthy_str (by omega) ⟨H,I.tok _,q⟩
 | byt y =>
  obtain ⟨t,rfl⟩:=rx
  obtain ⟨hy,e'⟩:y.size ≤ sizeLine∧k = ((y.size:Int) != 0):=e
  subst e'
  exact PySem.W.truthy_bytes (by omega) ⟨H,I.tok _,q⟩
 | ref p =>
  cases rx
  have e':(∃ xs,SqL X.K H p xs∧k = !xs.isEmpty)∨(∃ xs,SqT X.K H p xs∧k = !xs.isEmpty)∨∃ kvs,H p = some (.dK kvs)∧k = !kvs.isEmpty:=e
  rcases e' with ⟨xs,hx,e'⟩ | ⟨xs,hx,e'⟩ | ⟨kvs,hx,e'⟩
  ·subst e'
   obtain ⟨its,r,pl,hz⟩:=I.list hx
   have hlen:=r.length
   exact wpAny_truthy_list pl.isList (by simp only [List.size_toArray]; omega) ⟨H,I.tok _,by rw [Zit r]; exact q⟩
  ·subst e'
   obtain ⟨its,r,pl,hz⟩:=I.tuple hx
   have hlen:=r.length
   exact truthy_tuple pl (by simp only [List.size_toArray]; omega) ⟨H,I.tok _,by rw [Zit r]; exact q⟩
  ·subst e'
   obtain ⟨hz,hS,vs,r,m⟩:kvs.length ≤ sizeLine∧(p == sysModules) = false∧∃ vs,KV kvs vs∧s.heap.DictOf (Zmz X.prog X.w) p vs:=I.hok p _ hx
   have hlen:kvs.length = vs.length:=Paired.length r
   exact wpAny_truthy_dict hS m (by omega) ⟨H,I.tok _,by rw [Zpv r]; exact q⟩
 | _=>exact (show False from e).elim
theorem Zt0 (ha:PE X a ta) (he:∀ whole,isTrue a X.env whole = (do let v ← whole; standAt a.pos; holding [v] (truthy v))) :
  PT X a (fun σ H Q=>ta σ H fun x H'=>∃ k,Z6q X.K x H' k∧Q k H'):=by
 intro pins s σ H Q I h
 refine isTrue_plain (thn (ha pins s σ H _ I h) fun v s1 qz9=>?_) (he _)
 obtain ⟨x,H1,I1,r1,q1⟩:=qz9
 exact Z2m pins s1 σ H1 x v Q I1 r1 q1
theorem vals1 {x:V} {us:List Value} (r:Vals [x] us):∃ u,us = [u]∧RelV x u:=by
 cases r with
 | cons r1 r2=>cases r2; exact ⟨_,rfl,r1⟩
theorem vals2 {x y:V} {us:List Value} (r:Vals [x,y] us):∃ u w',us = [u,w']∧RelV x u∧RelV y w':=by
 cases r with
 | cons r1 r2 =>
  cases r2 with
  | cons r3 r4=>cases r4; exact ⟨_,_,rfl,r1,r3⟩
theorem Zb2:Zd9 X (.builtin "abs") (fun xs H Q=>∃ i,xs = [.int i]∧Q (.int (if i < 0 then -i else i)) H):=by
 intro pins s σ H xs us Q I r h
 obtain ⟨i,rfl,q⟩:=h
 obtain ⟨u,rfl,t,rfl⟩:=vals1 r
 exact call_abs_int fun u tk=>⟨.int (if i < 0 then -i else i),H,I.tok _,⟨_,rfl⟩,q⟩
theorem Zrh (hc:X.calm = true):Zd9 X (.builtin "min") (fun xs H Q=>∃ i j,xs = [.int i,.int j]∧Q (.int (if j < i then j else i)) H):=by
 intro pins s σ H xs us Q I r h
 obtain ⟨i,j,rfl,q⟩:=h
 obtain ⟨u,w',rfl,⟨t,rfl⟩,⟨t',rfl⟩⟩:=vals2 r
 refine min_two_ints (I.ok.hd hc) fun h' tk k=>⟨_,H,I.kept k,?_,q⟩
 by_cases hj:j < i
 ·rw [if_pos hj,if_pos hj]; exact ⟨_,rfl⟩
 ·rw [if_neg hj,if_neg hj]; exact ⟨_,rfl⟩
theorem Zlp:Zd9 X (.type "int") (fun xs H Q=>(∃ i,xs = [.int i]∧Q (.int i) H)∨∃ k,xs = [.bl k]∧Q (.int (if k then 1 else 0)) H):=by
 intro pins s σ H xs us Q I r h
 rcases h with ⟨i,rfl,q⟩ | ⟨k,rfl,q⟩
 ·obtain ⟨u,rfl,t,rfl⟩:=vals1 r
  exact call_int_int ⟨.int i,H,I,⟨_,rfl⟩,q⟩
 ·obtain ⟨u,rfl,r1⟩:=vals1 r
  cases r1
  exact call_int_bool ⟨.int (if k then 1 else 0),H,I.tok _,⟨_,rfl⟩,q⟩
end
end L2
namespace L2
open PySem PySem.Spec PyProof.Rows
structure ObjM (h:Heap) (x dx C:Addr) (mA:Str→Option Value):Prop where
 obj:h.get? x = some (PySem.W.instObj C dx)
 ns:h.Ns1 dx mA
 ne:dx ≠ x
theorem Zq9 {h:Heap} {dx:Addr} {mA:Str→Option Value} (n:h.Ns1 dx mA):∃ od,h.get? dx = some od∧∀ name,PySem.W.lookIn name od = some (mA name):=by
 obtain ⟨o,es,ep,ho,hd,hk,_,hm⟩:=n
 refine ⟨o,ho,fun name=>?_⟩
 have e:=hm name
 unfold nsFind findBy at e
 rw [← Array.find?_toList] at e
 unfold PySem.W.lookIn
 rw [hd]
 dsimp only
 split
 ·rename_i y q
  rw [q] at e
  exact congrArg some e
 ·rename_i q
  rw [q] at e
  have a:es.toList.any (·.refKey) = false:=by
   rw [List.any_eq_false]
   intro y hy
   obtain ⟨z,t,hkey⟩:=hk y (Array.mem_toList_iff.mp hy)
   simp [DictEntry.refKey,hkey]
  have a':¬ es.toList.any (·.refKey) = true:=by rw [a]; exact Bool.false_ne_true
  rw [if_neg a']
  exact congrArg some e
theorem ObjM.look {h:Heap} {x dx C:Addr} {mA:Str→Option Value} (I:ObjM h x dx C mA):∃ od,PySem.W.InstAt h x (PySem.W.instObj C dx) C (some od)∧∀ name,PySem.W.lookIn name od = some (mA name) :=
 let ⟨od,ho,hl⟩:=Zq9 I.ns
 ⟨od,⟨I.obj,rfl,rfl,ho⟩,hl⟩
section
variable {prog:Program} {w:World} {A:Around} {E:Value→Shared→Prop} {s:Shared} {K:PySem.W.Frag} {x dx C f:Addr} {mA:Str→Option Value} {name:Str} {v:Value}
end
section
variable {P:Program} {w:World} {H H':Hp} {h h':Heap} {a C dx:Addr} {fs fs':List (Str × V)}
theorem Zzo (hok:HOk P w H h) (e:H a = some (.ins C dx fs)):∃ mA,ObjM h a dx C mA∧(∀ f,Z5p (fs.lookup f) (mA f))∧PySem.Within mA (fs.map (·.1))∧fs.length ≤ 1000∧H dx = some (.own a):=by
 obtain ⟨d,z,ne,ob,mA,n,r,q⟩:=(show ObjOk P w H h a (.ins C dx fs) from hok a _ e)
 exact ⟨mA,⟨ob,n,ne⟩,r,q,z,d⟩
end
structure Cls (K:PySem.W.Frag) (C:Addr):Prop where
 pg:PySem.W.plainGet K C Str.empty = true
 hd:PySem.W.hasDictIn K C = true
 po:PySem.W.plainOver K C = true
 sa:PySem.W.findIn K (.ref C) "__setattr__" = some (some (.builtin "object.__setattr__"))
theorem Cls.get {K:PySem.W.Frag} {C:Addr} (c:Cls K C) (f:Str):PySem.W.plainGet K C f = true:=c.pg
structure Con (K:PySem.W.Frag) (C:Addr) (f:Str) (v:V) (u:Value):Prop where
 at_:PySem.W.findIn K (.ref C) f = some (some u)
 rel:RelV v u
 get:PySem.W.specialIn K u "__get__" = some none
 cp:PySem.W.copiedNames.contains f = false
structure Meth (K:PySem.W.Frag) (C:Addr) (m:Str) (f:Addr):Prop where
 at_:PySem.W.findIn K (.ref C) m = some (some (.ref f))
 fn:PySem.W.isFn K (.ref f) = true
 kp:PySem.W.keepIn K (.ref f) = true
section
variable {X:Cx} {pins:List (Addr × Obj)} {σ:St} {H:Hp} {s:Shared} {a C dx:Addr} {fs:List (Str × V)} {f:Str} {v:V} {A:Around} {E:Value→Shared→Prop}
end
section
variable {X:Cx} {o e value:Expr} {f:Str} {pos pos' tpos:Pos} {ta tv:TE}
end
section
variable {X:Cx} {pins:List (Addr × Obj)} {σ:St} {H:Hp} {s:Shared} {A:Around} {E:Value→Shared→Prop} {Q:Value→Shared→Prop} {c:Value} {b:Bool}
inductive Zp8 (K:PySem.W.Frag) (H:Hp):V→Value→Prop where
 | non:Zp8 K H .non (.type "NoneType")
 | bl (x:Bool):Zp8 K H (.bl x) (.type "bool")
 | int (i:Int):Zp8 K H (.int i) (.type "int")
 | str (x:Str):Zp8 K H (.str x) (.type "str")
 | flt (x:UInt64):Zp8 K H (.flt x) (.type "float")
 | lst {a:Addr} {xs:List V} (e:H a = some (.lst xs)):Zp8 K H (.ref a) (.type "list")
 | frz {a:Addr} {o:Obj} {xs:List V} (e:H a = some (.frz o (.lst xs))):Zp8 K H (.ref a) (.type "list")
 | tup {a:Addr} {xs:List V} (e:H a = some (.tup xs)):Zp8 K H (.ref a) (.type "tuple")
 | dK {a:Addr} {kvs:List (Key × V)} (e:H a = some (.dK kvs)):Zp8 K H (.ref a) (.type "dict")
 | dT {a:Addr} {kvs:List (List Key × V)} (e:H a = some (.dT kvs)):Zp8 K H (.ref a) (.type "dict")
 | ins {a C dx:Addr} {fs:List (Str × V)} (e:H a = some (.ins C dx fs)) (cl:Cls K C) (ha:PySem.W.findIn K (.ref C) "__class__" = some (some (.builtin "object.__class__")))
   (hn:PySem.W.specialIn K (.builtin "object.__class__") "__get__" = some (some (.builtin "getset_descriptor.__get__"))) (htk:PySem.W.takesIn K (.builtin "object.__class__") = some true)
   (hm:PySem.W.mroIn K C (.type "object") = some true):Zp8 K H (.ref a) (.ref C)
theorem Zco {x:V} {u t:Value} (I:Inv X pins σ H s) (rx:RelV x u) (ty:Zp8 X.K H x t) (e:PySem.W.kitOne X.K t c = some b) (h:∀ tk,Q (.bool b) { s with toks:=tk }) :
  wpAny (model X.prog X.w) A (call (.builtin "isinstance") [u,c]) Q E s:=by
 cases ty with
 | non=>cases (show u = Value.none from rx); exact PySem.W.kia_one PySem.W.kitx_none I.kIn True.intro e (fun z=>nomatch z) h
 | bl y=>cases (show u = Value.bool y from rx); exact PySem.W.kia_one PySem.W.kitx_bool I.kIn True.intro e (fun z=>nomatch z) h
 | int i=>obtain ⟨t,q⟩:=(show ∃ t,u = Value.int i t from rx); cases q; exact PySem.W.kia_one PySem.W.kitx_int I.kIn True.intro e (fun z=>nomatch z) h
 | str y=>obtain ⟨t,q⟩:=(show ∃ t,u = Value.str y t from rx); cases q; exact PySem.W.kia_one PySem.W.kitx_str I.kIn True.intro e (fun z=>nomatch z) h
 | flt y=>obtain ⟨t,q⟩:=(show ∃ t,u = Value.float y t from rx); cases q; exact PySem.W.kia_one PySem.W.kitx_float I.kIn True.intro e (fun z=>nomatch z) h
 | @lst a xs ea =>
  cases (show u = Value.ref a from rx)
  obtain ⟨_,_,n,_,h1⟩:=(show ObjOk X.prog X.w H s.heap a (.lst xs) from I.hok a _ ea)
  exact PySem.W.kia_one PySem.W.kitx_list I.kIn ⟨_,h1,rfl⟩ e (fun z=>nomatch z) h
 | @frz a ob xs ea =>
  cases (show u = Value.ref a from rx)
  obtain ⟨_,_,_,n,_,h1⟩:=(show ObjOk X.prog X.w H s.heap a (.frz ob (.lst xs)) from I.hok a _ ea)
  exact PySem.W.kia_one PySem.W.kitx_list I.kIn ⟨_,h1,rfl⟩ e (fun z=>nomatch z) h
 | @tup a xs ea =>
  cases (show u = Value.ref a from rx)
  obtain ⟨_,_,_,p⟩:=(show ObjOk X.prog X.w H s.heap a (.tup xs) from I.hok a _ ea)
  obtain ⟨o,h1,h2,_⟩:=p
  exact PySem.W.kia_one PySem.W.kitx_tuple I.kIn ⟨o,h1,h2⟩ e (fun z=>nomatch z) h
 | @dK a kvs ea =>
  cases (show u = Value.ref a from rx)
  obtain ⟨_,_,vs,_,p⟩:=(show ObjOk X.prog X.w H s.heap a (.dK kvs) from I.hok a _ ea)
  obtain ⟨o,es,ep,h1,h2,_⟩:=p
  exact PySem.W.kia_one PySem.W.kitx_dict I.kIn ⟨o,h1,h2.1⟩ e (fun z=>nomatch z) h
 | @dT a kvs ea =>
  cases (show u = Value.ref a from rx)
  obtain ⟨_,_,xs,_,o,es,ep,h1,h2,_⟩:=(show ObjOk X.prog X.w H s.heap a (.dT kvs) from I.hok a _ ea)
  exact PySem.W.kia_one PySem.W.kitx_dict I.kIn ⟨o,h1,h2.1⟩ e (fun z=>nomatch z) h
 | @ins a C dx fs ea cl ha hn htk hm =>
  cases (show u = Value.ref a from rx)
  obtain ⟨mA,O,_⟩:=Zzo I.hok ea
  obtain ⟨od,J,_⟩:=O.look
  exact PySem.W.kia_one (PySem.W.kitx_own (cl.get _) cl.hd ha hn htk hm) I.kIn J e (fun z=>nomatch z) h
end
end L2
namespace L2
open PySem PySem.Spec PyProof.Rows
structure Room (k:Nat) (A:Around):Prop where
 hd:A.handled = none
 dp:A.depth + 3 * k + 5 < recursionLimit
 un:A.units + 16 * k + 200 < cLine
theorem Room.mono {j k:Nat} {A:Around} (r:Room k A) (h:j ≤ k):Room j A:=⟨r.hd,by have:=r.dp; omega,by have:=r.un; omega⟩
theorem Room.deeper {k:Nat} {A:Around} (r:Room (k + 1) A) (env:Env):Room k (A.deeper env) :=
 ⟨r.hd,by have:=r.dp; show A.depth + 1 + 3 * k + 5 < _; omega,by have:=r.un; show A.units + 3 + 16 * k + 200 < _; omega⟩
theorem Room.depth {k:Nat} {A:Around} (r:Room k A):A.depth < recursionLimit:=by have:=r.dp; omega
theorem Room.units {k:Nat} {A:Around} (r:Room k A):A.units + 64 < cLine:=by have:=r.un; omega
noncomputable def Z84:TA:=fun _ H Q=>Q [] H
noncomputable def Z2p (ta:TE) (tr:TA):TA:=fun σ H Q=>ta σ H fun x H1=>tr σ H1 fun xs H2=>Q (x :: xs) H2
section
variable {X:Cx} {e:Expr} {es:List Expr} {te:TE} {t:TA} {pos:Pos}
theorem Ziu:PA X [] Z84:=fun _ _ _ _ H Q I h=>Calls.spliced_nil ⟨[],H,I,.nil,h⟩
theorem Zev (ha:PE X e te) (hr:PA X es t) (hs:starEach (e :: es) X.env = (false,eval e X.env) :: starEach es X.env:=by rfl):PA X (e :: es) (Z2p te t):=by
 intro pos pins s σ H Q I h
 rw [hs]
 show wpAny _ _ (spliced ((false,eval e X.env) :: backTo pos (starEach es X.env))) _ _ s
 refine Calls.spliced_cons (thn (ha pins s σ H _ I h) fun u s1 qz9=>?_)
 obtain ⟨x,H1,I1,r1,q1⟩:=qz9
 refine thn (hr pos pins s1 σ H1 _ I1 q1) fun us s2 qz9=>?_
 obtain ⟨xs,H2,I2,r2,q2⟩:=qz9
 exact ⟨x :: xs,H2,I2,.cons r1 r2,q2⟩
noncomputable def Z8p (t:TA):TE:=fun σ H Q=>t σ H fun xs H1=>xs.length ≤ sizeLine∧∀ p,H1 p = none→Q (.ref p) (upd H1 p (.tup xs))
noncomputable def Z82 (t:TA):TE:=fun σ H Q=>t σ H fun xs H1=>xs.length ≤ sizeLine∧∀ p,H1 p = none→Q (.ref p) (upd H1 p (.lst xs))
theorem Zvx {x1} (h:PA X es t):PE X (.Tuple es x1 pos) (Z8p t):=by
 intro pins s σ H Q I hq
 refine wpAny_Tuple_spliced (thn (h pos pins s σ H _ I hq) fun us s1 ⟨xs,H1,I1,r,z,q⟩=>⟨by rw [← r.length]; exact z,?_⟩)
 have hf:H1 s1.heap.objs.size = none:=I1.hok.fresh (Nat.le_refl _)
 refine ⟨.ref s1.heap.objs.size,upd H1 s1.heap.objs.size (.tup xs),I1.laid (t':=s1.toks) (fun b u e=>Heap.get?_push_of_some _ e) (Nat.le_refl _) ?_,rfl,q _ hf⟩
 exact ⟨z,us,r,⟨_,Heap.get?_push_size _ rfl,rfl,_,rfl⟩⟩
theorem Z24 (h:PA X es t):PE X (.List es pos) (Z82 t):=by
 intro pins s σ H Q I hq
 refine wpAny_List_spliced (thn (h pos pins s σ H _ I hq) fun us s1 ⟨xs,H1,I1,r,z,q⟩=>⟨by rw [← r.length]; exact z,?_⟩)
 have hf:H1 s1.heap.objs.size = none:=I1.hok.fresh (Nat.le_refl _)
 refine ⟨.ref s1.heap.objs.size,upd H1 s1.heap.objs.size (.lst xs),I1.laid (t':=s1.toks) (fun b u e=>Heap.get?_push_of_some _ e) (Nat.le_refl _) ?_,rfl,q _ hf⟩
 exact ⟨z,us,0,r,Heap.get?_push_size _ rfl⟩
end
noncomputable abbrev Sp:=List V→Hp→VK→XK→Prop
noncomputable abbrev CXT:=List Env→Hp→Shared→XK→Value→Shared→Prop
structure Z4l (P:Program) (w:World) (K:PySem.W.Frag) (mg:Str→Option Value) (base:Heap) (A:Around) (outer:List Env) (s:Shared) (H:Hp):Prop where
 frames:A.frames = some outer
 mod:Mod K mg base
 bs:∀ b o,base.get? b = some o→s.heap.get? b = some o∧H b = none
 bsz:base.objs.size ≤ s.heap.objs.size
 funs:s.heap.FunFrames base outer
 frf:∀ b ∈ frs outer,H b = none
 hok:HOk P w H s.heap
 bare:AllBare s.gens
noncomputable def CE (outer:List Env) (P:Program) (w:World) (H:Hp) (s:Shared) (Q:VK) (u:Value) (s':Shared):Prop :=
 ∃ v H',s'.os = s.os∧AllBare s'.gens∧Un (frs outer) [] H H' s.heap s'.heap∧HOk P w H' s'.heap∧RelV v u∧Q v H'
noncomputable def CR (CX:CXT) (outer:List Env) (P:Program) (w:World) (H:Hp) (s:Shared) (Q:VK) (E:XK) (r:Result) (s':Shared):Prop :=
 match r with
 | .ok (.ret u)=>CE outer P w H s Q u s'
 | .ok _=>False
 | .error e=>CX outer H s E e s'
structure FnOk (P:Program) (w:World) (K:PySem.W.Frag) (mg:Str→Option Value) (base:Heap) (CX:CXT) (k:Nat) (f:Addr) (fd:FuncData) (ps:List Str) (sp:Sp):Prop where
 len:∀ vs H Q E,sp vs H Q E→vs.length = ps.length
 run:∀ (A:Around) (outer:List Env) (s:Shared) (H:Hp) (args:Args) (us:List Value) (vs:List V) (Q:VK) (E:XK),Room k A→Z4l P w K mg base A outer s H→BindsTo s fd args (ps.zip us)→Vals vs us→sp vs H Q E →
  codeAny (model P w) A (.call (.ref f) args) (CR CX outer P w H s Q E) s
theorem FnOk.imp {P:Program} {w:World} {K:PySem.W.Frag} {mg:Str→Option Value} {base:Heap} {CX:CXT} {k:Nat} {f:Addr} {fd:FuncData} {ps:List Str} {sp sp':Sp} (F:FnOk P w K mg base CX k f fd ps sp)
  (h:∀ vs H Q E,sp' vs H Q E→sp vs H Q E):FnOk P w K mg base CX k f fd ps sp' :=
 ⟨fun vs H Q E q=>F.len vs H Q E (h _ _ _ _ q),fun A outer s H args us vs Q E hr he hb hv hs=>F.run A outer s H args us vs Q E hr he hb hv (h _ _ _ _ hs)⟩
section
variable {X:Cx} {pins:List (Addr × Obj)} {σ:St} {H:Hp} {s s':Shared}
theorem Inv.env0 (I:Inv X pins σ H s):Z4l X.prog X.w X.K X.mg X.base X.A X.stack s H :=
 ⟨I.ok.frames,I.ok.mod,I.bs,Nat.le_trans I.ok.bsz I.sz,I.stack,I.stkFree,I.hok,I.bare⟩
theorem Inv.after {Q:VK} {u:Value} (I:Inv X pins σ H s) (h:CE X.stack X.prog X.w H s Q u s'):EP X pins σ Q u s':=by
 obtain ⟨v,H',os,bare,un,hok,r,q⟩:=h
 obtain ⟨hh,g,d,t,os'⟩:=s'
 obtain rfl:os' = s.os:=os
 exact ⟨v,H',I.call (h':=hh) (g':=g) (d':=d) (t':=t) (ch:=[]) un hok bare (fun b z=>absurd z (by simp)),r,q⟩
end
noncomputable def Zxl (sp:Sp) (dvs:List V) (E:XK) (t:TA):TE:=fun σ H Q=>t σ H fun vs H1=>sp (vs ++ dvs) H1 Q E
noncomputable def Binds (K:PySem.W.Frag) (fd:FuncData) (ps:List Str) (ds:List Value):Prop :=
 ∀ (s:Shared) (us:List Value),K.In s.heap→(us ++ ds).length = ps.length→BindsTo s fd ⟨us,[]⟩ (ps.zip (us ++ ds))
theorem Binds.all {K:PySem.W.Frag} {fd:FuncData} {ps:List Str} (h:∀ us:List Value,us.length = ps.length→bindArgs fd ⟨us,[]⟩ = pure (ps.zip us)):Binds K fd ps []:=fun s us _ hl=>by
 rw [List.append_nil] at hl ⊢
 exact .of_eq (h us hl)
noncomputable def Zl8 (CX:CXT) (X:Cx) (E:XK):Prop:=∀ (pins:List (Addr × Obj)) (σ:St) (H:Hp) (s:Shared) (e:Value) (s':Shared),Inv X pins σ H s→CX X.stack H s E e s'→X.xe e s'
section
variable {X:Cx} {CX:CXT} {k:Nat} {f C:Addr} {fd:FuncData} {ps:List Str} {sp:Sp} {dvs:List V} {ds:List Value} {E:XK} {x m:Str} {p pos apos:Pos} {e o:Expr} {es:List Expr} {ta:TE} {t:TA}
theorem Z2g {pins:List (Addr × Obj)} {σ:St} {H:Hp} {s:Shared} {Q:VK} {us:List Value} {vs:List V} (F:FnOk X.prog X.w X.K X.mg X.base CX k f fd ps sp) (hr:Room k X.A) (hb:Binds X.K fd ps ds) (hd:Vals dvs ds) (hx:Zl8 CX X E)
  (I:Inv X pins σ H s) (r:Vals vs us) (h:sp (vs ++ dvs) H Q E):wpAny (model X.prog X.w) X.A (call (.ref f) us) (EP X pins σ Q) X.xe s:=by
 have r2:Vals (vs ++ dvs) (us ++ ds):=r.append hd
 have hl:(us ++ ds).length = ps.length:=by rw [← r2.length]; exact F.len _ _ _ _ h
 refine wpAny_call (codeAny_mono (F.run X.A X.stack s H ⟨us,[]⟩ (us ++ ds) (vs ++ dvs) Q E hr I.env0 (hb s us I.kIn hl) r2 h) fun r s' hq=>?_)
 cases r with
 | error e=>exact hx pins σ H s e s' I hq
 | ok fl =>
  cases fl with
  | ret u=>exact I.after hq
  | next=>exact False.elim hq
  | brk=>exact False.elim hq
  | cont=>exact False.elim hq
theorem Zrn (F:FnOk X.prog X.w X.K X.mg X.base CX k f fd ps sp) (hr:Room k X.A) (hg:Gl X x) (hm:X.mg x = some (.ref f)) (hk:PySem.W.keepIn X.K (.ref f) = true) (hb:Binds X.K fd ps ds) (hd:Vals dvs ds) (hx:Zl8 CX X E)
  (ha:PA X (e :: es) t) (hdb:(x == ("__debug__" : Str)) = false:=by decide) (he:starEach (e :: es) X.env = (false,eval e X.env) :: starEach es X.env:=by rfl) (hpl:(backTo pos (starEach es X.env)).any (·.1) = false:=by rfl) :
  PE X (.Call (.Name x p) (e :: es) [] pos) (Zxl sp dvs E t):=by
 intro pins s σ H Q I h
 refine wpAny_Call_Name_kw (Zru I hg hm ?_ hdb)
 refine PySem.W.callWith_K (h₀:=X.base) I.ok.mod.kin hk (thn (ha pos pins s σ H _ I h) fun us s1 qz9=>?_) he hpl
 obtain ⟨vs,H1,I1,r,q⟩:=qz9
 refine ⟨I1.kIn,?_⟩
 exact Z2g F hr hb hd hx I1 r q
structure Mk (K:PySem.W.Frag) (C f:Addr):Prop where
 makes:PySem.W.makesIn K C = true
 init:PySem.W.findIn K (.ref C) "__init__" = some (some (.ref f))
 fn:PySem.W.isFn K (.ref f) = true
 kp:PySem.W.keepIn K (.ref C) = true
end
section
variable {X:Cx} {CX:CXT} {k:Nat} {f C:Addr} {fd:FuncData} {ps ks:List Str} {sp:Sp} {E:XK} {x m:Str} {p pos apos kpos:Pos} {e o:Expr} {es:List Expr} {kws:List Keyword} {te ta:TE} {t tk:TA} {nm:Option Str}
structure Z7e (K:PySem.W.Frag) (fd:FuncData) (ps ks:List Str) (g:List Value→List Value→List Value) (gV:List V→List V→List V):Prop where
 to:∀ (s:Shared) (us ws:List Value),K.In s.heap→(g us ws).length = ps.length→BindsTo s fd ⟨us,ks.zip ws⟩ (ps.zip (g us ws))
 rel:∀ {vs:List V} {us:List Value} {zs:List V} {ws:List Value},Vals vs us→Vals zs ws→Vals (gV vs zs) (g us ws)
variable {g:List Value→List Value→List Value} {gV:List V→List V→List V}
end
structure Z3 (N P:List Str) (sc:Scope):Prop where
 kind:sc.kind = .function
 co:sc.isCoroutine = false
 gen:sc.isGenerator = false
 nd:N.Nodup
 pre:N.take P.length = P
 par:∀ x ∈ P,sc.names.lookup x = some .local∨sc.names.lookup x = some .cell
 nofree:∀ y ∈ sc.names,y.2 ≠ .free
theorem Zlz {kindOf:Str→Option NameKind} {x:Str}:∀ {binds:List (Str × Value)} {m:Str→Option Value},(∀ v,(x,v) ∉ binds)→bindL kindOf binds m x = m x
 | [],_,_=>rfl
 | (n,v) :: r,m,h=>by
  unfold bindL
  rw [Zlz fun w hw=>h w (List.mem_cons_of_mem _ hw)]
  split
  ·have:x ≠ n:=by rintro rfl; exact h v List.mem_cons_self
   simp [this]
  ·rfl
theorem Zkk {kindOf:Str→Option NameKind} {x:Str}:∀ {binds:List (Str × Value)} {m:Str→Option Value},(∀ v,(x,v) ∉ binds)→bindC kindOf binds m x = m x
 | [],_,_=>rfl
 | (n,v) :: r,m,h=>by
  unfold bindC
  rw [Zkk fun w hw=>h w (List.mem_cons_of_mem _ hw)]
  split
  ·rfl
  ·have:x ≠ n:=by rintro rfl; exact h v List.mem_cons_self
   simp [this]
theorem Zkm {kindOf:Str→Option NameKind} {x:Str} {v:Value}:∀ {P:List Str} {vs:List Value} {i:Nat} {m:Str→Option Value},P.Nodup→P[i]? = some x→vs[i]? = some v→kindOf x = some .local →
  bindL kindOf (P.zip vs) m x = some v
 | [],_,_,_,_,h,_,_=>by simp at h
 | _ :: _,[],_,_,_,_,h,_=>by simp at h
 | p :: P,w :: vs,0,m,nd,h1,h2,hk=>by
  simp at h1 h2; subst h1; subst h2
  show bindL kindOf ((p,w) :: P.zip vs) m p = _
  unfold bindL
  rw [Zlz fun v hv=>(List.nodup_cons.mp nd).1 (List.of_mem_zip hv).1,if_pos hk]
  simp
 | p :: P,w :: vs,i + 1,m,nd,h1,h2,hk=>by
  show bindL kindOf ((p,w) :: P.zip vs) m x = _
  unfold bindL
  exact Zkm (i:=i) (List.nodup_cons.mp nd).2 (by simpa using h1) (by simpa using h2) hk
theorem Zk1 {kindOf:Str→Option NameKind} {x:Str} {v:Value}:∀ {P:List Str} {vs:List Value} {i:Nat} {m:Str→Option Value},P.Nodup→P[i]? = some x→vs[i]? = some v→kindOf x ≠ some .local →
  bindC kindOf (P.zip vs) m x = some v
 | [],_,_,_,_,h,_,_=>by simp at h
 | _ :: _,[],_,_,_,_,h,_=>by simp at h
 | p :: P,w :: vs,0,m,nd,h1,h2,hk=>by
  simp at h1 h2; subst h1; subst h2
  show bindC kindOf ((p,w) :: P.zip vs) m p = _
  unfold bindC
  rw [Zkk fun v hv=>(List.nodup_cons.mp nd).1 (List.of_mem_zip hv).1,if_neg hk]
  simp
 | p :: P,w :: vs,i + 1,m,nd,h1,h2,hk=>by
  show bindC kindOf ((p,w) :: P.zip vs) m x = _
  unfold bindC
  exact Zk1 (i:=i) (List.nodup_cons.mp nd).2 (by simpa using h1) (by simpa using h2) hk
noncomputable def start (N:List Str) (vs:List V):St:=vs.map some ++ List.replicate (N.length - vs.length) none
noncomputable def Zp7 (CX:CXT) (P:Program) (w:World) (K:PySem.W.Frag) (mg:Str→Option Value) (base:Heap) (N:List Str) (qual:Str) (scope:Scope) (f:Addr) (cd:Value) (A:Around) (outer:List Env) (s:Shared) (H:Hp) (E:XK):Cx where
 prog:=P
 w:=w
 K:=K
 mg:=mg
 base:=base
 A:=A.deeper (envOfC qual scope s.heap.objs.size f cd)
 N:=N
 s₀:=s
 H₀:=H
 env:=envOfC qual scope s.heap.objs.size f cd
 outer:=outer
 stack:=envOfC qual scope s.heap.objs.size f cd :: outer
 ex:=[]
 calm:=true
 fn:=fun _=>true
 pn:=[]
 xe:=fun e s'=>wpAny (model P w) (A.deeper (envOfC qual scope s.heap.objs.size f cd)) (leaving (envOfC qual scope s.heap.objs.size f cd) e) (fun _ s''=>CX outer H s E e s'') (fun e' s''=>CX outer H s E e' s'') s'
theorem Znk {sc:Scope} {n:Nat} {x:Str} (h:sc.names.lookup x = some .cell):∃ c,(cellsFrom n sc.names []).lookup x = some c:=by
 have q:=PySem.W.cellsFrom_some sc.names n [] (.inl h)
 exact Option.isSome_iff_exists.mp q
theorem Zs0 {CX:CXT} {P:Program} {w:World} {K:PySem.W.Frag} {mg:Str→Option Value} {base:Heap} {N ps:List Str} {qual:Str} {scope:Scope} {f:Addr} {cd:Value} {A:Around} {outer:List Env} {s s1:Shared} {H:Hp} {E:XK} {us:List Value} {vs:List V}
  (S:Z3 N ps scope) (hd:A.handled = none) (e0:Z4l P w K mg base A outer s H) (hl:vs.length = ps.length) (r:Vals vs us)
  (x:InCallC s s.heap.objs.size (bindL (envOfC qual scope s.heap.objs.size f cd).kindOf (ps.zip us) fun _=>none) (cellsFrom (s.heap.objs.size + 1) scope.names []) (bindC (envOfC qual scope s.heap.objs.size f cd).kindOf (ps.zip us) fun _=>none) s1) :
  Inv (Zp7 CX P w K mg base N qual scope f cd A outer s H E) [] (start N vs) H s1:=by
 have hpl:ps.length ≤ N.length:=by have:=congrArg List.length S.pre; rw [List.length_take] at this; omega
 obtain ⟨h1,tk,rfl,hk⟩:=x.done
 have noA:∀ b:Addr,b ∉ (Zp7 CX P w K mg base N qual scope f cd A outer s H E).ex:=fun b z=>absurd (show b ∈ ([]:List Addr) from z) (by simp)
 refine ⟨⟨e0.mod,S.kind,rfl,rfl,Nat.le_refl _,fun y z c h1 h2=>?_,fun y hy=>?_,fun y c _ h=>?_,fun _=>hd,Around.frames_deeper e0.frames,.inr ⟨rfl,rfl⟩,fun b z=>absurd z (noA b),e0.bs,e0.bsz,fun b _ _=>noA b,fun b z=>absurd z (noA b),e0.funs,e0.frf⟩,
  rfl,e0.bare,Un.kept hk,⟨_,x.toInCall.ns,fun i y v h1 h2 h3=>?_⟩,fun y c h=>⟨_,x.cell y c h⟩,e0.hok.fresh (Nat.le_refl _),fun y c h=>?_,fun p hp=>absurd (show p ∈ ([]:List (Addr × Obj)) from hp) (by simp),e0.hok.kept hk,?_⟩
 ·exact name_of_addr x.apart (PySem.mem_of_lookup h1) (PySem.mem_of_lookup h2)
 ·have hy:scope.names.lookup y = some .cell∨scope.names.lookup y = some .free:=hy
  rcases hy with hy | hy
  ·exact Znk hy
  ·exact absurd rfl (S.nofree _ (PySem.mem_of_lookup hy))
 ·exact Nat.le_of_lt (x.above y c (PySem.mem_of_lookup h))
 ·have hi:i < vs.length:=by
   unfold start at h2
   by_cases hi:i < vs.length
   ·exact hi
   ·rw [List.getElem?_append_right (by simpa using hi)] at h2
    rw [List.getElem?_replicate] at h2
    split at h2 <;> cases h2
  have ha:vs[i]? = some v:=by
   unfold start at h2
   rw [List.getElem?_append_left (by simpa using hi),List.getElem?_map] at h2
   cases e:vs[i]? with
   | none=>rw [e] at h2; cases h2
   | some a=>rw [e] at h2; cases h2; rfl
  obtain ⟨u,hu,rv⟩:=r.get ha
  have hp:ps[i]? = some y:=by
   rw [← S.pre,List.getElem?_take_of_lt (by omega)]; exact h1
  have ndP:ps.Nodup:=by rw [← S.pre]; exact S.nd.sublist (List.take_sublist _ _)
  refine ⟨u,rv,?_⟩
  rcases S.par y (List.mem_of_getElem? hp) with k | k
  ·exact .inl ⟨k,Zkm ndP hp hu k⟩
  ·obtain ⟨c,e⟩:=Znk (n:=s.heap.objs.size + 1) k
   refine .inr ⟨.inl k,c,e,?_⟩
   have q:=x.cell y c e
   rw [Zk1 ndP hp hu (by show scope.names.lookup y ≠ _; rw [k]; decide)] at q
   exact q
 ·exact e0.hok.fresh (Nat.le_of_lt (x.above y c (PySem.mem_of_lookup h)))
 ·unfold start
  show _ = N.length
  rw [List.length_append,List.length_map,List.length_replicate]
  omega
theorem Z23 {CX:CXT} {P:Program} {w:World} {K:PySem.W.Frag} {mg:Str→Option Value} {base:Heap} {k:Nat} {f:Addr} {name qual:Str} {params:Arguments} {body:List Stmt} {scope:Scope} {dV kV doc pm cdv ct oc:Value} {an od:Option Addr}
  {osl:Array (Option Value)} {N ps:List Str} {sp:Sp} (lk:K.lookup f = some ⟨oc,od,.func (PySem.W.fnOf name qual params body scope dV kV doc pm an cdv ct),osl⟩) (hcd:PySem.W.codeIn K cdv qual = true) (S:Z3 N ps scope)
  (len:∀ vs H Q E,sp vs H Q E→vs.length = ps.length)
  (hbody:∀ (A:Around) (outer:List Env) (s:Shared) (H:Hp) (vs:List V) (Q:VK) (E:XK),Room k (A.deeper (envOfC qual scope s.heap.objs.size f cdv))→sp vs H Q E →
   ∃ t,PSs (Zp7 CX P w K mg base N qual scope f cdv A outer s H E) body t∧t { nx:=fun _ H'=>Q .non H',rt:=Q } (start N vs) H) :
  FnOk P w K mg base CX (k + 1) f (PySem.W.fnOf name qual params body scope dV kV doc pm an cdv ct) ps sp:=by
 refine ⟨len,fun A outer s H args us vs Q E hr e0 hb r hsp=>?_⟩
 have hl:=len _ _ _ _ hsp
 have KX:K.In s.heap:=e0.mod.kin.keeps fun b o e=>(e0.bs b o e).1
 have lim:s.heap.NoLimit:=e0.mod.nolimit.keeps fun b o e=>(e0.bs b o e).1
 have hkind:∀ y ∈ ps.zip us,scope.names.lookup y.1 = some .local∨(scope.names.lookup y.1 = some .cell∧((cellsFrom (s.heap.objs.size + 1) scope.names []).lookup y.1).isSome = true):=fun ⟨n,v⟩ hy=>by
  rcases S.par n (List.of_mem_zip hy).1 with q | q
  ·exact .inl q
  ·exact .inr ⟨q,PySem.W.cellsFrom_some _ _ _ (.inl q)⟩
 refine codeAny_call_function hr.depth (KX _ _ lk) rfl S.co S.gen rfl (PySem.W.codeRec_of KX hcd) (hb _ _ _ _ ?_)
 refine wpAny_newFunctionEnv_cells S.kind hkind fun env he s1 x=>?_
 subst he
 refine ⟨lim.keeps x.toInCall.keep,codeAny_func ?_⟩
 obtain ⟨t,ht,hq⟩:=hbody A outer s H vs Q E (hr.deeper _) hsp
 have I:Inv (Zp7 CX P w K mg base N qual scope f cdv A outer s H E) [] (start N vs) H s1:=Zs0 S hr.hd e0 hl r x
 refine wpAny_mono (ht [] s1 (start N vs) H _ I hq) (fun fl s' hs=>?_) fun e s' hs=>hs
 have fin:∀ {σ':St} {H':Hp} {v:V} {u:Value},Inv (Zp7 CX P w K mg base N qual scope f cdv A outer s H E) [] σ' H' s'→RelV v u→Q v H'→CE outer P w H s Q u s' :=
  fun {σ' H' v u} J rv q=>⟨v,H',J.os,J.bare,J.base,J.hok,rv,q⟩
 cases fl with
 | ret u =>
  obtain ⟨v,σ',H',J,rv,q⟩:=hs
  exact fin J rv q
 | next =>
  obtain ⟨σ',H',J,q⟩:=hs
  exact fin (v:=V.non) (u:=Value.none) J rfl q
 | brk =>
  obtain ⟨_,_,_,q⟩:=hs
  exact False.elim q
 | cont =>
  obtain ⟨_,_,_,q⟩:=hs
  exact False.elim q
end L2
namespace L2
open PySem PySem.Spec PyProof.Rows
section
variable {X:Cx} {x:Str} {p pos:Pos} {e:Expr} {es:List Expr} {t:TA} {id T:String} {r:List V→Hp→VK→Prop}
noncomputable def tCB (r:List V→Hp→VK→Prop) (t:TA):TE:=fun σ H Q=>t σ H fun vs H1=>r vs H1 Q
theorem Zg7 (hc:Zd9 X (.builtin id) r) (hg:Gl X x) (hm:X.mg x = none) (hv:bootBuiltins x = some (.builtin id)) (ha:PA X (e :: es) t) (hn:x ≠ "__name__" := by decide) (hdb:(x == ("__debug__" : Str)) = false:=by decide)
  (he:starEach (e :: es) X.env = (false,eval e X.env) :: starEach es X.env:=by rfl) (hpl:(backTo pos (starEach es X.env)).any (·.1) = false:=by rfl):PE X (.Call (.Name x p) (e :: es) [] pos) (tCB r t):=by
 intro pins s σ H Q I h
 refine wpAny_Call_Name_kw (Ziy I hg hm hv ?_ hn hdb)
 refine PyProof.Rows.callWith_builtin1 (thn (ha pos pins s σ H _ I h) fun us s1 qz9=>?_) he hpl
 obtain ⟨vs,H1,I1,r1,q1⟩:=qz9
 exact hc pins s1 σ H1 vs us Q I1 r1 q1
theorem Ze3 (hc:Zd9 X (.type T) r) (hg:Gl X x) (hm:X.mg x = none) (hv:bootBuiltins x = some (.type T)) (ha:PA X (e :: es) t) (hn:x ≠ "__name__" := by decide) (hdb:(x == ("__debug__" : Str)) = false:=by decide)
  (he:starEach (e :: es) X.env = (false,eval e X.env) :: starEach es X.env:=by rfl) (hpl:(backTo pos (starEach es X.env)).any (·.1) = false:=by rfl):PE X (.Call (.Name x p) (e :: es) [] pos) (tCB r t):=by
 intro pins s σ H Q I h
 refine wpAny_Call_Name_kw (Ziy I hg hm hv ?_ hn hdb)
 refine PyProof.Rows.callWith_type1 (thn (ha pos pins s σ H _ I h) fun us s1 qz9=>?_) he hpl
 obtain ⟨vs,H1,I1,r1,q1⟩:=qz9
 exact hc pins s1 σ H1 vs us Q I1 r1 q1
end
end L2
namespace HT
open PySem PyProof.Rows
section
open PySem.SeqAt
open PySem.AutoSeq1 (wpAny_loadPart')
open PySem.MeetsSeq PySem.MeetsSeq2 PySem.MeetsSeq3
end
section
variable {prog:Program} {w:World} {A:Around} {E:Value→Shared→Prop} {s:Shared}
theorem cat_tup {t b:Addr} {vs ws:List Value} {Q:Value→Shared→Prop} (ht:IsTup s.heap t vs.toArray) (hb:IsTup s.heap b ws.toArray) (hv:vs ≠ [])
  (h1:ws = []→Q (.ref t) s) (h2:ws ≠ []→Q (.ref s.heap.objs.size) { s with heap:=s.heap.push { cls:=.type "tuple", data:=.seq (vs ++ ws).toArray } })
  (hsz:vs.length + ws.length ≤ sizeLine):wpAny (model prog w) A (binaryOp .Add (.ref t) (.ref b)) Q E s:=by
 obtain ⟨⟨cls,dd,data,sl⟩,ho,hc,n,hd⟩:=id ht
 obtain ⟨⟨cls2,dd2,data2,sl2⟩,ho2,hc2,n2,hd2⟩:=id hb
 simp only at hc hd hc2 hd2
 subst hc hd hc2 hd2
 have e:vs.toArray ++ ws.toArray = (vs ++ ws).toArray:=by simp
 by_cases hw:ws = []
 ·exact concat_meets ⟨_,ho,rfl⟩ ⟨_,ho2,rfl⟩ noFill_tuple_add seq_tuple_add PySem.F.slot_tuple_add PySem.F.entry_tuple_add (PySem.F.args_tuple_add_2 _ _)
   (tuple_addW1 t b vs.toArray ws.toArray n n2 dd dd2 sl sl2 (by simpa using hv) (by simp [hw])) ⟨ho,ho2,h1 hw⟩
 ·refine concat_meets ⟨_,ho,rfl⟩ ⟨_,ho2,rfl⟩ noFill_tuple_add seq_tuple_add PySem.F.slot_tuple_add PySem.F.entry_tuple_add (PySem.F.args_tuple_add_2 _ _)
   (tuple_addW2 t b vs.toArray ws.toArray n n2 dd dd2 sl sl2 (by simpa using hv) (by simpa using hw) (by rw [List.size_toArray,List.size_toArray]; exact hsz)) ⟨ho,ho2,?_⟩
  rw [e]
  exact h2 hw
noncomputable def sIx (n d:Nat):Option Int→Nat
 | none=>d
 | some v=>if v < 0 then (v + (n:Int)).toNat else min v.toNat n
end
end HT
namespace L2
open PySem PySem.Spec PyProof.Rows
noncomputable abbrev TO:=St→Hp→(Option Int→Hp→Prop)→Prop
noncomputable def PO (X:Cx) (e:Option Expr) (t:TO):Prop :=
 ∀ (pins:List (Addr × Obj)) (s:Shared) (σ:St) (H:Hp) (Q:Option Int→Hp→Prop),Inv X pins σ H s→t σ H Q →
  wpAny (model X.prog X.w) X.A (evalPart e X.env) (fun u s'=>∃ o H',Inv X pins σ H' s'∧IsPart u o∧Q o H') X.xe s
noncomputable def Zza:TO:=fun _ H Q=>Q none H
noncomputable def Z5u (t:TE):TO:=fun σ H Q=>t σ H fun x H1=>∃ i,x = .int i∧Q (some i) H1
section
variable {X:Cx} {e:Expr} {te:TE} {lo hi:Option Expr} {tl th:TO} {pos p2:Pos}
theorem Zz5:PO X none Zza:=by
 intro pins s σ H Q I h
 rw [evalPart_none]
 exact wpAny_pure ⟨none,H,I,.none,h⟩
theorem Zzh (h:PE X e te):PO X (some e) (Z5u te):=by
 intro pins s σ H Q I hw
 rw [evalPart_some]
 refine thn (h pins s σ H _ I hw) fun u s1 qz9=>?_
 obtain ⟨x,H1,I1,r1,q1⟩:=qz9
 obtain ⟨i,rfl,q⟩:=q1
 obtain ⟨t,rfl⟩:=r1
 exact ⟨some i,H1,I1,.int i t,q⟩
noncomputable def SlR (X:Cx) (r:V→Option Int→Option Int→Hp→VK→Prop):Prop :=
 ∀ (pins:List (Addr × Obj)) (s:Shared) (σ:St) (H:Hp) (x:V) (v vl vu:Value) (lo hi:Option Int) (sl:Addr) (Q:VK),Inv X pins σ H s→RelV x v→s.heap.IsSliceOf sl vl vu .none→IsPart vl lo→IsPart vu hi→r x lo hi H Q →
  ∃ T id,typeLookup (.type T) "__getitem__" = pure (some (.builtin id))∧s.TypeIs v T∧wpAny (model X.prog X.w) X.A (getItem v (.ref sl)) (EP X pins σ Q) X.xe s
noncomputable def tSl (r:V→Option Int→Option Int→Hp→VK→Prop) (te:TE) (tl th:TO):TE:=fun σ H Q=>te σ H fun x H1=>tl σ H1 fun l H2=>th σ H2 fun u H3=>r x l u H3 Q
theorem Zu8 {r:V→Option Int→Option Int→Hp→VK→Prop} (hr:SlR X r) (he:PE X e te) (hl:PO X lo tl) (hu:PO X hi th):PE X (.Subscript e (.Slice lo hi none p2) pos) (tSl r te tl th):=by
 intro pins s σ H Q I h
 refine Subscript_ (thn (he pins s σ H _ I h) fun v s1 qz9=>?_)
 obtain ⟨x,H1,I1,r1,q1⟩:=qz9
 refine wpAny_Slice (thn (hl pins s1 σ H1 _ I1 q1) fun vl s2 qz9=>?_)
 obtain ⟨l,H2,I2,pl,q2⟩:=qz9
 refine thn (hu pins s2 σ H2 _ I2 q2) fun vu s3 qz9=>?_
 obtain ⟨u,H3,I3,pu,q3⟩:=qz9
 rw [evalPart_none]
 refine wpAny_pure ?_
 have I4:Inv X pins σ H3 { s3 with heap:=s3.heap.push { cls:=.type "slice", data:=.fields #[vl,vu,.none] } }:=I3.kept (t':=s3.toks) fun b ob q=>Heap.get?_push_of_some _ q
 obtain ⟨T,id,hT,ht,hg⟩:=hr pins { s3 with heap:=s3.heap.push { cls:=.type "slice", data:=.fields #[vl,vu,.none] } } σ H3 x v vl vu l u s3.heap.objs.size Q I4 r1 (Heap.IsSliceOf.new ..) pl pu q3
 show wpAny (model X.prog X.w) X.A (subscriptTail e (.Slice lo hi none p2) v (.ref s3.heap.objs.size)) (EP X pins σ Q) X.xe { s3 with heap:=s3.heap.push { cls:=.type "slice", data:=.fields #[vl,vu,.none] } }
 exact tail_any (ops:=[.ref s3.heap.objs.size,v]) ht hT hg (by with_unfolding_all rfl)
noncomputable def Z0a (xs:List V) (lo hi:Option Int):List V:=(xs.drop (HT.sIx xs.length 0 lo)).take (HT.sIx xs.length xs.length hi - HT.sIx xs.length 0 lo)
theorem Zml (xs:List V) (lo hi:Option Int):(Z0a xs lo hi).length ≤ xs.length:=by
 unfold Z0a
 rw [List.length_take,List.length_drop]
 omega
noncomputable def Z0u (K:PySem.W.Frag):R2:=fun x y H Q=>∃ a b xs ys,x = .ref a∧y = .ref b∧SqT K H a xs∧SqT K H b ys∧xs ≠ []∧xs.length + ys.length ≤ sizeLine ∧
 (ys = []→Q (.ref a) H)∧(ys ≠ []→∀ p,H p = none→Q (.ref p) (upd H p (.tup (xs ++ ys))))
theorem Vals.nil_iff {xs:List V} {us:List Value} (r:Vals xs us):us = [] ↔ xs = []:=by
 cases r with
 | nil=>simp
 | cons _ _=>simp
theorem Zyx:OpR X (binaryOp .Add) (Z0u X.K):=by
 intro pins s σ H x y v u Q I rx ry h
 obtain ⟨a,b,xs,ys,rfl,rfl,ha,hb,hx,hz,q1,q2⟩:=h
 cases rx
 cases ry
 obtain ⟨its,r1,p1,_⟩:=I.tuple ha
 obtain ⟨its2,r2,p2,_⟩:=I.tuple hb
 refine HT.cat_tup p1 p2 (fun z=>hx (r1.nil_iff.mp z)) (fun z=>⟨.ref a,H,I,rfl,q1 (r2.nil_iff.mp z)⟩) (fun z=>?_) (by rw [← r1.length,← r2.length]; exact hz)
 refine ⟨.ref s.heap.objs.size,_,I.laid (t':=s.toks) (o:=.tup (xs ++ ys)) (fun b ob q=>Heap.get?_push_of_some _ q) (Nat.le_refl _) ?_,rfl,q2 (fun w=>z (r2.nil_iff.mpr w)) _ (I.hok.fresh (Nat.le_refl _))⟩
 exact ⟨by rw [List.length_append]; exact hz,_,r1.append r2,IsTup.new _ _⟩
end
end L2
namespace L2
open PySem PySem.Spec PyProof.Rows
noncomputable def ixN (n:Nat) (i:Int):Option Nat:=if 0 ≤ i then (if i < n then some i.toNat else none) else if -(n:Int) ≤ i then some (i + n).toNat else none
noncomputable def atI {α:Type} (xs:List α) (i:Int):Option α:=(ixN xs.length i).bind fun j=>xs[j]?
theorem Zqg {n:Nat} {i:Int} {j:Nat} (h:ixN n i = some j):seqIndex? i n = some j∧j < n∧-(n:Int) ≤ i∧i < n:=by
 unfold ixN at h
 by_cases h0:0 ≤ i
 ·rw [if_pos h0] at h
  by_cases h1:i < n
  ·rw [if_pos h1] at h
   have e:i.toNat = j:=Option.some.inj h
   exact ⟨by rw [seqIndex_of h0 h1,e],by omega,by omega,h1⟩
  ·rw [if_neg h1] at h; cases h
 ·rw [if_neg h0] at h
  by_cases h1:-(n:Int) ≤ i
  ·rw [if_pos h1] at h
   have e:(i + n).toNat = j:=Option.some.inj h
   exact ⟨by rw [seqIndex_neg (by omega) h1,e],by omega,h1,by omega⟩
  ·rw [if_neg h1] at h; cases h
theorem Znb {α:Type} {xs:List α} {i:Int} {v:α} (h:atI xs i = some v):∃ j,seqIndex? i xs.length = some j∧xs[j]? = some v∧j < xs.length∧-(xs.length:Int) ≤ i∧i < xs.length:=by
 unfold atI at h
 cases e:ixN xs.length i with
 | none=>rw [e] at h; cases h
 | some j =>
  rw [e] at h
  obtain ⟨h1,h2,h3,h4⟩:=Zqg e
  exact ⟨j,h1,h,h2,h3,h4⟩
noncomputable def Zms (b:Expr):Prop:=∀ o i,subscripted b false o i = operate [o,i] (getItem o i)
noncomputable def IxR (X:Cx) (r:R2):Prop :=
 ∀ (value slice:Expr) (pins:List (Addr × Obj)) (s:Shared) (σ:St) (H:Hp) (x y:V) (v u:Value) (Q:VK),Inv X pins σ H s→RelV x v→RelV y u→r x y H Q →
  subscripted slice false v u = operate [v,u] (getItem v u)→wpAny (model X.prog X.w) X.A (subscriptTail value slice v u) (EP X pins σ Q) X.xe s
noncomputable def MtR (X:Cx) (id:String) (r:V→List V→Hp→VK→Prop):Prop :=
 ∀ (pins:List (Addr × Obj)) (s:Shared) (σ:St) (H:Hp) (x:V) (xs:List V) (v:Value) (us:List Value) (Q:VK),Inv X pins σ H s→RelV x v→Vals xs us→r x xs H Q →
  wpAny (model X.prog X.w) X.A (call (.builtin id) (v :: us)) (EP X pins σ Q) X.xe s
section
variable {X:Cx} {a b:Expr} {ta tb:TE} {pos:Pos}
theorem IxR.or {r r':R2} (h:IxR X r) (h':IxR X r'):IxR X (fun x y H Q=>r x y H Q∨r' x y H Q):=by
 intro value slice pins s σ H x y v u Q I rx ry q hs
 rcases q with q | q
 ·exact h value slice pins s σ H x y v u Q I rx ry q hs
 ·exact h' value slice pins s σ H x y v u Q I rx ry q hs
theorem Z3n {r:R2} (hr:IxR X r) (ha:PE X a ta) (hb:PE X b tb) (hs:Zms b):PE X (.Subscript a b pos) (tOp r ta tb):=by
 intro pins s σ H Q I h
 exact Subscript_ (Z59 ha hb I h fun v u s2 x y H2 I2 rx ry q=>hr a b pins s2 σ H2 x y v u Q I2 rx ry q (hs _ _))
noncomputable def Z49 (K:PySem.W.Frag):R2:=fun x y H Q=>∃ p xs i v,x = .ref p∧y = .int i∧SqL K H p xs∧atI xs i = some v∧Q v H
noncomputable def Z76 (K:PySem.W.Frag):R2:=fun x y H Q=>∃ p xs i v,x = .ref p∧y = .int i∧SqT K H p xs∧atI xs i = some v∧Q v H
noncomputable def Z79:R2:=fun x y H Q=>∃ z i c,x = .str z∧y = .int i∧z.length ≤ sizeLine∧atI z.cps.toList i = some c∧Q (.str ⟨#[c]⟩) H
theorem Zsy:IxR X (Z49 X.K):=by
 intro value slice pins s σ H x y v u Q I rx ry h hs
 obtain ⟨p,xs,i,z,rfl,rfl,hq,he,q⟩:=h
 cases rx
 obtain ⟨t,rfl⟩:=ry
 obtain ⟨its,r,pl,hz⟩:=I.list hq
 obtain ⟨j,h1,h2,h3,h4,h5⟩:=Znb he
 obtain ⟨w,ew,rw'⟩:=r.get h2
 have hl:=r.length
 have hn:=Zi4
 have fin:EP X pins σ Q w s:=⟨z,H,I,rw',q⟩
 by_cases h0:0 ≤ i
 ·have hj:i.toNat = j:=by
   rw [seqIndex_of h0 h5] at h1
   exact Option.some.inj h1
  exact item_listR pl.isList h0 (by omega) (by rw [hj]; simpa using ew) fin hs
 ·have hj:(i + (its.toArray.size:Int)).toNat = j:=by
   rw [seqIndex_neg (by omega) h4] at h1
   rw [List.size_toArray,← hl]
   exact Option.some.inj h1
  exact subscriptTail_builtinR (x:=w) pl.isList.typeIs slot_list_getitem.lookup
   (wpAny_getItem_list_neg (Q:=fun r s'=>r = w∧EP X pins σ Q r s') pl.isList (by omega) (by rw [List.size_toArray] <;> omega) (by omega) (by rw [hj]; simpa using ew) ⟨rfl,fin⟩) hs
theorem Z36:IxR X (Z76 X.K):=by
 intro value slice pins s σ H x y v u Q I rx ry h hs
 obtain ⟨p,xs,i,z,rfl,rfl,hq,he,q⟩:=h
 cases rx
 obtain ⟨t,rfl⟩:=ry
 obtain ⟨its,r,pl,hz⟩:=I.tuple hq
 obtain ⟨j,h1,h2,h3,h4,h5⟩:=Znb he
 obtain ⟨w,ew,rw'⟩:=r.get h2
 have hl:=r.length
 have hn:=Zi4
 have fin:EP X pins σ Q w s:=⟨z,H,I,rw',q⟩
 exact subscriptTail_builtinR (x:=w) pl.typeIs slot_tuple_getitem.lookup
  (getItem_tuple (j:=j) (Q:=fun r s'=>r = w∧EP X pins σ Q r s') pl (by omega) (by omega) (by rw [List.size_toArray,← hl]; exact h1) (by simpa using ew) ⟨rfl,fin⟩) hs
theorem Z1f:IxR X Z79:=by
 intro value slice pins s σ H x y v u Q I rx ry h hs
 obtain ⟨z,i,c,rfl,rfl,hz,he,q⟩:=h
 obtain ⟨t,rfl⟩:=rx
 obtain ⟨t',rfl⟩:=ry
 obtain ⟨j,h1,h2,h3,h4,h5⟩:=Znb he
 have hl:z.cps.toList.length = z.length:=by simp [Str.length]
 rw [hl] at h1 h4 h5
 have hn:=Zi4
 exact tail_any (typeIs_str s z t) slot_str_getitem.lookup (getItem_str (c:=c) (by
  have e1:decide (i < -(2 ^ 63:Int)) = false:=decide_eq_false (by omega)
  have e2:decide (i ≥ 2 ^ 63) = false:=decide_eq_false (by omega)
  rw [e1,e2,Bool.or_false]) (by rw [h1]; simpa using h2) ⟨.str ⟨#[c]⟩,H,I.tok _,⟨_,rfl⟩,q⟩) hs
noncomputable def rIx (K:PySem.W.Frag):R2:=fun x y H Q=>Z49 K x y H Q∨Z76 K x y H Q∨Z79 x y H Q
theorem Z1y:IxR X (rIx X.K):=Zsy.or (Z36.or Z1f)
theorem Zo8 (its:List Value) (n j:Nat) (u:Value):Obj.mapSeq (·.setIfInBounds j u) { cls:=.type "list", data:=.seq its.toArray n } = { cls:=.type "list", data:=.seq (its.set j u).toArray n }:=by
 simp [Obj.mapSeq]
theorem Inv.lst {pins:List (Addr × Obj)} {σ:St} {H:Hp} {s:Shared} {p:Addr} {xs:List V} (I:Inv X pins σ H s) (h:H p = some (.lst xs)) :
  ∃ (its:List Value) (n:Nat),Vals xs its∧s.heap.get? p = some { cls:=.type "list", data:=.seq its.toArray n }∧xs.length ≤ sizeLine:=by
 obtain ⟨z,its,n,r,e⟩:=I.hok p _ h
 exact ⟨its,n,r,e,z⟩
theorem Inv.lstUpd {pins:List (Addr × Obj)} {σ:St} {H:Hp} {s:Shared} {p:Addr} {xs ys:List V} {its its':List Value} {n n':Nat} {f:Obj→Obj} (I:Inv X pins σ H s) (h:H p = some (.lst xs))
  (ho:s.heap.get? p = some { cls:=.type "list", data:=.seq its.toArray n }) (hf:f { cls:=.type "list", data:=.seq its.toArray n } = { cls:=.type "list", data:=.seq its'.toArray n' }) (r:Vals ys its') (hz:ys.length ≤ sizeLine) (t:Nat) :
  Inv X pins σ (upd H p (.lst ys)) { s with heap:=s.heap.update p f,toks:=t }:=by
 have e:(s.heap.update p f).get? p = some { cls:=.type "list", data:=.seq its'.toArray n' }:=by
  rw [Heap.get?_update_self f ho (by rw [hf] <;> rfl),hf]
 refine I.write (x:=p) (e:=p) (by rw [h]; trivial) (.inl rfl) (fun b u hb q=>(Heap.get?_update_other _ _ (Ne.symm hb)).trans q) ⟨_,e⟩ ?_
 exact ⟨hz,its',n',r,e⟩
noncomputable def Zzn:V→V→V→Hp→(Hp→Prop)→Prop:=fun o i v H Q=>∃ p xs k j,o = .ref p∧i = .int k∧H p = some (.lst xs)∧ixN xs.length k = some j∧Q (upd H p (.lst (xs.set j v)))
theorem set_list:Z62 X Zzn:=by
 intro pins s σ H o i v ov iv u Q I ro ri rv h
 obtain ⟨p,xs,k,j,rfl,rfl,hp,hj,q⟩:=h
 cases ro
 obtain ⟨t,rfl⟩:=ri
 obtain ⟨its,n,r,ho,hz⟩:=I.lst hp
 obtain ⟨h1,h2,h3,h4⟩:=Zqg hj
 have hl:=r.length
 have hn:=Zi4
 have I':Inv X pins σ (upd H p (.lst (xs.set j v))) { s with heap:=s.heap.update p (Obj.mapSeq (·.setIfInBounds j u)) } :=
  I.lstUpd hp ho (Zo8 its n j u) (r.set rv j) (by rw [List.length_set]; exact hz) s.toks
 by_cases h0:0 ≤ k
 ·have hk:k.toNat = j:=by
   rw [seqIndex_of h0 h4] at h1
   exact Option.some.inj h1
  exact PySem.W.ki_setAt ho h0 (by omega) (by rw [List.size_toArray,← hl]; exact h4) (by rw [hk]; exact ⟨_,I',q⟩)
 ·have hk:(k + (its.toArray.size:Int)).toNat = j:=by
   rw [seqIndex_neg (by omega) h3] at h1
   rw [List.size_toArray,← hl]
   exact Option.some.inj h1
  exact PySem.W.ki_setBack ho (by omega) (by rw [List.size_toArray,← hl]; exact h3) (by omega) (by rw [hk]; exact ⟨_,I',q⟩)
theorem Zk5 (lo hi:Option Int) (n:Nat):(sliceBounds lo hi none n).1 = ((HT.sIx n 0 lo:Nat):Int)∧(sliceBounds lo hi none n).2.1 = ((HT.sIx n n hi:Nat):Int)∧(sliceBounds lo hi none n).2.2 = 1:=by
 refine ⟨?_,?_,rfl⟩
 ·cases lo with
  | none=>simp [sliceBounds,HT.sIx]
  | some i =>
   simp only [sliceBounds,HT.sIx,Option.getD_none,show (1:Int) > 0 by decide,if_true]
   by_cases h:i < 0
   ·simp only [h,if_true] <;> omega
   ·simp only [h,if_false] <;> omega
 ·cases hi with
  | none=>simp [sliceBounds,HT.sIx]
  | some i =>
   simp only [sliceBounds,HT.sIx,Option.getD_none,show (1:Int) > 0 by decide,if_true]
   by_cases h:i < 0
   ·simp only [h,if_true] <;> omega
   ·simp only [h,if_false] <;> omega
theorem Zjl (its:List Value) (lo hi:Option Int):slicePick its.toArray lo hi none = ((its.drop (HT.sIx its.length 0 lo)).take (HT.sIx its.length its.length hi - HT.sIx its.length 0 lo)).toArray:=by
 obtain ⟨h1,h2,h3⟩:=Zk5 lo hi its.toArray.size
 unfold slicePick
 rw [h1,h2,h3]
 simp only [sliceRange_one,pick_run,List.size_toArray] <;> rfl
noncomputable def Z64 (K:PySem.W.Frag):V→Option Int→Option Int→Hp→VK→Prop:=fun x lo hi H Q=>∃ a xs,x = .ref a∧SqL K H a xs∧∀ p,H p = none→Q (.ref p) (upd H p (.lst (Z0a xs lo hi)))
theorem Zw6:SlR X (Z64 X.K):=by
 intro pins s σ H x v vl vu lo hi sl Q I rx hs pl pu h
 obtain ⟨a,xs,rfl,hx,q⟩:=h
 cases rx
 obtain ⟨its,r,ht,hz⟩:=I.list hx
 have hlen:=r.length
 refine ⟨"list", _,slot_list_getitem.lookup,ht.isList.typeIs,?_⟩
 refine wpAny_getItem_list_slice ht.isList hs pl pu .none (by simp) ?_ (by rw [List.size_toArray] <;> omega)
 rw [Zjl,← hlen]
 refine ⟨.ref s.heap.objs.size,_,I.laid (t':=s.toks) (o:=.lst (Z0a xs lo hi)) (fun b ob q=>Heap.get?_push_of_some _ q) (Nat.le_refl _) ?_,rfl,q _ (I.hok.fresh (Nat.le_refl _))⟩
 exact ⟨Nat.le_trans (Zml xs lo hi) hz,_,0,(r.drop (HT.sIx xs.length 0 lo)).take (HT.sIx xs.length xs.length hi - HT.sIx xs.length 0 lo),Heap.get?_push_size _ rfl⟩
theorem Zlw:Zd9 X (.builtin "len") (fun xs H Q=>∃ p ys,xs = [.ref p]∧(SqL X.K H p ys∨SqT X.K H p ys)∧Q (.int ys.length) H):=by
 intro pins s σ H xs us Q I r h
 obtain ⟨p,ys,rfl,hq,q⟩:=h
 obtain ⟨u,rfl,rx⟩:=vals1 r
 cases rx
 have hn:=Zi4
 rcases hq with hq | hq
 ·obtain ⟨its,r',pl,hz⟩:=I.list hq
  have hlen:=r'.length
  exact Calls.call_len_list pl.isList (by simp only [List.size_toArray] <;> omega) ⟨.int ys.length,H,I.tok _,⟨s.toks + 1,by rw [List.size_toArray,hlen]⟩,q⟩
 ·obtain ⟨its,r',pl,hz⟩:=I.tuple hq
  have hlen:=r'.length
  exact len_tuple pl (by simp only [List.size_toArray] <;> omega) ⟨.int ys.length,H,I.tok _,⟨s.toks + 1,by rw [List.size_toArray,hlen]⟩,q⟩
theorem Zl7:Zd9 X (.type "list") (fun xs H Q=>∃ p ys,xs = [.ref p]∧(SqL X.K H p ys∨SqT X.K H p ys)∧∀ l,H l = none→Q (.ref l) (upd H l (.lst ys))):=by
 intro pins s σ H xs us Q I r h
 obtain ⟨p,ys,rfl,hq,q⟩:=h
 obtain ⟨u,rfl,rx⟩:=vals1 r
 cases rx
 have fin:∀ (its:List Value),Vals ys its→ys.length ≤ sizeLine→∀ (h':Heap) (c':Nat),(∀ b o',s.heap.get? b = some o'→h'.get? b = some o') →
   h'.get? s.heap.objs.size = some { cls:=.type "list", dict:=none,data:=.seq its.toArray c',slots:=#[] }→EP X pins σ Q (.ref s.heap.objs.size) { s with heap:=h' }:=fun its r' hz h' c' kp e =>
  ⟨.ref s.heap.objs.size,_,I.laid (t':=s.toks) kp (Nat.le_refl _) (show ObjOk X.prog X.w _ h' _ (.lst ys) from ⟨hz,its,c',r',e⟩),rfl,q _ (I.hok.fresh (Nat.le_refl _))⟩
 rcases hq with hq | hq
 ·obtain ⟨its,r',pl,hz⟩:=I.list hq
  have hlen:=r'.length
  obtain ⟨o,ho,hc,n,hd⟩:=pl.isList
  exact call_list_seq p (.inl rfl) ho hc hd (fun h' c' kp e=>fin its r' hz h' c' kp e) (by simp only [List.size_toArray] <;> omega)
 ·obtain ⟨its,r',pl,hz⟩:=I.tuple hq
  have hlen:=r'.length
  obtain ⟨o,ho,hc,n,hd⟩:=pl
  exact call_list_seq p (.inr rfl) ho hc hd (fun h' c' kp e=>fin its r' hz h' c' kp e) (by simp only [List.size_toArray] <;> omega)
noncomputable def tyV (K:PySem.W.Frag) (T:String) (x:V) (H:Hp):Prop:=match x with
 | .str _=>T = "str"
 | .int _=>T = "int"
 | .ref p=>(T = "list" ∧ ∃ xs,SqL K H p xs)∨(T = "tuple" ∧ ∃ o,K.lookup p = some o∧o.cls = .type "tuple" ∧ o.dict = none) ∨
   (T = "dict" ∧ ((∃ kvs,H p = some (.dK kvs))∨∃ kvs,H p = some (.dT kvs)))∨(T = "set" ∧ ∃ S n,H p = some (.set S n))
 | _=>False
theorem Z0p {pins:List (Addr × Obj)} {σ:St} {H:Hp} {s:Shared} {T:String} {x:V} {v:Value} (I:Inv X pins σ H s) (r:RelV x v) (ty:tyV X.K T x H) :
  s.TypeIs v T∧∀ a,v = .ref a→∃ ob,s.heap.get? a = some ob∧ob.dict = none:=by
 cases x with
 | str z =>
  obtain ⟨t,rfl⟩:=r
  cases (show T = "str" from ty)
  exact ⟨typeIs_str s z t,fun _ e=>nomatch e⟩
 | int i =>
  obtain ⟨t,rfl⟩:=r
  cases (show T = "int" from ty)
  exact ⟨typeIs_int s i t,fun _ e=>nomatch e⟩
 | ref p =>
  cases r
  rcases ty with ⟨rfl,xs,hq⟩ | ⟨rfl,o,hk,hc,hd⟩ | ⟨rfl,hk⟩ | ⟨rfl,S,n,hk⟩
  ·obtain ⟨its,_,pl,_⟩:=I.list hq
   refine ⟨pl.isList.typeIs,fun a e=>?_⟩
   cases e
   obtain ⟨o,n,e,c,hd,_⟩:=pl
   exact ⟨o,e,hd⟩
  ·refine ⟨⟨o,I.kIn p o hk,hc⟩,fun a e=>?_⟩
   cases e
   exact ⟨o,I.kIn _ o hk,hd⟩
  ·have z:∃ o,s.heap.get? p = some o∧o.ExactDict:=by
    rcases hk with ⟨kvs,hk⟩ | ⟨kvs,hk⟩
    ·obtain ⟨_,_,_,_,o,_,_,e,ex,_⟩:=I.hok p _ hk
     exact ⟨o,e,ex⟩
    ·obtain ⟨_,_,_,_,o,_,_,e,ex,_⟩:=I.hok p _ hk
     exact ⟨o,e,ex⟩
   obtain ⟨o,e,ex⟩:=z
   refine ⟨⟨o,e,ex.1⟩,fun a e2=>?_⟩
   cases e2
   exact ⟨o,e,ex.2.1⟩
  ·obtain ⟨o,_,_,_,e,ex,_⟩:=I.hok p _ hk
   refine ⟨⟨o,e,ex.1⟩,fun a e2=>?_⟩
   cases e2
   exact ⟨o,e,ex.2.1⟩
 | _=>exact False.elim ty
noncomputable def tBM (K:PySem.W.Frag) (T:String) (r:V→List V→Hp→VK→Prop) (to:TE) (t:TA):TE:=fun σ H Q=>to σ H fun x H1=>tyV K T x H1∧t σ H1 fun xs H2=>r x xs H2 Q
variable {o e:Expr} {es:List Expr} {to:TE} {t:TA} {name:Str} {apos cpos:Pos} {T id:String} {r:V→List V→Hp→VK→Prop}
theorem Zzf (pa:PlainAttrs T) (slot:Slot T name id) (hty:typeOf (.builtin id) = pure (.type "method_descriptor")) (hm:MtR X id r) (ho:PE X o to) (ha:PA X (e :: es) t)
  (hbase:attributeBase o name X.env (eval o X.env) = eval o X.env:=by rfl)
  (hfew:((backTo cpos (starEach (e :: es) X.env)).all (fun x=>!x.1) && (backToKw cpos (keywordEach [] X.env)).all (fun x=>x.1.isSome)
   && decide ((e :: es).length + ([]:List Keyword).length + (if ([]:List Keyword).isEmpty then 0 else 1) < 30)) = true:=by rfl)
  (hline:(apos.endLine == cpos.line) = true:=by rfl) (hs:starEach (e :: es) X.env = (false,eval e X.env) :: starEach es X.env:=by rfl) (hplain:(backTo cpos (starEach es X.env)).any (·.1) = false:=by rfl) :
  PE X (.Call (.Attribute o name apos) (e :: es) [] cpos) (tBM X.K T r to t):=by
 intro pins s σ H Q I h
 refine wpAny_Call_method_late hbase hfew hline rfl (thn (ho pins s σ H _ I h) fun v s1 qz9=>?_)
 obtain ⟨x,H1,I1,r1,ty,q1⟩:=qz9
 obtain ⟨h1,h2⟩:=Z0p I1 r1 ty
 refine ⟨T,id,pa,slot,hty,h1,h2,?_⟩
 have hA:=ha cpos pins s1 σ H1 _ I1 q1
 rw [hs] at hA ⊢
 refine Calls.callWith_builtin (by show (false || (backTo cpos (starEach es X.env)).any (·.1)) = false; rw [hplain] <;> rfl) (Calls.evalArgs_plain ?_)
 refine thn hA fun us s2 qz9=>?_
 obtain ⟨vs,H2,I2,r2,q2⟩:=qz9
 exact hm pins s2 σ H2 x vs v us Q I2 r1 r2 q2
end
end L2
namespace L2
open PySem PySem.Spec PyProof.Rows
noncomputable def MtM (X:Cx) (id:String) (r:V→List V→Hp→VK→Prop):Prop :=
 ∀ (pins:List (Addr × Obj)) (s:Shared) (σ:St) (H:Hp) (x:V) (xs:List V) (v:Value) (us:List Value) (Q:VK),Inv X pins σ H s→RelV x v→Vals xs us→r x xs H Q →
  wpAny (model X.prog X.w) X.A (call (.builtin id) (v :: us)) (EP X pins σ Q) X.xe s
theorem Vals.one {x:V} {us:List Value} (h:Vals [x] us):∃ u,us = [u]∧RelV x u:=by
 cases h with
 | cons r t=>cases t; exact ⟨_,rfl,r⟩
section
variable {X:Cx} {pins:List (Addr × Obj)} {σ:St} {H:Hp} {s:Shared} {l b:Addr} {xs ys zs:List V}
theorem Inv.lset {its its':List Value} {n:Nat} {f:Array Value→Array Value} {t':Nat} (I:Inv X pins σ H s) (hH:H l = some (.lst xs))
  (e:s.heap.get? l = some { cls:=.type "list", data:=.seq its.toArray n }) (hf:f its.toArray = its'.toArray) (hv:Vals ys its') (hz:ys.length ≤ sizeLine) :
  Inv X pins σ (upd H l (.lst ys)) { s with heap:=s.heap.update l (Obj.mapSeq f),toks:=t' }:=by
 have q:=PySem.IsL.update e f
 rw [hf] at q
 refine I.write (x:=l) (e:=l) (by rw [hH]; exact trivial) (.inl rfl) (fun b' u hb hu=>(Heap.get?_update_other s.heap (Obj.mapSeq f) (Ne.symm hb)).trans hu) ⟨_,q⟩ ?_
 exact ⟨hz,its',_,hv,q⟩
theorem Inv.lnew {its:List Value} {t':Nat} (I:Inv X pins σ H s) (hv:Vals ys its) (hz:ys.length ≤ sizeLine) :
  Inv X pins σ (upd H s.heap.objs.size (.lst ys)) { s with heap:=s.heap.push { cls:=.type "list", data:=.seq its.toArray },toks:=t' } :=
 I.laid (fun _ _ q=>Heap.get?_push_of_some _ q) (Nat.le_refl _) ⟨hz,its,0,hv,Heap.get?_push_size _ rfl⟩
theorem Inv.fresh (I:Inv X pins σ H s):H s.heap.objs.size = none:=I.hok.fresh (Nat.le_refl _)
theorem Inv.lstM (I:Inv X pins σ H s) (hH:H l = some (.lst xs)):xs.length ≤ sizeLine∧∃ (its:List Value) (n:Nat),Vals xs its∧xs.length = its.length∧s.heap.get? l = some { cls:=.type "list", data:=.seq its.toArray n }:=by
 obtain ⟨z,its,n,r,e⟩:=I.hok l _ hH
 exact ⟨z,its,n,r,r.length,e⟩
theorem Zth {n:Nat} (h:n ≤ sizeLine):Builtin.List.listTooLong n = false:=by
 unfold Builtin.List.listTooLong
 exact decide_eq_false (by omega)
end
section
variable {X:Cx}
noncomputable def Zxz:V→List V→Hp→VK→Prop:=fun x vs H Q=>∃ l xs y,x = .ref l∧vs = [y]∧H l = some (.lst xs)∧xs.length < sizeLine∧Q .non (upd H l (.lst (xs ++ [y])))
theorem Zln:MtM X "list.append" Zxz:=by
 intro pins s σ H x vs v us Q I rx rv h
 obtain ⟨l,xs,y,rfl,rfl,hH,hz,q⟩:=h
 cases rx
 obtain ⟨u,rfl,ru⟩:=rv.one
 obtain ⟨z,its,n,r,hl,e⟩:=I.lstM hH
 refine call_meets F.slot_list_append ⟨_,e,rfl⟩ F.entry_list_append (F.args_list_append_2 _ _) (PySem.list_append l its.toArray n u (by rw [List.size_toArray]; omega)) ⟨e,?_⟩
 refine ⟨.non,_,I.lset (its':=its ++ [u]) hH e (by simp) (r.append (.cons ru .nil)) ?_,rfl,q⟩
 rw [List.length_append,List.length_singleton]
 omega
noncomputable def Zze:V→List V→Hp→VK→Prop:=fun x vs H Q=>∃ l b xs zs,x = .ref l∧vs = [.ref b]∧H l = some (.lst xs)∧H b = some (.lst zs)∧xs.length + zs.length ≤ sizeLine∧Q .non (upd H l (.lst (xs ++ zs)))
theorem Zs3:MtM X "list.extend" Zze:=by
 intro pins s σ H x vs v us Q I rx rv h
 obtain ⟨l,b,xs,zs,rfl,rfl,hH,hB,hz,q⟩:=h
 cases rx
 obtain ⟨u,rfl,ru⟩:=rv.one
 cases ru
 obtain ⟨z,its,n,r,hl,e⟩:=I.lstM hH
 obtain ⟨z2,its2,n2,r2,hl2,e2⟩:=I.lstM hB
 have hsz:its.toArray.size + its2.toArray.size ≤ sizeLine:=by rw [List.size_toArray,List.size_toArray]; omega
 have hlong:¬ (!its.toArray.isEmpty && Builtin.List.listTooLong (its.toArray.size + its2.toArray.size)) = true:=by
  rw [Zth hsz,Bool.and_false]
  exact Bool.false_ne_true
 refine call_meets F.slot_list_extend ⟨_,e,rfl⟩ F.entry_list_extend (F.args_list_extend_2 _ _)
  (AutoSeq1.list_extend_list_list_0 l its.toArray n b its2.toArray n2 hlong (by rw [List.size_toArray]; omega) (by omega)) ⟨e,e2,?_⟩
 refine ⟨.non,_,I.lset (its':=its ++ its2) hH e (by simp) (r.append r2) ?_,rfl,q⟩
 rw [List.length_append]
 omega
end
section
variable {prog:Program} {w:World} {A:Around} {E:Value→Shared→Prop} {s:Shared}
end
section
variable {X:Cx}
end
end L2
namespace Att
open PySem PySem.W PySem.Calls PyProof.Rows
theorem Zhg {P:Params} {h:Heap}:∀ (ns:List Int) (vs:List Value),WellAll P h vs (ns.map WData.int)→IntsAre vs ns:=by
 intro ns
 induction ns with
 | nil =>
  intro vs w
  rw [List.map_nil] at w
  cases w
  exact .nil
 | cons n ns ih =>
  intro vs w
  rw [List.map_cons] at w
  cases w with
  | cons a b =>
   cases a
   exact .cons _ _ (ih _ b)
theorem Zqj {l:OpenLaw} {n:Nat} (hn:l.most = some n) {P:Params} {h:Heap} {args:List WData} {vals:List Value}
  (hpre:l.row.toRowW.claim.pre args = true) (hwl:WellAll P h vals args) :
  ∃ a vs ns,vals = [Value.ref a]∧args = [WData.list (ns.map WData.int)]∧h.get? a = some { cls:=.type "list", data:=.seq vs.toArray }∧IntsAre vs ns∧ns.length ≤ n:=by
 have hsh:WShape.hasAll [] args [.list .int] = true:=(pre_splitW hpre).1
 have hc:l.pre.holds [] { args:=args } = true:=(pre_splitW hpre).2
 obtain ⟨d,r,rfl,h1,h2⟩:=hasAllW_cons hsh
 obtain rfl:=hasAllW_nil h2
 obtain ⟨xs,rfl,h3⟩:=hasW_list h1
 obtain ⟨ns,rfl⟩:=items_int h3
 have hlen:ns.length ≤ n:=by
  unfold OpenLaw.pre at hc
  have h4:(WTm.not (.lt (.lit (.int (n:Int))) (.len (.arg 0)))).holds [] { args:=[.list (ns.map .int)] } = true:=by
   have h4:=(holds_andW hc).1
   rw [hn] at h4
   exact h4
  have h5:=condW_of h4 (w_not (w_lt w_lit (w_len_list (w_arg rfl))))
  rw [List.length_map] at h5
  refine Nat.le_of_not_lt fun q=>?_
  have q':(n:Int) < ((ns.length:Nat):Int):=by omega
  first
   | (rw [decide_eq_true q'] at h5; exact absurd h5 (by decide))
   | (simp at h5; omega)
 cases hwl with
 | cons w1 w2 =>
  cases w2
  cases w1 with
  | list ho hall=>exact ⟨_,_,ns,rfl,rfl,ho,Zhg ns _ hall,hlen⟩
theorem Zse (l:OpenLaw) (args:List WData):l.row.toRowW.claim.post args (.bool true) args = true :=
 postW_of (r:=l.row.toRowW) (X:=(true == true))
  (show WShape.has [] (.bool true) .bool = true by first | rfl | decide | simp [WShape.has,WShape.arms,WShape.armsAll])
  (show (WTm.eq .res (.lit (.bool true))).value [] { args:=args,res:=some (.bool true),after:=args } = some (.bool (true == true)) from w_eq_bool (w_res rfl) w_lit) rfl
theorem attach_call {l:OpenLaw} {n:Nat} {q:Program} {loose:List Str} {XP:(Str→Option Value)→Heap→Prop} {YP:World→Heap→Prop} {d:DefRec}
  (hn:l.most = some n) (hdf:d.params.defaults = [])
  (call:∀ (w:World) (s₀ s₁:Shared) (mg mb:Str→Option Value) (fa:Addr) (o:Obj) (pm cd doc:Value) (a:Addr) (vs:List Value) (ns:List Int),
   Ground q loose [] XP w s₀ mg mb s₁.heap→YP w s₁.heap →
   s₁.heap.get? fa = some o→o.data = .func (docDef d.name d.params d.body d.scope pm cd doc)→s₁.heap.CodeRec cd d.name→mg d.name = some (.ref fa) →
   s₁.heap.get? a = some { cls:=.type "list", data:=.seq vs.toArray }→IntsAre vs ns→ns.length ≤ n→s₁.gens = #[] →
   codeAny (model l.prog w) callerA (.call (.ref fa) ⟨[.ref a],[]⟩) (fun r s'=>r = .ok (.ret (.bool true))∧OldK s₁.heap s'.heap∧s'.os = s₁.os∧AllBare s'.gens) s₁) :
  WalkO q loose XP YP l.row.toRowW d [] (fun f vs=>PySem.call f vs):=by
 intro w s₀ s₁ mg mb G Y fa o pm cd doc dV kV ho hd hcd hD hmg hg args vals as hpre hlay hrd hwl hlo
 obtain rfl:dV = .none:=Dflts.none hD hdf
 obtain rfl:kV = .none:=Dflts.noKw hD
 obtain ⟨a,vs,ns,rfl,rfl,hobj,hints,hlen⟩:=Zqj hn hpre hwl
 refine enter_call (codeAny_mono (call w s₀ s₁ mg mb fa o pm cd doc a vs ns G Y ho (fd_plain hd) hcd hmg hobj hints hlen hg) fun r s' hq=>?_)
 obtain ⟨rfl,h2,h3,h4⟩:=hq
 exact ⟨.inl ⟨.bool true,.bool true,[],rfl,fun _=>rfl,.bool true,Zse l _,fun _=>⟨List.Pairwise.nil,fun _ hm=>(nomatch hm)⟩⟩,h2,h3,h4⟩
section
variable {prog:Program} {w:World} {A:Around} {E:Value→Shared→Prop} {s:Shared} {K:Frag}
end
end Att
namespace L2
open PySem PySem.Spec PyProof.Rows
theorem Zs1 {vs:List Value} {ns:List Int} (h:IntsAre vs ns):Vals (ns.map V.int) vs:=by
 induction h with
 | nil=>exact .nil
 | cons n t h ih=>exact .cons ⟨t,rfl⟩ ih
noncomputable def Only (H:Hp):Prop:=∀ b,H b = none∨∃ o xs,H b = some (.frz o (.lst xs))
theorem Zuf {P:Program} {w:World} {K:PySem.W.Frag} {mg mb:Str→Option Value} {CX:CXT} {k:Nat} {fa a:Addr} {fd:FuncData} {x:Str} {sp:Sp} {s₁:Shared} {vs:List Value} {ns:List Int}
  (KX:K.In s₁.heap) (hns:s₁.heap.Ns mainGlobals mg) (hb:s₁.heap.Ns builtinsNs mb) (hbb:∀ x:Str,x ≠ "__name__" → mb x = bootBuiltins x) (hlim:s₁.heap.NoLimit) (hg:s₁.gens = #[])
  (ha:s₁.heap.get? a = some { cls:=.type "list", data:=.seq vs.toArray }) (hi:IntsAre vs ns) (hl:ns.length ≤ sizeLine) (hr:Room k callerA)
  (F:∀ base:Heap,K.In base→base.Ns mainGlobals mg→FnOk P w K mg base CX k fa fd [x] sp) (hbind:∀ (s:Shared) (u:Value),BindsTo s fd ⟨[u],[]⟩ [(x,u)])
  (hsp:∀ H:Hp,Only H→SqL K H a (ns.map V.int)→sp [.ref a] H (fun v _=>v = .bl true) fun _ _ _=>False)
  (hCX:∀ H e s',CX [] H s₁ (fun _ _ _=>False) e s'→False) :
  codeAny (model P w) callerA (.call (.ref fa) ⟨[.ref a],[]⟩) (fun r s'=>r = .ok (.ret (.bool true))∧OldK s₁.heap s'.heap∧s'.os = s₁.os∧AllBare s'.gens) s₁:=by
 have rv:=Zs1 hi
 have lenV:=hi.length
 -- from an abstract heap in which nothing but the script may be tracked
 have core:∀ H:Hp,Only H→SqL K H a (ns.map V.int)→HOk P w H s₁.heap→(∀ b,H b ≠ none→b = a)→(H a ≠ none→K.lookup a = none) →
   codeAny (model P w) callerA (.call (.ref fa) ⟨[.ref a],[]⟩) (fun r s'=>r = .ok (.ret (.bool true))∧OldK s₁.heap s'.heap∧s'.os = s₁.os∧AllBare s'.gens) s₁:=by
  intro H hO hS hok hA hK
  have base_of:∀ {b:Addr} {o:Obj},s₁.heap.get? b = some o→H b = none→(Zuo s₁.heap H).get? b = some o:=fun e n=>Zuv e n
  have noA:∀ {b:Addr} {o:Obj} {es:Array DictEntry} {ep:Nat},s₁.heap.get? b = some o→o.data = .dict es ep→H b = none:=fun {b o es ep} e d=>by
   cases q:H b with
   | none=>rfl
   | some u =>
    have e':b = a:=hA b (by rw [q]; simp)
    subst e'
    rw [ha] at e; cases e
    have d':Data.seq vs.toArray _ = Data.dict es ep:=d
    cases d'
  have nsK:∀ {b:Addr} {m:Str→Option Value},s₁.heap.Ns b m→(Zuo s₁.heap H).Ns b m:=fun {b m} ⟨o,es,ep,e,d,r⟩=>⟨o,es,ep,base_of e (noA e d),d,r⟩
  have hKb:K.In (Zuo s₁.heap H):=fun b o e=>base_of (KX b o e) (by
   cases q:H b with
   | none=>rfl
   | some u =>
    have e':b = a:=hA b (by rw [q]; simp)
    subst e'
    rw [hK (by rw [q]; simp)] at e; cases e)
  have hM:Mod K mg (Zuo s₁.heap H):=⟨hKb,nsK hns,⟨mb,nsK hb,hbb⟩,let ⟨mc,h1,h2⟩:=hlim; ⟨mc,nsK h1,h2⟩⟩
  have e0:Z4l P w K mg (Zuo s₁.heap H) callerA [] s₁ H:=⟨rfl,hM,fun b o e=>Zzb e,Nat.le_of_eq (Zqm _ _),trivial,fun b hb=>absurd (show b ∈ ([]:List Addr) from hb) (by simp),hok,.of_eq hg⟩
  refine codeAny_mono ((F _ hKb (nsK hns)).run callerA [] s₁ H ⟨[.ref a],[]⟩ [.ref a] [.ref a] _ _ hr e0 (hbind s₁ (.ref a)) (.cons rfl .nil) (hsp H hO hS)) fun r s' h=>?_
  cases r with
  | error e=>exact (hCX H e s' h).elim
  | ok fl =>
   cases fl with
   | next=>exact False.elim h
   | brk=>exact False.elim h
   | cont=>exact False.elim h
   | ret u =>
    obtain ⟨v,H',os,bare,un,hok',r',q⟩:=h
    have q':v = .bl true:=q
    subst q'
    obtain rfl:u = Value.bool true:=r'
    refine ⟨rfl,OldK.of_keep fun b o e=>?_,os,bare⟩
    cases q:H b with
    | none=>exact un.keep b o e q (by intro z; exact absurd (show b ∈ ([]:List Addr) from z) (by simp)) (by simp)
    | some u =>
     rcases hO b with z | ⟨ob,xs,z⟩
     ·rw [q] at z; cases z
     ·have z2:=un.frzs b ob _ z
      obtain ⟨e1,_⟩:=hok b _ z
      obtain ⟨e2,_⟩:=hok' b _ z2
      rw [e] at e1; cases e1
      exact e2
 cases hk:K.lookup a with
 | some o =>
  -- the script is one of the module's own objects
  have e:=KX a o hk
  rw [ha] at e
  cases e
  refine core (fun _=>none) (fun _=>.inl rfl) (.inr ⟨_,vs.toArray,_,hk,rfl,rfl,rfl,by rw [List.size_toArray,lenV]; exact hl,by simpa using rv⟩) (fun b u z=>by have z':(none:Option HO) = some u:=z; cases z') (fun b z=>absurd rfl z) fun z=>absurd rfl z
 | none =>
  refine core (fun b=>if b = a then some (.frz { cls:=.type "list", data:=.seq vs.toArray } (.lst (ns.map V.int))) else none) (fun b=>?_) (.inl (.inr ⟨{ cls:=.type "list", data:=.seq vs.toArray },if_pos rfl⟩)) (fun b u z=>?_) (fun b z=>?_) fun _=>hk
  ·by_cases hb:b = a
   ·exact .inr ⟨_,_,if_pos hb⟩
   ·exact .inl (if_neg hb)
  ·by_cases hb:b = a
   ·have z':=(if_pos hb).symm.trans z
    cases z'
    subst hb
    exact ⟨ha,by rw [List.length_map]; exact hl,vs,_,rv,ha⟩
   ·have z':=(if_neg hb).symm.trans z
    cases z'
  ·by_cases hb:b = a
   ·exact hb
   ·exact absurd (if_neg hb) z
end L2
namespace L2
open PySem PySem.Spec PyProof.Rows
noncomputable abbrev KOf {K:PySem.W.Frag} {h:Heap} (_:K.In h):PySem.W.Frag:=K
theorem Zz0 {l:PySem.W.OpenLaw} {n k:Nat} {q:Program} {loose:List Str} {XP:(Str→Option Value)→Heap→Prop} {YP:World→Heap→Prop} {d:DefRec} {K:Params→PySem.W.Frag} {CX:World→CXT} {sp:World→Sp} {x:Str}
  (hn:l.most = some n) (hn2:n ≤ sizeLine) (hdf:d.params.defaults = []) (hr:Room k callerA)
  (hY:∀ (w:World) (h:Heap),YP w h→(K w.params).In h)
  (F:∀ (w:World) (mg:Str→Option Value) (fa:Addr) (h:Heap),(K w.params).In h→h.Ns mainGlobals mg→mg d.name = some (.ref fa) →
   ∃ fd:FuncData,(∀ (s:Shared) (u:Value),BindsTo s fd ⟨[u],[]⟩ [(x,u)]) ∧
    ∀ base:Heap,(K w.params).In base→base.Ns mainGlobals mg→FnOk l.prog w (K w.params) mg base (CX w) k fa fd [x] (sp w))
  (hsp:∀ (w:World) (H:Hp) (a:Addr) (ns:List Int),ns.length ≤ n→Only H→SqL (K w.params) H a (ns.map V.int)→sp w [.ref a] H (fun v _=>v = .bl true) fun _ _ _=>False)
  (hCX:∀ (w:World) (H:Hp) (s:Shared) (e:Value) (s':Shared),CX w [] H s (fun _ _ _=>False) e s'→False) :
  PySem.W.WalkO q loose XP YP l.row.toRowW d [] (fun f vs=>PySem.call f vs):=by
 refine Att.attach_call hn hdf fun w s₀ s₁ mg mb fa o pm cd doc a vs ns G Y ho hd hcd hmg hobj hints hlen hg=>?_
 have KX:=hY w _ Y
 obtain ⟨fd,hb,hF⟩:=F w mg fa _ KX G.T.g hmg
 exact Zuf KX G.T.g G.T.b G.T.builtins G.T.nolimit hg hobj hints (Nat.le_trans hlen hn2) hr hF hb (fun H hO hS=>hsp w H a ns hlen hO hS) fun H e s'=>hCX w H s₁ e s'
end L2
namespace L2
open PySem PySem.Spec PyProof.Rows
noncomputable def Z5 (s:Stmt):Arguments:=match s with
 | .FunctionDef _ a _ _ _ _ _ _ _ _=>a
 | _=>{ posonlyargs:=[],args:=[],vararg:=none,kwonlyargs:=[],kw_defaults:=[],kwarg:=none,defaults:=[] }
noncomputable def Z1 (s:Stmt):List Stmt:=match s with
 | .FunctionDef _ _ b _ _ _ _ _ _ _=>b
 | _=>[]
noncomputable def Zi (s:Stmt):Scope:=match s with
 | .FunctionDef _ _ _ _ _ _ sc _ _ _=>sc
 | _=>{ kind:=.function,names:=[],isGenerator:=false,isCoroutine:=false }
noncomputable abbrev CX0:CXT:=fun _ _ _ _ _ _=>False
noncomputable abbrev E0:XK:=fun _ _ _=>False
theorem Yk {X:Cx}:Zl8 CX0 X E0:=fun _ _ _ _ _ _ _ h=>h.elim
structure Fun (K:PySem.W.Frag) (x qual:Str) (st:Stmt) (f:Addr) (fd:FuncData):Prop where
 ex:∃ (oc:Value) (od:Option Addr) (kV doc pm:Value) (an:Option Addr) (cdv ct:Value) (osl:Array (Option Value)),
  fd = PySem.W.fnOf x qual (Z5 st) (Z1 st) (Zi st) .none kV doc pm an cdv ct∧K.lookup f = some ⟨oc,od,.func fd,osl⟩∧PySem.W.codeIn K cdv qual = true
 kp:PySem.W.keepIn K (.ref f) = true
section
variable {P:Program} {w:World} {K:PySem.W.Frag} {mg:Str→Option Value} {base:Heap}
theorem Fun.ok {x qual:Str} {st:Stmt} {f:Addr} {fd:FuncData} {N ps:List Str} {k:Nat} {sp:Sp} (F:Fun K x qual st f fd) (S:Z3 N ps (Zi st)) (len:∀ vs H Q E,sp vs H Q E→vs.length = ps.length)
  (hbody:∀ (cdv:Value) (A:Around) (outer:List Env) (s:Shared) (H:Hp) (vs:List V) (Q:VK) (E:XK),Room k (A.deeper (envOfC qual (Zi st) s.heap.objs.size f cdv))→sp vs H Q E →
   ∃ t,PSs (Zp7 CX0 P w K mg base N qual (Zi st) f cdv A outer s H E).nox (Z1 st) t∧t { nx:=fun _ H'=>Q .non H',rt:=Q } (start N vs) H):FnOk P w K mg base CX0 (k + 1) f fd ps sp:=by
 obtain ⟨oc,od,kV,doc,pm,an,cdv,ct,osl,rfl,lk,hcd⟩:=F.ex
 refine Z23 lk hcd S len fun A outer s H vs Q E hr hsp=>?_
 obtain ⟨t,h,q⟩:=hbody cdv A outer s H vs Q E hr hsp
 exact ⟨t,h.nox,q⟩
theorem Fun.binds {x qual:Str} {st:Stmt} {f:Addr} {fd:FuncData} {ps:List Str} (F:Fun K x qual st f fd)
  (h:∀ (kV doc pm:Value) (an:Option Addr) (cdv ct:Value) (us:List Value),us.length = ps.length→bindArgs (PySem.W.fnOf x qual (Z5 st) (Z1 st) (Zi st) .none kV doc pm an cdv ct) ⟨us,[]⟩ = pure (ps.zip us)):Binds K fd ps []:=by
 obtain ⟨oc,od,kV,doc,pm,an,cdv,ct,osl,rfl,lk,hcd⟩:=F.ex
 exact .all (h kV doc pm an cdv ct)
theorem Y6 {x qual:Str} {st:Stmt} {f:Addr} {oc:Value} {od an:Option Addr} {osl:Array (Option Value)} {kV doc pm cdv ct:Value} (l:K.lookup f = some ⟨oc,od,.func (PySem.W.fnOf x qual (Z5 st) (Z1 st) (Zi st) .none kV doc pm an cdv ct),osl⟩)
  (c:PySem.W.codeIn K cdv qual = true) (k:PySem.W.keepIn K (.ref f) = true):Fun K x qual st f (PySem.W.fnOf x qual (Z5 st) (Z1 st) (Zi st) .none kV doc pm an cdv ct):=⟨⟨oc,od,kV,doc,pm,an,cdv,ct,osl,rfl,l,c⟩,k⟩
end
section
variable {X:Cx}
theorem pv (i:Nat) {x:Str} {pos:Pos} (hN:X.N[i]? = some x:=by rfl) (hv:Vis X.env.scope x:=by first | exact Or.inl rfl | exact Or.inr (Or.inl rfl) | exact Or.inr (Or.inr rfl)) (hd:(x == ("__debug__" : Str)) = false:=by decide)
  (hcd:(x == ("__classdict__" : Str)) = false:=by decide):PE X (.Name x pos) (Z6h i):=Z3r hN hv hd hcd
end
noncomputable def Same (H H':Hp):Prop:=∀ b o,H b = some o→H' b = some o
theorem Same.refl (H:Hp):Same H H:=fun _ _ h=>h
theorem Same.trans {H H1 H2:Hp} (a:Same H H1) (b:Same H1 H2):Same H H2:=fun c o h=>b c o (a c o h)
theorem Same.free {H H':Hp} (e:Same H H') {l:Addr} (h:H' l = Option.none):H l = Option.none:=by
 cases q:H l with
 | none=>rfl
 | some o =>
  rw [e l o q] at h
  cases h
end L2
set_option maxHeartbeats 4000000
namespace L2
open PySem PySem.Spec PyProof.Rows
noncomputable def Bt (n:Nat) (x:Int):Prop:=x.natAbs < 2 ^ n
theorem Bt.mono {m n:Nat} {x:Int} (h:Bt m x) (hn:m ≤ n):Bt n x:=Nat.lt_of_lt_of_le h (Nat.pow_le_pow_right (by decide) hn)
theorem Bt.mul {m n:Nat} {x y:Int} (h:Bt m x) (k:Bt n y):Bt (m + n) (x * y):=by
 unfold Bt at *
 rw [Int.natAbs_mul,Nat.pow_add]
 exact Nat.mul_lt_mul'' h k
theorem Bt.neg {m:Nat} {x:Int} (h:Bt m x):Bt m (-x):=by
 unfold Bt at *
 rw [Int.natAbs_neg]
 exact h
theorem Bt.add {m n:Nat} {x y:Int} (h:Bt m x) (k:Bt n y):Bt (m + n + 1) (x + y):=by
 unfold Bt at *
 have h1:2 ^ m ≤ 2 ^ (m + n):=Nat.pow_le_pow_right (by decide) (by omega)
 have h2:2 ^ n ≤ 2 ^ (m + n):=Nat.pow_le_pow_right (by decide) (by omega)
 have h3:2 ^ (m + n + 1) = 2 * 2 ^ (m + n):=by rw [Nat.pow_succ]; omega
 have h4:=Int.natAbs_add_le x y
 omega
theorem Bt.of_le {m:Nat} {x y:Int} (h:Bt m x) (k:y.natAbs ≤ x.natAbs):Bt m y:=Nat.lt_of_le_of_lt k h
theorem Bt.of_lt {m:Nat} {x:Int} (h1:-(2 ^ m) < x) (h2:x < 2 ^ m):Bt m x:=by
 unfold Bt
 have e:((2 ^ m:Nat):Int) = 2 ^ m:=by simp
 omega
theorem Bt.bits {m:Nat} {x:Int} (h:Bt m x):Builtin.Int.intBits x ≤ m:=by
 unfold Builtin.Int.intBits
 split
 ·exact Nat.zero_le _
 ·rename_i hx
  have hp:x.natAbs ≠ 0:=by
   intro e
   apply hx
   have:x = 0:=by omega
   subst this
   rfl
  have:=(Nat.log2_lt hp).mpr h
  omega
theorem Bt.mulOk {m n:Nat} {x y:Int} (h:Bt m x) (k:Bt n y) (hmn:m + n ≤ 100000000:=by decide):IntMulOk x y:=by
 have h1:=h.bits
 have h2:=k.bits
 have h3:Builtin.Int.intTooBig (Builtin.Int.intBits x + Builtin.Int.intBits y) = false:=by
  unfold Builtin.Int.intTooBig bitsLine
  exact decide_eq_false (by omega)
 unfold IntMulOk
 rw [h3]
 simp
noncomputable def DivOk (_ j:Int):Prop:=j ≠ 0∧j.natAbs.log2 < 9000
theorem DivOk.of {i j:Int} {n:Nat} (h0:j ≠ 0) (h:Bt n j) (hn:n ≤ 9000:=by decide):DivOk i j:=by
 refine ⟨h0,?_⟩
 have hp:j.natAbs ≠ 0:=by omega
 have:=(Nat.log2_lt hp).mpr h
 omega
section
variable {X:Cx}
theorem Zcv:OpR X (binaryOp .Mult) (rI IntMulOk fun i j=>.int (i * j)):=opI fun _ _ _ _ _ _ _ hc q=>mul_int q hc
theorem Zc7:OpR X (binaryOp .FloorDiv) (rI DivOk fun i j=>.int (i.fdiv j)):=opI fun _ _ _ _ _ _ _ hc q=>floordiv_int hc.1 q (.inl (PyProof.noPylong_of_log2 hc.2))
theorem Zbu:OpR X (binaryOp .Pow) (rI Z0e fun i j=>.int (i ^ j.toNat)):=Z01
end
theorem Zig (elt target iter:Expr) (ifs:List Expr) (scope:Scope) (pos:Pos) (it acc:Value) (env:Env) :
  compTurn (.ListComp elt [⟨target,iter,ifs,0⟩] scope pos) 0 it acc env = (standAt iter.pos >>= fun _=>pyNext it >>= fun r=>match r with
   | none=>pure (.done .next)
   | some v=>letOwnedTupleGo target it v >>= fun _=>assign target env v >>= fun _ =>
    (forIn ifs true fun c r=>if r = true then do let ok ← isTrue c env (eval c env); pure (ForInStep.yield ok) else pure (ForInStep.yield r)) >>= fun ok =>
     if ok = true then ((eval elt env >>= fun x=>call (.builtin "list.append") [acc,x] >>= fun _=>pure ()) >>= fun _ =>
      again (.compLoop (.ListComp elt [⟨target,iter,ifs,0⟩] scope pos) 0 it acc env))
     else again (.compLoop (.ListComp elt [⟨target,iter,ifs,0⟩] scope pos) 0 it acc env)):=by rfl
end L2
namespace L2
open PySem PySem.Spec PyProof.Rows
theorem Zkt {prog:Program} {w:World} {A:Around} {R:Result→Shared→Prop} {s:Shared} {elt target iter:Expr} {ifs:List Expr} {scope:Scope} {pos:Pos} {it acc:Value} {env:Env} (I:Nat→Shared→Prop)
  (turn:∀ n s,I n s→wpAny (model prog w) A (pyNext it) (fun r s₁=>match r with
   | none=>R (.ok .next) s₁
   | some v=>wpAny (model prog w) A (letOwnedTupleGo target it v) (fun _ s₁=>wpAny (model prog w) A (assign target env v) (fun _ s₂ =>
     wpAny (model prog w) A (forIn ifs true fun c r=>if r = true then do let ok ← isTrue c env (eval c env); pure (ForInStep.yield ok) else pure (ForInStep.yield r)) (fun ok s₃ =>
      if ok = true then wpAny (model prog w) A (eval elt env) (fun x s₄ =>
       wpAny (model prog w) A (call (.builtin "list.append") [acc,x]) (fun _ s₅=>∃ m,m < n∧I m s₅) (notedBy (model prog w) A env fun e s'=>R (.error e) s') s₄) (notedBy (model prog w) A env fun e s'=>R (.error e) s') s₃
      else ∃ m,m < n∧I m s₃) (notedBy (model prog w) A env fun e s'=>R (.error e) s') s₂) (notedBy (model prog w) A env fun e s'=>R (.error e) s') s₁) (notedBy (model prog w) A env fun e s'=>R (.error e) s') s₁) (notedBy (model prog w) A env fun e s'=>R (.error e) s') s)
  (n:Nat) (h:I n s) :
  codeAny (model prog w) A (.compLoop (.ListComp elt [⟨target,iter,ifs,0⟩] scope pos) 0 it acc env) R s:=by
 refine codeAny_loop rfl I (fun n s hI=>?_) n h
 show wpAny _ A ((compTurn (.ListComp elt [⟨target,iter,ifs,0⟩] scope pos) 0 it acc env).onRaise (fun x=>do noteFrame x env; theTreesLotGoes x)) _ _ s
 refine wpAny_noted ?_
 rw [Zig]
 refine wpAny_bind (wpAny_standAt (wpAny_bind (wpAny_mono (turn n s hI) (fun r s₁ h₁=>?_) fun _ _ h'=>h')))
 cases r with
 | none=>exact wpAny_pure h₁
 | some v =>
  refine wpAny_bind (wpAny_mono h₁ (fun _ s₂ h₂=>?_) fun _ _ h'=>h')
  refine wpAny_bind (wpAny_mono h₂ (fun _ s₂ h₂=>wpAny_bind (wpAny_mono h₂ (fun ok s₃ h₃=>?_) fun _ _ h'=>h')) fun _ _ h'=>h')
  cases ok with
  | false=>exact wpAny_pure ⟨rfl,h₃⟩
  | true =>
   exact wpAny_bind (wpAny_bind (wpAny_mono h₃ (fun x s₄ h₄=>wpAny_bind (wpAny_mono h₄ (fun _ s₅ h₅=>wpAny_pure (wpAny_pure ⟨rfl,h₅⟩)) fun _ _ h'=>h')) fun _ _ h'=>h'))
noncomputable def Zib (env:Env):List (Str × NameKind)→List (Str × Addr)→List (Str × Addr)
 | [],acc=>acc
 | (n,k) :: r,acc=>if k == .free then Zib env r ((n,(env.cells.lookup n).getD 0) :: acc) else Zib env r acc
theorem Zke {env:Env}:∀ (names:List (Str × NameKind)) (acc:List (Str × Addr)),(∀ y ∈ names,y.2 = .free→∃ c,env.cells.lookup y.1 = some c) →
  (forIn names acc (fun (y:Str × NameKind) cs=>(if y.2 == .free then (cellOf env y.1 >>= fun c=>pure (ForInStep.yield ((y.1,c) :: cs))) else pure (ForInStep.yield cs):Sem (ForInStep (List (Str × Addr)))))) = pure (Zib env names acc)
 | [],acc,_=>by rw [List.forIn_nil]; rfl
 | (n,k) :: r,acc,h=>by
  by_cases hk:k = .free
  ·subst hk
   obtain ⟨c,hc⟩:=h (n,.free) (.head _) rfl
   have hc':env.cells.lookup n = some c:=hc
   have e:=Zke (env:=env) r ((n,c) :: acc) fun y hy=>h y (.tail _ hy)
   have ec:cellOf env n = pure c:=by
    unfold cellOf
    rw [hc']
   rw [List.forIn_cons]
   simp only [beq_self_eq_true,if_true]
   rw [ec]
   simp only [Zib,beq_self_eq_true,if_true,hc',Option.getD_some]
   exact e
  ·have e:=Zke (env:=env) r acc fun y hy=>h y (.tail _ hy)
   have hb:(k == NameKind.free) = false:=by simpa using hk
   rw [List.forIn_cons]
   simp only [Zib,hb,Bool.false_eq_true,if_false]
   exact e
theorem Zfh {scope:Scope} {env:Env} (h:∀ y ∈ scope.names,y.2 = .free→∃ c,env.cells.lookup y.1 = some c):closureFor scope env = pure (Zib env scope.names []):=by
 have e:=Zke scope.names [] h
 have e':(forIn scope.names ([]:List (Str × Addr)) (fun (y:Str × NameKind) cs=>(match y with | (name,kind)=>do
   if kind == .free then do let a ← cellOf env name; pure (ForInStep.yield ((name,a) :: cs)) else pure (ForInStep.yield cs):Sem (ForInStep (List (Str × Addr)))))) = pure (Zib env scope.names []):=e
 exact congrArg (fun (m:Sem (List (Str × Addr)))=>m >>= fun x=>pure x) e'
theorem Zjc {env:Env}:∀ (names:List (Str × NameKind)) (acc:List (Str × Addr)),(∀ y ∈ names,y.2 = .free→∃ c,env.cells.lookup y.1 = some c) →
  ∀ n c,(n,c) ∈ Zib env names acc→(n,c) ∈ acc∨((n,NameKind.free) ∈ names∧env.cells.lookup n = some c)
 | [],acc,_,n,c,h=>.inl h
 | (m,k) :: r,acc,h,n,c,hm=>by
  by_cases hk:k = .free
  ·subst hk
   obtain ⟨d,hd⟩:=h (m,.free) (.head _) rfl
   have hd':env.cells.lookup m = some d:=hd
   simp only [Zib,beq_self_eq_true,if_true,hd',Option.getD_some] at hm
   rcases Zjc r _ (fun y hy=>h y (.tail _ hy)) n c hm with z | ⟨z1,z2⟩
   ·rcases List.mem_cons.mp z with z | z
    ·cases z; exact .inr ⟨.head _,hd'⟩
    ·exact .inl z
   ·exact .inr ⟨.tail _ z1,z2⟩
  ·have hb:(k == NameKind.free) = false:=by simpa using hk
   simp only [Zib,hb,Bool.false_eq_true,if_false] at hm
   refine (Zjc r _ (fun y hy=>h y (.tail _ hy)) n c hm).imp id fun qz9=>?_
   obtain ⟨z1,z2⟩:=qz9
   exact ⟨.tail _ z1,z2⟩
theorem Zjw {env:Env}:∀ (names:List (Str × NameKind)) (acc:List (Str × Addr)),∀ p ∈ acc,p ∈ Zib env names acc
 | [],_,_,h=>h
 | (m,k) :: r,acc,p,h=>by
  unfold Zib
  split
  ·exact Zjw r _ p (.tail _ h)
  ·exact Zjw r _ p h
theorem Zjx {env:Env}:∀ (names:List (Str × NameKind)) (acc:List (Str × Addr)) (n:Str),(n,NameKind.free) ∈ names→∃ c,(n,c) ∈ Zib env names acc
 | [],_,_,h=>nomatch h
 | (m,k) :: r,acc,n,h=>by
  rcases List.mem_cons.mp h with z | z
  ·cases z
   exact ⟨_,by
    simp only [Zib,beq_self_eq_true,if_true]
    exact Zjw _ _ _ (.head _)⟩
  ·unfold Zib
   split
   ·exact Zjx r _ n z
   ·exact Zjx r _ n z
theorem Zgh {env:Env} (inj:∀ x y c,env.cells.lookup x = some c→env.cells.lookup y = some c→x = y):∀ (names:List (Str × NameKind)) (acc:List (Str × Addr)),
  (∀ y ∈ names,y.2 = .free→∃ c,env.cells.lookup y.1 = some c)→(names.map (·.1)).Nodup→(∀ p ∈ acc,env.cells.lookup p.1 = some p.2)→(∀ p ∈ acc,p.1 ∉ names.map (·.1))→(acc.Pairwise fun x y=>x.2 ≠ y.2) →
  (Zib env names acc).Pairwise fun x y=>x.2 ≠ y.2
 | [],_,_,_,_,_,h=>h
 | (m,k) :: r,acc,hf,hn,ha,hd,hp=>by
  rw [List.map_cons,List.nodup_cons] at hn
  have hf':∀ y ∈ r,y.2 = .free→∃ c,env.cells.lookup y.1 = some c:=fun y hy=>hf y (.tail _ hy)
  have hd':∀ p ∈ acc,p.1 ∉ r.map (·.1):=fun p hp z=>hd p hp (by rw [List.map_cons]; exact .tail _ z)
  by_cases hk:k = .free
  ·subst hk
   obtain ⟨d,hd0⟩:=hf (m,.free) (.head _) rfl
   have hd1:env.cells.lookup m = some d:=hd0
   simp only [Zib,beq_self_eq_true,if_true,hd1,Option.getD_some]
   refine Zgh inj r _ hf' hn.2 (fun p hp'=>?_) (fun p hp'=>?_) (List.pairwise_cons.mpr ⟨fun p hp' z=>?_,hp⟩)
   ·rcases List.mem_cons.mp hp' with rfl | hp'
    ·exact hd1
    ·exact ha p hp'
   ·rcases List.mem_cons.mp hp' with rfl | hp'
    ·exact hn.1
    ·exact hd' p hp'
   ·have e:m = p.1:=inj m p.1 d hd1 (by rw [ha p hp',← z])
    exact hd p hp' (by rw [List.map_cons,← e]; exact .head _)
  ·have hb:(k == NameKind.free) = false:=by simpa using hk
   simp only [Zib,hb,Bool.false_eq_true,if_false]
   exact Zgh inj r _ hf' hn.2 ha hd' hp
structure Zpe (h:Heap) (lo:Nat) (names:List (Str × NameKind)) (acc cs:List (Str × Addr)):Prop where
 mem:∀ n c,(n,c) ∈ cs→(n,c) ∈ acc∨(h.IsCell c none∧lo ≤ c∧(n,NameKind.cell) ∈ names)
 has:∀ n,(n,NameKind.cell) ∈ names→∃ c,(n,c) ∈ cs
 old:∀ p ∈ acc,p ∈ cs
theorem Zgd:∀ (names:List (Str × NameKind)) (h:Heap) (lo:Nat) (acc:List (Str × Addr)),lo ≤ h.objs.size→Zpe (pushCells h names) lo names acc (cellsFrom h.objs.size names acc)
 | [],_,_,_,_=>⟨fun _ _ m=>.inl m,(fun _ m=>nomatch m),fun _ m=>m⟩
 | (name,kind) :: r,h,lo,acc,hlo=>by
  by_cases hk:(kind == NameKind.cell) = true
  ·have ek:kind = .cell:=by simpa using hk
   subst ek
   have ih:=Zgd r (h.push { cls:=.type "cell", data:=.cell none }) lo ((name,h.objs.size) :: acc) (by rw [Heap.size_push]; omega)
   rw [Heap.size_push] at ih
   have e1:cellsFrom h.objs.size ((name,.cell) :: r) acc = cellsFrom (h.objs.size + 1) r ((name,h.objs.size) :: acc):=by
    rw [cellsFrom,if_pos hk]
   have e2:pushCells h ((name,.cell) :: r) = pushCells (h.push { cls:=.type "cell", data:=.cell none }) r:=by
    rw [pushCells,if_pos hk]
   rw [e1,e2]
   refine ⟨fun n c m=>?_,fun n m=>?_,fun p m=>ih.old p (.tail _ m)⟩
   ·rcases ih.mem n c m with z | ⟨z1,z2,z3⟩
    ·rcases List.mem_cons.mp z with z | z
     ·cases z
      exact .inr ⟨⟨_,pushCells_keeps _ _ _ _ (Heap.get?_push_size _ rfl),rfl⟩,hlo,.head _⟩
     ·exact .inl z
    ·exact .inr ⟨z1,z2,.tail _ z3⟩
   ·rcases List.mem_cons.mp m with z | z
    ·cases z
     exact ⟨_,ih.old _ (.head _)⟩
    ·exact ih.has n z
  ·have ih:=Zgd r h lo acc hlo
   have e1:cellsFrom h.objs.size ((name,kind) :: r) acc = cellsFrom h.objs.size r acc:=by
    rw [cellsFrom,if_neg hk]
   have e2:pushCells h ((name,kind) :: r) = pushCells h r:=by
    rw [pushCells,if_neg hk]
   rw [e1,e2]
   refine ⟨fun n c m=>(ih.mem n c m).imp id fun ⟨z1,z2,z3⟩=>⟨z1,z2,.tail _ z3⟩,fun n m=>?_,ih.old⟩
   rcases List.mem_cons.mp m with z | z
   ·cases z
    exact absurd rfl hk
   ·exact ih.has n z
theorem Zhq (names:List (Str × NameKind)):∀ (h:Heap) (acc:List (Str × Addr)),(acc.Pairwise fun x y=>x.2 ≠ y.2)→(∀ p ∈ acc,p.2 < h.objs.size)→(cellsFrom h.objs.size names acc).Pairwise fun x y=>x.2 ≠ y.2:=by
 induction names with
 | nil=>intro h acc ha _; exact ha
 | cons y r ih =>
  intro h acc ha hb
  obtain ⟨name,kind⟩:=y
  unfold cellsFrom
  split
  ·have:=ih (h.push { cls:=.type "cell", data:=.cell none }) ((name,h.objs.size) :: acc) (List.pairwise_cons.mpr ⟨fun p hp=>Nat.ne_of_gt (hb p hp),ha⟩) (fun p hp=>by
    rw [Heap.size_push]
    rcases List.mem_cons.mp hp with rfl | hp
    ·exact Nat.lt_succ_self _
    ·exact Nat.lt_succ_of_lt (hb p hp))
   rwa [Heap.size_push] at this
  ·exact ih h acc ha hb
theorem Zid {M:Model} {A:Around} {E:Value→Shared→Prop} {s:Shared} {scope:Scope} {globals:Addr} {cl:List (Str × Addr)} {qual:Str} {env:Env} {Q:Env→Shared→Prop}
  (hQ:Q (newEnv scope s.heap.objs.size globals (cellsFrom (s.heap.objs.size + 1) scope.names cl) qual none .none (some env) builtinsNs)
   { s with heap:=pushCells (s.heap.push { cls:=.type "dict", data:=.dict #[] }) scope.names }) :
  wpAny M A (newFunctionEnv scope globals cl [] qual none .none (some env)) Q E s:=by
 simp only [newFunctionEnv,Option.isSome_some,if_true]
 refine wpAny_bind (wpAny_alloc ?_)
 refine wpAny_bind (wpAny_layCells _ (fun name kind cells=>by cases hkc:kind == NameKind.cell <;> simp [hkc]) _ _ _ _ ?_)
 rw [show ({ s with heap:=s.heap.push { cls:=.type "dict", data:=.dict #[] } }:Shared).heap.objs.size = s.heap.objs.size + 1 from Heap.size_push ..]
 rw [List.forIn_nil]
 exact wpAny_bind (wpAny_pure (wpAny_pure hQ))
end L2
namespace L2
open PySem PySem.Spec PyProof.Rows
noncomputable def Jm (X:Cx) (N':List Str) (sc:Scope) (C:Addr) (cells:List (Str × Addr)) (s₂:Shared) (H₂:Hp) (fp:List Addr):Cx :=
 { X with N:=N',s₀:=s₂,H₀:=H₂,env:=compEnvC sc cells C X.env,outer:=X.stack,stack:=X.stack,ex:=fp,fn:=fun x=>sc.names.lookup x == some .cell,pn:=[],xe:=fun _ _=>False }
theorem Zfi {env:Env}:∀ {names:List (Str × NameKind)} {x:Str} {k:NameKind},names.lookup x = some k →
  (names.map fun (n,k)=>if (k == NameKind.free && env.scope.kind == .function && env.kindOf n == some .cell) then (n,NameKind.cell) else (n,k)).lookup x =
   some (if (k == NameKind.free && env.scope.kind == .function && env.kindOf x == some .cell) then NameKind.cell else k)
 | [],_,_,h=>by simp at h
 | (n,k') :: r,x,k,h=>by
  have ih:=@Zfi env r x k
  show List.lookup x ((if (k' == NameKind.free && env.scope.kind == .function && env.kindOf n == some .cell) = true then (n,NameKind.cell) else (n,k')) :: _) = _
  cases hx:x == n with
  | true =>
   simp only [List.lookup_cons,hx] at h
   cases h
   have e:=beq_iff_eq.mp hx
   subst e
   split <;> simp [List.lookup_cons]
  | false =>
   simp only [List.lookup_cons,hx] at h
   split
   ·simp only [List.lookup_cons,hx]; exact ih h
   ·simp only [List.lookup_cons,hx]; exact ih h
theorem Zgq {env:Env}:∀ {names:List (Str × NameKind)} {x:Str},names.lookup x = none →
  (names.map fun (n,k)=>if (k == NameKind.free && env.scope.kind == .function && env.kindOf n == some .cell) then (n,NameKind.cell) else (n,k)).lookup x = none
 | [],_,_=>rfl
 | (n,k') :: r,x,h=>by
  have ih:=@Zgq env r x
  show List.lookup x ((if (k' == NameKind.free && env.scope.kind == .function && env.kindOf n == some .cell) = true then (n,NameKind.cell) else (n,k')) :: _) = _
  cases hx:x == n with
  | true =>
   simp only [List.lookup_cons,hx] at h
   cases h
  | false =>
   simp only [List.lookup_cons,hx] at h
   split
   ·simp only [List.lookup_cons,hx]; exact ih h
   ·simp only [List.lookup_cons,hx]; exact ih h
theorem Zf5 {α:Type}:∀ {l:List (Str × α)} {n:Str} {c:α},(l.map (·.1)).Nodup→(n,c) ∈ l→l.lookup n = some c
 | (k,v) :: r,n,c,hd,h=>by
  rw [List.map_cons,List.nodup_cons] at hd
  rcases List.mem_cons.mp h with e | hr
  ·cases e
   simp [List.lookup_cons]
  ·have hne:(n == k) = false:=by
    refine Bool.eq_false_iff.mpr fun z=>hd.1 ?_
    have e:n = k:=beq_iff_eq.mp z
    rw [← e]
    exact List.mem_map.mpr ⟨(n,c),hr,rfl⟩
   rw [List.lookup_cons,hne]
   exact Zf5 hd.2 hr
theorem Wx {α:Type}:∀ {l:List (Str × α)} {n:Str} {c:α},(n,c) ∈ l→∃ d,l.lookup n = some d∧(n,d) ∈ l
 | (k,v) :: r,n,c,h=>by
  by_cases e:n = k
  ·subst e
   exact ⟨v,by simp [List.lookup_cons],List.mem_cons_self⟩
  ·have hne:(n == k) = false:=by simpa using e
   rcases List.mem_cons.mp h with z | z
   ·cases z; exact absurd rfl e
   ·obtain ⟨d,h1,h2⟩:=Wx z
    exact ⟨d,by rw [List.lookup_cons,hne]; exact h1,.tail _ h2⟩
structure CompScope (X:Cx) (own:List Str) (caps:List Nat) (N':List Str) (sc:Scope):Prop where
 kind:sc.kind = .function
 nd:N'.Nodup
 names:N' = own ++ caps.map fun i=>X.N.getD i Str.empty
 nn:(sc.names.map (·.1)).Nodup
 free:(sc.names.all fun y=>y.2 != .free || (X.env.kindOf y.1 == some .cell || X.env.kindOf y.1 == some .free)) = true
 caps:(caps.all fun i=>sc.names.lookup (X.N.getD i Str.empty) == some .free) = true
noncomputable def Zan (own:List Str) (caps:List Nat) (σ:St):St:=own.map (fun _=>none) ++ caps.map fun i=>(σ[i]?).getD none
section
variable {X:Cx} {own:List Str} {caps:List Nat} {N':List Str} {sc:Scope}
theorem CompScope.lk (S:CompScope X own caps N' sc) {n:Str} {k:NameKind} (h:(n,k) ∈ sc.names):sc.names.lookup n = some k:=Zf5 S.nn h
theorem CompScope.fr (S:CompScope X own caps N' sc) {n:Str} (h:(n,NameKind.free) ∈ sc.names):X.env.kindOf n = some .cell∨X.env.kindOf n = some .free:=by
 have:=List.all_eq_true.mp S.free _ h
 simpa using this
theorem Zpc {pins:List (Addr × Obj)} {σ:St} {H:Hp} {s:Shared} {fp:List Addr} {cl:List (Str × Addr)} (S:CompScope X own caps N' sc) (I:Inv X pins σ H s)
  (f:∀ b ∈ fp,Zju X pins H b) (fo:∀ b ∈ fp,∃ o,s.heap.get? b = some o)
  (hcl:∀ n c,(n,c) ∈ cl→(n,NameKind.free) ∈ sc.names∧X.env.cells.lookup n = some c) (hcl2:∀ n,(n,NameKind.free) ∈ sc.names→∃ c,(n,c) ∈ cl) (hapart:cl.Pairwise fun x y=>x.2 ≠ y.2) :
  Inv (Jm X N' sc (s.heap.objs.size + 1) (cellsFrom (s.heap.objs.size + 2) sc.names cl) s H fp) [] (Zan own caps σ) (upd H s.heap.objs.size (.lst []))
   { s with heap:=pushCells ((s.heap.push { cls:=.type "list", data:=.seq #[] }).push { cls:=.type "dict", data:=.dict #[] }) sc.names }:=by
 generalize hh1:s.heap.push { cls:=.type "list", data:=.seq #[] } = h1
 have z1:h1.objs.size = s.heap.objs.size + 1:=by rw [← hh1,Heap.size_push]
 generalize hh2:h1.push { cls:=.type "dict", data:=.dict #[] } = h2
 have z2:h2.objs.size = s.heap.objs.size + 2:=by rw [← hh2,Heap.size_push,z1]
 have BC:=Zgd sc.names h2 (s.heap.objs.size + 2) cl (by omega)
 have AP:=Zhq sc.names h2 cl hapart (fun p hp=>by
  obtain ⟨v,hv⟩:=I.cell p.1 p.2 (hcl p.1 p.2 hp).2
  exact Nat.lt_of_lt_of_le hv.lt (by omega))
 rw [z2] at BC AP
 have keep:∀ b o,s.heap.get? b = some o→(pushCells h2 sc.names).get? b = some o:=fun b o e=>pushCells_keeps _ _ _ _ (by
  rw [← hh2]
  refine Heap.get?_push_of_some _ ?_
  rw [← hh1]
  exact Heap.get?_push_of_some _ e)
 have hD:(pushCells h2 sc.names).get? s.heap.objs.size = some { cls:=.type "list", data:=.seq #[] }:=pushCells_keeps _ _ _ _ (by
  rw [← hh2]
  refine Heap.get?_push_of_some _ ?_
  rw [← hh1]
  exact Heap.get?_push_size _ rfl)
 have hC:(pushCells h2 sc.names).Ns (s.heap.objs.size + 1) (fun _=>none):=by
  refine Heap.Ns.keeps ?_ (pushCells_keeps _ _)
  have:=Heap.Ns.new h1 (.type "dict")
  rw [hh2,z1] at this
  exact this
 have cellOld:∀ n c,X.env.cells.lookup n = some c→c < s.heap.objs.size:=fun n c e=>by
  obtain ⟨v,hv⟩:=I.cell n c e
  exact hv.lt
 have lk':∀ n c,(cellsFrom (s.heap.objs.size + 2) sc.names cl).lookup n = some c→(n,c) ∈ cellsFrom (s.heap.objs.size + 2) sc.names cl:=fun n c e=>PySem.mem_of_lookup e
 have hnD:H s.heap.objs.size = none:=I.fresh
 have fresh:∀ c,s.heap.objs.size < c→upd H s.heap.objs.size (.lst []) c = none:=fun c hc=>by
  rw [Yq (Nat.ne_of_gt hc)]
  exact I.hok.fresh (Nat.le_of_lt hc)
 have isc:∀ n c,(n,c) ∈ cellsFrom (s.heap.objs.size + 2) sc.names cl→∃ v,(pushCells h2 sc.names).IsCell c v:=fun n c m=>by
  rcases BC.mem n c m with z | ⟨z,_⟩
  ·obtain ⟨v,hv⟩:=I.cell n c (hcl n c z).2
   exact ⟨v,hv.keeps keep⟩
  ·exact ⟨none,z⟩
 have okH:HOk X.prog X.w (upd H s.heap.objs.size (.lst [])) (pushCells h2 sc.names):=by
  refine I.hok.laid keep (Nat.le_refl _) ?_
  exact ⟨Nat.zero_le _,[],0,.nil,hD⟩
 have kinds:∀ x k,sc.names.lookup x = some k→(relabel sc X.env).names.lookup x = some (if (k == NameKind.free && X.env.scope.kind == .function && X.env.kindOf x == some .cell) then NameKind.cell else k):=fun x k e=>Zfi e
 have kindsR:∀ x k,(relabel sc X.env).names.lookup x = some k→∃ k',(x,k') ∈ sc.names∧k = (if (k' == NameKind.free && X.env.scope.kind == .function && X.env.kindOf x == some .cell) then NameKind.cell else k'):=fun x k e=>by
  cases q:sc.names.lookup x with
  | none =>
   have:=Zgq (env:=X.env) q
   rw [show (relabel sc X.env).names.lookup x = _ from this] at e
   cases e
  | some k' =>
   refine ⟨k',PySem.mem_of_lookup q,?_⟩
   rw [kinds x k' q] at e
   exact (Option.some.inj e).symm
 refine ⟨⟨I.ok.mod,S.kind,I.ok.glob,I.ok.blt,?_,?_,?_,?_,I.ok.hd,I.ok.frames,.inl rfl,?_,?_,?_,?_,?_,?_,?_⟩,rfl,I.bare,?_,?_,?_,?_,?_,(fun p hp=>nomatch hp),okH,?_⟩
 ·show s.heap.objs.size ≤ s.heap.objs.size + 1; omega
 ·intro x y c e1 e2
  exact name_of_addr AP (lk' x c e1) (lk' y c e2)
 ·intro x hx
  rcases hx with hx | hx
  ·obtain ⟨k',hm,hk'⟩:=kindsR x _ hx
   cases k' with
   | cell =>
    obtain ⟨c,hc⟩:=BC.has x hm
    obtain ⟨d,h1,_⟩:=Wx hc
    exact ⟨d,h1⟩
   | free =>
    obtain ⟨c,hc⟩:=hcl2 _ hm
    obtain ⟨d,h1,_⟩:=Wx (BC.old _ hc)
    exact ⟨d,h1⟩
   | _=>simp at hk'
  ·obtain ⟨k',hm,hk'⟩:=kindsR x _ hx
   cases k' with
   | free =>
    obtain ⟨c,hc⟩:=hcl2 _ hm
    obtain ⟨d,h1,_⟩:=Wx (BC.old _ hc)
    exact ⟨d,h1⟩
   | _=>simp at hk'
 ·intro x c hf e
  have hf':sc.names.lookup x = some .cell:=by simpa [Jm] using hf
  rcases BC.mem x c (lk' x c e) with z | ⟨_,z,_⟩
  ·-- a free one and a cell at once: the name stands once
   exfalso
   have q:=S.lk (hcl x c z).1
   rw [hf'] at q
   cases q
  ·show s.heap.objs.size ≤ c; omega
 ·intro b hb
  obtain ⟨o,ho⟩:=fo b hb
  have hlt:=Heap.lt_size ho
  refine ⟨Nat.ne_of_lt (Nat.lt_trans hlt (Nat.lt_succ_self _)),fun x c e z=>?_⟩
  rcases BC.mem x c (lk' x c e) with q | ⟨_,q,_⟩
  ·exact (f b hb).2.2.2.2.1 x c (hcl x c q).2 z
  ·subst z
   exact absurd hlt (Nat.not_lt.mpr (Nat.le_trans (Nat.le_add_right _ 2) q))
 ·exact I.bs
 ·exact Nat.le_trans I.ok.bsz I.sz
 ·intro b o e hb
  rcases (f b hb).2.2.2.1 with z | z
  ·exact I.ok.noex b o e z
  ·exact absurd (Nat.lt_of_lt_of_le (Heap.lt_size e) I.ok.bsz) (Nat.not_lt.mpr z)
 ·intro b hb z
  rcases List.mem_cons.mp (I.stkSub b z) with q | q
  ·exact (f b hb).2.1 q
  ·exact (f b hb).2.2.1 q
 ·exact I.stack
 ·exact I.stkFree
 ·exact Un.laid keep (Nat.le_refl _) hnD
 ·refine ⟨_,hC,fun i x v e1 e2 e3=>?_⟩
  have e1':(own ++ caps.map fun i=>X.N.getD i Str.empty)[i]? = some x:=by rw [← S.names]; exact e1
  have e2':(own.map (fun _=>(none:Option V)) ++ caps.map fun i=>(σ[i]?).getD none)[i]? = some (some v):=e2
  by_cases hi:i < own.length
  ·rw [List.getElem?_append_left (by simpa using hi),List.getElem?_map] at e2'
   cases q:own[i]? with
   | none=>rw [q] at e2'; cases e2'
   | some y=>rw [q] at e2'; cases e2'
  ·rw [List.getElem?_append_right (by simpa using hi),List.getElem?_map] at e2'
   rw [List.getElem?_append_right (by omega),List.getElem?_map] at e1'
   rw [List.length_map] at e2'
   cases q:caps[i - own.length]? with
   | none=>rw [q] at e2'; cases e2'
   | some j =>
    rw [q] at e1' e2'
    have e1:X.N.getD j Str.empty = x:=Option.some.inj e1'
    have e2:(σ[j]?).getD none = some v:=Option.some.inj e2'
    have e4:σ[j]? = some (some v):=by
     cases r:σ[j]? with
     | none=>rw [r] at e2; cases e2
     | some o=>rw [r] at e2; exact congrArg some e2
    have hj:j < X.N.length:=by rw [← I.len]; exact (List.getElem?_eq_some_iff.mp e4).1
    have e5:X.N[j]? = some x:=by rw [← e1]; simp [List.getD_eq_getElem?_getD,hj]
    have hc:=List.all_eq_true.mp S.caps j (List.mem_of_getElem? q)
    have e6:sc.names.lookup x = some .free:=by rw [← e1]; simpa using hc
    have hm:=PySem.mem_of_lookup e6
    have kx:=S.fr hm
    obtain ⟨m,hn,hl⟩:=I.loc
    obtain ⟨u,ru,lo⟩:=hl j x v e5 e4 (by rcases kx with z | z; exact .inr (.inl z); exact .inr (.inr z))
    refine ⟨u,ru,.inr ⟨?_,?_⟩⟩
    ·have:=kinds x _ e6
     show (relabel sc X.env).names.lookup x = _∨(relabel sc X.env).names.lookup x = _
     rw [this]
     split
     ·exact .inl rfl
     ·exact .inr rfl
    ·rcases lo with ⟨z,_⟩ | ⟨_,c,hc1,hc2⟩
     ·rcases kx with w | w <;> (rw [w] at z; cases z)
     ·obtain ⟨d,hd⟩:=hcl2 x hm
      obtain ⟨d',h1,h2⟩:=Wx (BC.old _ hd)
      refine ⟨d',h1,?_⟩
      rcases BC.mem x d' h2 with w | ⟨_,_,w⟩
      ·have w':=(hcl x d' w).2
       rw [hc1] at w'
       cases w'
       exact hc2.keeps keep
      ·have:=S.lk w
       rw [e6] at this
       cases this
 ·intro x c e
  exact isc x c (lk' x c e)
 ·exact fresh _ (Nat.lt_succ_self _)
 ·intro x c e
  rcases BC.mem x c (lk' x c e) with z | ⟨_,z,_⟩
  ·have e':=(hcl x c z).2
   have hlt:=cellOld x c e'
   rw [Yq (Nat.ne_of_lt hlt)]
   exact I.freeC x c e'
  ·exact fresh c (by omega)
 ·show (Zan own caps σ).length = N'.length
  rw [S.names]
  unfold Zan
  simp
end
end L2
namespace L2
open PySem PySem.Spec PyProof.Rows
noncomputable def Zy1 (J:It) (g:TG) (tt:TT) (te:TE) (σ0:St) (D:Addr) (Q:Hp→Prop) (H1:Hp):Prop :=
 ∃ W:Nat→Nat→St→Hp→Prop,(∃ m,W 0 m σ0 (upd H1 D (.lst [])))∧∀ i m σ' H',W i m σ' H' →
  (J.stop i H'∧Q H')∨(J.go i H'∧∀ x H2,J.yld i H' x H2→g x σ' H2 fun σ2 H3=>tt σ2 H3 fun b H4 =>
   if b = true then te σ2 H4 fun y H5=>∃ ys,H5 D = some (.lst ys)∧ys.length < sizeLine∧∃ m',m' < m∧W (i + 1) m' σ2 (upd H5 D (.lst (ys ++ [y])))
   else ∃ m',m' < m∧W (i + 1) m' σ2 H4)
noncomputable def Zt6 (own:List Str) (caps:List Nat) (wi:TI) (g:TG) (tt:TT) (te:TE):TE:=fun σ H Q=>wi σ H fun J H1=>∀ D,H1 D = none→Zy1 J g tt te (Zan own caps σ) D (Q (.ref D)) H1
noncomputable def Z4u:TT:=fun _ H Q=>Q true H
noncomputable def Zz7 (X:Cx) (ifs:List Expr) (t:TT):Prop :=
 ∀ (pins:List (Addr × Obj)) (s:Shared) (σ:St) (H:Hp) (Q:Bool→Hp→Prop),Inv X pins σ H s→t σ H Q →
  wpAny (model X.prog X.w) X.A (forIn ifs true fun c r=>if r = true then do let ok ← isTrue c X.env (eval c X.env); pure (ForInStep.yield ok) else pure (ForInStep.yield r)) (TP X pins σ Q) X.xe s
theorem Zxj {X:Cx}:Zz7 X [] Z4u:=fun pins s σ H Q I h=>by
 rw [List.forIn_nil]
 exact wpAny_pure ⟨H,I,h⟩
theorem Zy8 {M:Model} {A:Around} {α:Type} {t:Sem α} {Q Q':α→Shared→Prop} {E:Value→Shared→Prop} {s:Shared} (h:wpAny M A t Q (fun _ _=>False) s) (hQ:∀ a s,Q a s→Q' a s):wpAny M A t Q' E s :=
 wpAny_mono h hQ fun _ _ z=>z.elim
section
variable {X:Cx} {own:List Str} {caps:List Nat} {N':List Str} {sc:Scope} {tg elt iter:Expr} {ifs:List Expr} {pos:Pos} {wi:TI} {g:TG} {tt:TT} {te:TE}
theorem Znz {pins p':List (Addr × Obj)} {σ σ':St} {H H':Hp} {s s':Shared} {fp:List Addr} {C:Addr} {cells:List (Str × Addr)} {h':Heap} (I:Inv X pins σ H s) (f:∀ b ∈ fp,Zju X pins H b)
  (I':Inv (Jm X N' sc C cells s H fp) p' σ' H' s') (hs:Heap.SameBut C s'.heap h'):Inv X pins σ H' { s' with heap:=h' }:=by
 have hC:s.heap.objs.size ≤ C:=I'.ok.above
 have B:=I'.base
 have ne:∀ b o,s.heap.get? b = some o→b ≠ C:=fun b o e=>Nat.ne_of_lt (Nat.lt_of_lt_of_le (Heap.lt_size e) hC)
 obtain ⟨m,⟨oC,_,_,hoC,_⟩,_⟩:=I'.loc
 refine I.call' (ch:=fp) (s':={ s' with heap:=h' }) I'.os ⟨fun b o e n hb hx=>?_,fun b o e n hb hx=>?_,B.free,fun b o e hx=>?_,B.tups,B.frzs,B.tbls⟩ (fun b ob e=>?_) I'.bare fun b hb=>?_
 ·exact (hs.2 b (ne b o e)).trans (B.keep b o e n hb hx)
 ·obtain ⟨sl,q⟩:=B.slot b o e n hb hx
  exact ⟨sl,(hs.2 b (ne b o e)).trans q⟩
 ·obtain ⟨o',q⟩:=B.there b o e hx
  exact ⟨o',(hs.2 b (ne b o e)).trans q⟩
 ·have hfree:H' C = none:=I'.free
  refine (I'.hok b ob e).stay (fun c w' hc q=>(hs.2 c ?_).trans q) (fun _ q=>q) fun _ _ q=>q
  rintro rfl
  rcases hc with rfl | hc
  ·rw [hfree] at e; cases e
  ·rw [hfree] at hc; cases hc
 ·obtain ⟨_,f1,_,f3,f4,f5⟩:=f b hb
  exact ⟨f3,f1,f4,f5⟩
theorem Zir {Qf:Result→Shared→Prop} (S:CompScope X own caps N' sc) (hc:X.calm = true)
  (hg:∀ C cells s₂ H₂ fp,PG (Jm X N' sc C cells s₂ H₂ fp) tg g) (ht:∀ C cells s₂ H₂ fp,Zz7 (Jm X N' sc C cells s₂ H₂ fp) ifs tt) (he:∀ C cells s₂ H₂ fp,PE (Jm X N' sc C cells s₂ H₂ fp) elt te)
  {pins:List (Addr × Obj)} {σ:St} {H:Hp} {s:Shared} {fp:List Addr} {it:Addr} {tn:Nat→Heap→Prop} {J:It} {Q:Hp→Prop} (I:Inv X pins σ H s) (T:Turn X.prog X.w X.K tg J fp it tn) (st:tn 0 s.heap) (f:∀ b ∈ fp,Zju X pins H b)
  (h:Zy1 J g tt te (Zan own caps σ) s.heap.objs.size Q H)
  (fin:∀ s' σ' H' p' C cells,Inv (Jm X N' sc C cells s H fp) p' σ' H' s'→C = s.heap.objs.size + 1→Q H'→Qf (.ok .next) s') :
  wpAny (model X.prog X.w) X.A (newFunctionEnv sc X.env.globals (Zib X.env sc.names []) [] X.env.qual none .none (some X.env)) (fun cenv s₄ =>
   cenv.locals = s.heap.objs.size + 1∧codeAny (model X.prog X.w) X.A (.compStart (.ListComp elt [⟨tg,iter,ifs,0⟩] sc pos) 0 (.ref it) (.ref s.heap.objs.size) { cenv with scope:=relabel sc X.env }) Qf s₄) X.xe
    { s with heap:=s.heap.push { cls:=.type "list", data:=.seq #[] } }:=by
 have hf:∀ y ∈ sc.names,y.2 = .free→∃ c,X.env.cells.lookup y.1 = some c:=fun y hy e=>by
  obtain ⟨n,k⟩:=y
  have e':k = .free:=e
  subst e'
  exact I.ok.has n (S.fr hy)
 have hcl:∀ n c,(n,c) ∈ Zib X.env sc.names []→(n,NameKind.free) ∈ sc.names∧X.env.cells.lookup n = some c:=fun n c m=>(Zjc sc.names [] hf n c m).elim (fun z=>nomatch z) id
 have hap:=Zgh I.ok.inj sc.names [] hf S.nn (fun _ z=>nomatch z) (fun _ z=>nomatch z) .nil
 have I0:=Zpc (cl:=Zib X.env sc.names []) S I f (fun b hb=>let ⟨o,e,_⟩:=T.obj _ _ st b hb; ⟨o,e⟩) hcl (fun n m=>Zjx sc.names [] n m) hap
 refine Zid ?_
 rw [show ({ s with heap:=s.heap.push { cls:=.type "list", data:=.seq #[] } }:Shared).heap.objs.size = s.heap.objs.size + 1 from Heap.size_push ..]
 refine ⟨rfl,?_⟩
 dsimp only
 generalize hs0:({ s with heap:=pushCells ((s.heap.push { cls:=.type "list", data:=.seq #[] }).push { cls:=.type "dict", data:=.dict #[] }) sc.names }:Shared) = s0 at I0 ⊢
 have st0:tn 0 s0.heap:=T.keep _ _ _ st fun b hb o e=>by
  rw [← hs0]
  exact pushCells_keeps _ _ _ _ (Heap.get?_push_of_some _ (Heap.get?_push_of_some _ e))
 generalize hcells:cellsFrom (s.heap.objs.size + 1 + 1) sc.names (Zib X.env sc.names []) = cells at I0 ⊢
 -- the loop
 obtain ⟨W,⟨m0,w0⟩,turn⟩:=h
 have loop:codeAny (model X.prog X.w) X.A (.compLoop (.ListComp elt [⟨tg,iter,ifs,0⟩] sc pos) 0 (.ref it) (.ref s.heap.objs.size) (Jm X N' sc (s.heap.objs.size + 1) cells s H fp).env) Qf s0:=by
  generalize hX':Jm X N' sc (s.heap.objs.size + 1) cells s H fp = X' at I0 ⊢
  have hg':=hg (s.heap.objs.size + 1) cells s H fp
  have ht':=ht (s.heap.objs.size + 1) cells s H fp
  have he':=he (s.heap.objs.size + 1) cells s H fp
  have fin':=fun s' σ' H' p' (z:Inv (Jm X N' sc (s.heap.objs.size + 1) cells s H fp) p' σ' H' s')=>fin s' σ' H' p' _ _ z rfl
  rw [hX'] at hg' ht' he' fin'
  have hxe:X'.xe = fun _ _=>False:=by rw [← hX']; rfl
  have hpr:X'.prog = X.prog:=by rw [← hX']; rfl
  have hw:X'.w = X.w:=by rw [← hX']; rfl
  have hK:X'.K = X.K:=by rw [← hX']; rfl
  have hA:X'.A = X.A:=by rw [← hX']; rfl
  have hcm:X'.calm = true:=by rw [← hX']; exact hc
  have hex:X'.ex = fp:=by rw [← hX']; rfl
  have hpn:X'.pn = []:=by rw [← hX']; rfl
  have stat:∀ {H':Hp},(∀ b ∈ fp,H' b = none)→∀ b ∈ fp,Zju X' [] H' b:=fun hn b hb=>by
   have e1:=I0.ok.exf b (by rw [hex]; exact hb)
   have e2:=I0.ok.exfs b (by rw [hex]; exact hb)
   exact ⟨hn b hb,e1.1,e2,.inl (by rw [hex]; exact hb),e1.2,fun p hp=>by rw [hpn] at hp; exact nomatch hp⟩
  have frD:∀ b ∈ fp,(upd H s.heap.objs.size (.lst [])) b = none:=fun b hb=>by
   obtain ⟨o,e,_⟩:=T.obj _ _ st b hb
   rw [Yq (Nat.ne_of_lt (Heap.lt_size e))]
   exact (f b hb).1
  have T':Turn X'.prog X'.w X'.K tg J fp it tn:=by rw [hpr,hw,hK]; exact T
  rw [← hpr,← hw,← hA]
  refine Zkt (fun n s'=>∃ i σ' H',Inv X' [] σ' H' s'∧tn i s'.heap∧(∀ b ∈ fp,H' b = none)∧W i n σ' H') ?_ m0 ⟨0,_,_,I0,st0,frD,w0⟩
  rintro n s3 ⟨i,σ3,H3,I3,st3,fr3,w3⟩
  rcases turn i n σ3 H3 w3 with ⟨stop,qn⟩ | ⟨go,step⟩
  ·refine Zy8 (T'.done X' rfl rfl rfl hcm i [] s3 σ3 H3 _ I3 (stat fr3) st3 stop) fun r s4 qz9=>?_
   obtain ⟨hr,I4⟩:=qz9
   subst hr
   exact fin' s4 σ3 H3 [] I4 qn
  ·refine Zy8 (T'.item X' rfl rfl rfl hcm i [] s3 σ3 H3 _ I3 (stat fr3) st3 go) fun r s4 qz9=>?_
   obtain ⟨u,hr,h4⟩:=qz9
   subst hr
   refine Zy8 h4 fun _ s5 qz9=>?_
   obtain ⟨x,H5,I5,r5,y5,st5,fr5⟩:=qz9
   have I5':=I5.pinned (stat fr5) (T.obj _ _ st5)
   have hgg:=hg' _ s5 σ3 H5 x u _ I5' r5 (step x H5 y5)
   rw [hxe] at hgg
   refine Zy8 hgg fun _ s6 qz9=>?_
   obtain ⟨σ6,H6,I6,q6⟩:=qz9
   have htt:=ht' _ s6 σ6 H6 _ I6 q6
   rw [hxe] at htt
   refine Zy8 htt fun ok s7 qz9=>?_
   obtain ⟨H7,I7,q7⟩:=qz9
   have again:∀ {σ7:St} {H7:Hp} {s7:Shared} {m:Nat},Inv X' ([] ++ Zlb fp s5.heap) σ7 H7 s7→W (i + 1) m σ7 H7→m < n→∃ m,m < n∧∃ i σ' H',Inv X' [] σ' H' s7∧tn i s7.heap∧(∀ b ∈ fp,H' b = none)∧W i m σ' H':=fun {σ7 H7 s7 m} I7 w7 hm=>by
    refine ⟨m,hm,i + 1,σ7,H7,I7.unpinned,T.keep _ _ _ st5 fun b hb o e=>(I7.pin (b,o) (List.mem_append_right _ (List.mem_append_right _ (Zfa hb e)))).1,fun b hb=>?_,w7⟩
    obtain ⟨o,e,d⟩:=T.obj _ _ st5 b hb
    exact (I7.pin (b,o) (List.mem_append_right _ (List.mem_append_right _ (Zfa hb e)))).2.1
   cases ok with
   | false =>
    obtain ⟨m',hm,w7⟩:=q7
    rw [if_neg Bool.false_ne_true]
    exact again I7 w7 hm
   | true =>
    rw [if_pos rfl]
    have hee:=he' _ s7 σ6 H7 _ I7 q7
    rw [hxe] at hee
    refine Zy8 hee fun y s8 qz9=>?_
    obtain ⟨vy,H8,I8,r8,ys,hD,hlen,m',hm,w8⟩:=qz9
    have hap:=Zln (X:=X') _ s8 σ6 H8 (.ref s.heap.objs.size) [vy] (.ref s.heap.objs.size) [y] (fun _ H'=>W (i + 1) m' σ6 H') I8 rfl (.cons r8 .nil) ⟨_,ys,vy,rfl,rfl,hD,hlen,w8⟩
    rw [hxe] at hap
    refine Zy8 hap fun z s9 qz9=>?_
    obtain ⟨_,H9,I9,_,w9⟩:=qz9
    exact again I9 w9 hm
 exact codeAny_compStart_list loop (T.self _ 0 _ _ _ st0 loop)
theorem Zqe (S:CompScope X own caps N' sc) (hc:X.calm = true) (hi:PI X tg iter wi)
  (hg:∀ C cells s₂ H₂ fp,PG (Jm X N' sc C cells s₂ H₂ fp) tg g) (ht:∀ C cells s₂ H₂ fp,Zz7 (Jm X N' sc C cells s₂ H₂ fp) ifs tt) (he:∀ C cells s₂ H₂ fp,PE (Jm X N' sc C cells s₂ H₂ fp) elt te)
  (hs:∀ x,foldedSetIterable iter X.env x = pure x:=by intro _; rfl):PE X (.ListComp elt [⟨tg,iter,ifs,0⟩] sc pos) (Zt6 own caps wi g tt te):=by
 intro pins s σ H Q I h
 rw [eval_ListComp]
 have hf:∀ y ∈ sc.names,y.2 = .free→∃ c,X.env.cells.lookup y.1 = some c:=fun y hy e=>by
  obtain ⟨n,k⟩:=y
  have e':k = .free:=e
  subst e'
  exact I.ok.has n (S.fr hy)
 refine wpAny_comprehension_free (use:=none) rfl hs (Zfh hf) S.kind (fun y hy e=>by obtain ⟨n,k⟩:=y; have e':k = .local:=e; subst e'; exact S.lk hy) ?_
 refine thn (hi pins s σ H _ I h) fun v s1 h1=>thn h1 fun itv s2 h2=>?_
 obtain ⟨it,fp,tn,J,H2,e,I2,T,st2,f2,q⟩:=h2
 subst e
 refine wpAny_newObj_type ?_
 refine thn (Zir (iter:=iter) (pos:=pos) (Qf:=compPost (model X.prog X.w) X.A X.xe none (EP X pins σ Q) (.ref s2.heap.objs.size) (s2.heap.objs.size + 1)) S hc hg ht he I2 T st2 f2 (q s2.heap.objs.size I2.fresh) ?_) fun cenv s4 ⟨hl,hr⟩=>?_
 ·intro s' σ' H' p' C cells I' eC q'
  subst eC
  obtain ⟨m,hn,_⟩:=id I'.loc
  exact ⟨m,hn,fun h' hs'=>⟨.ref s2.heap.objs.size,H',Znz I2 f2 I' hs',rfl,q'⟩⟩
 ·rw [← hl] at hr
  exact hr
end
end L2
namespace L2
open PySem PySem.Spec PyProof.Rows
section
variable {X:Cx} {own:List Str} {caps:List Nat} {N':List Str} {sc:Scope} {tg elt iter:Expr} {ifs:List Expr} {pos:Pos} {wi:TI} {g:TG} {tt:TT} {te:TE}
theorem Zpn {i:Nat} {y:Str} {py spos:Pos} (hN:X.N.Nodup) (hy:X.N[i]? = some y) (hx:Loc X.env.scope y) (S:CompScope X own caps N' sc) (hc:X.calm = true) (hi:PI X tg iter wi)
  (hg:∀ C cells s₂ H₂ fp,PG (Jm X N' sc C cells s₂ H₂ fp) tg g) (ht:∀ C cells s₂ H₂ fp,Zz7 (Jm X N' sc C cells s₂ H₂ fp) ifs tt) (he:∀ C cells s₂ H₂ fp,PE (Jm X N' sc C cells s₂ H₂ fp) elt te)
  (hsw:swapsWith (.ListComp elt [⟨tg,iter,ifs,0⟩] sc pos) (some (.Name y py)) spos.line X.env = pure true:=by rfl)
  (hs:∀ x,foldedSetIterable iter X.env x = pure x:=by intro _; rfl) (hf:X.fn y = true∨X.env.scope.names.lookup y = some .local:=by first | exact .inl rfl | exact .inr rfl | assumption) :
  PS X (.Assign [.Name y py] (.ListComp elt [⟨tg,iter,ifs,0⟩] sc pos) spos) (Z1b (Zt6 own caps wi g tt te) (Zqv i)):=by
 intro pins s σ H D I h
 have hfr:∀ y ∈ sc.names,y.2 = .free→∃ c,X.env.cells.lookup y.1 = some c:=fun y hy e=>by
  obtain ⟨n,k⟩:=y
  have e':k = .free:=e
  subst e'
  exact I.ok.has n (S.fr hy)
 rw [exec_Assign_Name_used _ _ _ _ hsw]
 refine wpAny_bind (wpAny_standAt (wpAny_bind ?_))
 show wpAny _ X.A (do let _ ← comprehension (.ListComp elt [⟨tg,iter,ifs,0⟩] sc pos) sc X.env _ (newList []) false (eval iter X.env) (some (assign (.Name y py) X.env))) _ _ s
 refine wpAny_bind (wpAny_mono (wpAny_comprehension_free (use:=some (assign (.Name y py) X.env)) (Q:=fun _ s'=>SP X pins D .next s') rfl hs (Zfh hfr) S.kind (fun y hy e=>by obtain ⟨n,k⟩:=y; have e':k = .local:=e; subst e'; exact S.lk hy) ?_) (fun _ s' hq=>wpAny_pure (wpAny_pure hq)) fun _ _ e=>e)
 refine thn (hi pins s σ H _ I h) fun v s1 h1=>thn h1 fun itv s2 h2=>?_
 obtain ⟨it,fp,tn,J,H2,e,I2,T,st2,f2,q⟩:=h2
 subst e
 refine wpAny_newObj_type ?_
 refine thn (Zir (iter:=iter) (pos:=pos) (Qf:=compPost (model X.prog X.w) X.A X.xe (some (assign (.Name y py) X.env)) (fun _ s'=>SP X pins D .next s') (.ref s2.heap.objs.size) (s2.heap.objs.size + 1)) S hc hg ht he I2 T st2 f2 (q s2.heap.objs.size I2.fresh) ?_) fun cenv s4 ⟨hl,hr⟩=>?_
 ·intro s' σ' H' p' C cells I' eC q'
  subst eC
  obtain ⟨m,hn,_⟩:=id I'.loc
  have I3:Inv X pins σ H' s':=Znz I2 f2 I' (.refl ..)
  show wpAny _ X.A (assign (.Name y py) X.env (.ref s2.heap.objs.size)) _ _ s'
  refine wpAny_assign_Name (Zk8 (v:=.ref s2.heap.objs.size) I3 hN hy hx rfl (fun s5 I5 hsb=>?_) hf)
  have hC:s2.heap.objs.size < s2.heap.objs.size + 1:=Nat.lt_succ_self _
  have ltL:X.env.locals < s2.heap.objs.size:=I2.lt
  have ltC:∀ x c,X.env.cells.lookup x = some c→c < s2.heap.objs.size:=fun x c e=>by
   obtain ⟨w',z⟩:=I2.cell x c e
   exact z.lt
  refine ⟨m,?_,fun h' hs'=>⟨σ.set i (some (.ref s2.heap.objs.size)),H',?_,q'⟩⟩
  ·obtain ⟨a,hsa,ha⟩:=hsb
   refine hn.sameBut hsa ?_
   rcases ha with ha | ha
   ·rw [ha]; exact Nat.ne_of_gt (Nat.lt_trans ltL hC)
   ·exact Nat.ne_of_gt (Nat.lt_trans (ltC _ _ ha) hC)
  ·refine I5.turned (t':=s5.toks) (it:=s2.heap.objs.size + 1) (fun b o hb e=>(hs'.2 b hb).trans e) I'.free (Nat.ne_of_gt (Nat.lt_trans ltL hC)) (.inr (Nat.le_trans I2.sz (Nat.le_of_lt hC))) (fun x c e=>Nat.ne_of_lt (Nat.lt_trans (ltC x c e) hC)) fun p hp=>?_
   obtain ⟨e,_⟩:=I2.pin p hp
   exact Nat.ne_of_lt (Nat.lt_trans (Heap.lt_size e) hC)
 ·rw [← hl] at hr
  exact hr
end
section
variable (n:Nat) (D:Addr) (Pv:Nat→List V→St→Hp→Prop)
variable {n D Pv}
end
end L2
namespace L2
open PySem PySem.Spec PyProof.Rows
mutual
inductive Is (H:Hp) (L:Addr→Prop):V→PyData→Prop where
 | non:Is H L .non .none
 | bl (b:Bool):Is H L (.bl b) (.bool b)
 | int (i:Int):Is H L (.int i) (.int i)
 | str (x:Str):Is H L (.str x) (.str x)
 | lst {a:Addr} {xs:List V} {ds:List PyData}:L a→H a = some (.lst xs)→IsAll H L xs ds→Is H L (.ref a) (.list ds)
 | tup {a:Addr} {xs:List V} {ds:List PyData}:H a = some (.tup xs)→IsAll H L xs ds→Is H L (.ref a) (.tuple ds)
inductive IsAll (H:Hp) (L:Addr→Prop):List V→List PyData→Prop where
 | nil:IsAll H L [] []
 | cons {x:V} {xs:List V} {d:PyData} {ds:List PyData}:Is H L x d→IsAll H L xs ds→IsAll H L (x :: xs) (d :: ds)
end
section
variable {H H':Hp} {L L':Addr→Prop}
theorem IsAll.ind {Q:List V→List PyData→Prop} (n:Q [] []) (c:∀ {x:V} {xs:List V} {d:PyData} {ds:List PyData},Is H L x d→IsAll H L xs ds→Q xs ds→Q (x :: xs) (d :: ds)):∀ {xs ds},IsAll H L xs ds→Q xs ds:=fun h =>
 IsAll.rec (motive_1:=fun _ _ _=>True) (motive_2:=fun xs ds _=>Q xs ds) trivial (fun _=>trivial) (fun _=>trivial) (fun _=>trivial) (fun _ _ _ _=>trivial) (fun _ _ _=>trivial) n (fun p q _ r=>c p q r) h
theorem IsAll.length {xs:List V} {ds:List PyData} (h:IsAll H L xs ds):xs.length = ds.length:=IsAll.ind (Q:=fun xs ds=>xs.length = ds.length) rfl (fun _ _ r=>congrArg (· + 1) r) h
end
section
variable {X:Cx} {pins:List (Addr × Obj)} {σ:St} {H:Hp} {s:Shared} {L L':Addr→Prop}
end
noncomputable abbrev Shp (d:PyData):Prop:=SeqAt.shaped d = true
section
variable {X:Cx}
end
mutual
noncomputable def Jo:PyData→Bool
 | .none=>true
 | .int _=>true
 | .str _=>true
 | .list ds=>Ju ds
 | .tuple ds=>Ju ds
 | _=>false
noncomputable def Ju:List PyData→Bool
 | []=>true
 | d :: ds=>Jo d && Ju ds
end
mutual
theorem Znd:∀ (d e:PyData),Jo d = true→Jo e = true→(PyData.eqv d e = true ↔ d = e)
 | .none,e,_,he=>by cases e <;> simp_all [PyData.eqv,Jo]
 | .int i,e,_,he=>by cases e <;> simp_all [PyData.eqv,Jo]
 | .str i,e,_,he=>by cases e <;> simp_all [PyData.eqv,Jo]
 | .list ds,e,hd,he=>by
  cases e with
  | list es =>
   rw [Jo] at hd he
   rw [PyData.eqv,PyData.list.injEq]
   exact Zge ds es hd he
  | _=>simp_all [PyData.eqv,Jo]
 | .tuple ds,e,hd,he=>by
  cases e with
  | tuple es =>
   rw [Jo] at hd he
   rw [PyData.eqv,PyData.tuple.injEq]
   exact Zge ds es hd he
  | _=>simp_all [PyData.eqv,Jo]
 | .bool b,e,hd,_=>by simp [Jo] at hd
 | .dict b,e,hd,_=>by simp [Jo] at hd
theorem Zge:∀ (ds es:List PyData),Ju ds = true→Ju es = true→(PyData.eqvAll ds es = true ↔ ds = es)
 | [],[],_,_=>by simp [PyData.eqvAll]
 | [],_ :: _,_,_=>by simp [PyData.eqvAll]
 | _ :: _,[],_,_=>by simp [PyData.eqvAll]
 | d :: ds,e :: es,hd,he=>by
  rw [Ju,Bool.and_eq_true] at hd he
  rw [PyData.eqvAll,Bool.and_eq_true,Znd d e hd.1 he.1,Zge ds es hd.2 he.2,List.cons.injEq]
end
theorem Zv5 {d e:PyData} (h:Jo d = true) (k:Jo e = true) (q:d = e):PyData.eqv d e = true:=(Znd d e h k).mpr q
theorem Z2e {d e:PyData} (h:Jo d = true) (k:Jo e = true) (q:d ≠ e):PyData.eqv d e = false:=Bool.eq_false_iff.mpr fun z=>q ((Znd d e h k).mp z)
noncomputable def fr (a b:Int):PyData:=.tuple [.int a,.int b]
end L2
namespace L2
open PySem PySem.Spec PyProof.Rows
theorem Zfu {t b:Int} (hb:b ≠ 0):0 < (Int.gcd t b:Int):=by
 have:=Int.gcd_pos_of_ne_zero_right t hb
 omega
theorem Zak {t g:Int} (hg:0 < g):t.fdiv g = t / g:=Int.fdiv_eq_ediv_of_nonneg t (by omega)
theorem Zet {t g:Int} (hg:0 < g) (h:g ∣ t):t.fdiv (-g) = -(t / g):=by
 obtain ⟨k,rfl⟩:=h
 rw [Int.mul_ediv_cancel_left _ (by omega)]
 have e:g * k = (-k) * (-g):=by rw [Int.neg_mul_neg,Int.mul_comm]
 rw [e,Int.mul_fdiv_cancel _ (by omega)]
noncomputable def shr (t b:Int):Int:=if b < 0 then -(Int.gcd t b:Int) else (Int.gcd t b:Int)
theorem Zw9 {t b:Int} (hb:b ≠ 0):t.fdiv (shr t b) = (Rat.divInt t b).num:=by
 have hg:=Zfu (t:=t) hb
 have hd:(Int.gcd t b:Int) ∣ t:=Int.gcd_dvd_left ..
 rw [Rat.num_divInt,Int.gcd_comm b t]
 unfold shr
 by_cases h:b < 0
 ·rw [if_pos h,Zet hg hd,Int.sign_eq_neg_one_of_neg h,Int.neg_one_mul,Int.neg_ediv_of_dvd hd]
 ·rw [if_neg h,Zak hg,Int.sign_eq_one_of_pos (by omega),Int.one_mul]
theorem Zyd {t b:Int} (hb:b ≠ 0):b.fdiv (shr t b) = ((Rat.divInt t b).den:Int):=by
 have hg:=Zfu (t:=t) hb
 have hd:(Int.gcd t b:Int) ∣ b:=Int.gcd_dvd_right ..
 rw [Rat.den_divInt,if_neg hb,Int.gcd_comm b t]
 unfold shr
 by_cases h:b < 0
 ·have e:(b.natAbs:Int) = -b:=by omega
  rw [if_pos h,Zet hg hd,Int.natCast_ediv,e,Int.neg_ediv_of_dvd hd]
 ·have e:(b.natAbs:Int) = b:=by omega
  rw [if_neg h,Zak hg,Int.natCast_ediv,e]
theorem Zv7 {t b:Int} (hb:b ≠ 0):shr t b ≠ 0:=by
 have hg:=Zfu (t:=t) hb
 unfold shr
 split <;> omega
theorem Zv3 {n:Nat} {t b:Int} (hb:b ≠ 0) (h:Bt n b):Bt n (shr t b):=by
 have h1:Bt n (Int.gcd t b:Int):=by
  refine Bt.of_le h ?_
  have:=Int.gcd_le_natAbs_right t hb
  omega
 unfold shr
 split
 ·exact h1.neg
 ·exact h1
theorem Z3i {n:Nat} {t b:Int} (hb:b ≠ 0) (h:Bt n t):Bt n (Rat.divInt t b).num:=by
 rw [Rat.num_divInt]
 refine Bt.of_le h ?_
 refine Nat.le_trans (Int.natAbs_ediv_le_natAbs _ _) ?_
 rw [Int.natAbs_mul]
 have:b.sign.natAbs ≤ 1:=by
  rw [Int.natAbs_sign]
  split <;> omega
 calc b.sign.natAbs * t.natAbs ≤ 1 * t.natAbs:=Nat.mul_le_mul_right _ this
  _ = t.natAbs:=Nat.one_mul _
theorem Zsw (q:Rat):(q.den:Int) ≠ 0:=by
 have:=q.den_pos
 omega
theorem Zi5 (q:Rat):(0:Int) < (q.den:Int):=by
 have:=q.den_pos
 omega
noncomputable def frD (q:Rat):PyData:=fr q.num (q.den:Int)
noncomputable def BQ (n:Nat) (q:Rat):Prop:=Bt n q.num∧Bt n (q.den:Int)
end L2
namespace L2
open PySem PySem.Spec PyProof.Rows
section
variable {X:Cx}
end
end L2
namespace L2
open PySem PySem.Spec PyProof.Rows
section
variable {X:Cx} {K:PySem.W.Frag} {a b o e:Expr} {ta tb tl to:TE} {pos:Pos}
theorem Ztm (hK:X.K = K):IxR X (Z49 K):=hK ▸ Zsy
theorem Zx (hK:X.K = K):IxR X (rIx K):=hK ▸ Z1y
theorem Zt4 (hK:X.K = K):SlR X (Z64 K):=hK ▸ Zw6
noncomputable def Z67 (K:PySem.W.Frag):List V→Hp→VK→Prop:=fun xs H Q=>∃ p ys,xs = [.ref p]∧(SqL K H p ys∨SqT K H p ys)∧Q (.int ys.length) H
theorem Wk (hK:X.K = K):Zd9 X (.builtin "len") (Z67 K):=by subst hK; exact Zlw
noncomputable def Zta (K:PySem.W.Frag):List V→Hp→VK→Prop:=fun xs H Q=>∃ p ys,xs = [.ref p]∧(SqL K H p ys∨SqT K H p ys)∧∀ l,H l = none→Q (.ref l) (upd H l (.lst ys))
theorem Zpx (hK:X.K = K):Zd9 X (.type "list") (Zta K):=by subst hK; exact Zl7
noncomputable def Z8j (K:PySem.W.Frag) (ta:TE):TT:=fun σ H Q=>ta σ H fun x H'=>∃ k,Z6q K x H' k∧Q k H'
theorem Zxq (hK:X.K = K) (ha:PE X a ta) (he:∀ whole,isTrue a X.env whole = (do let v ← whole; standAt a.pos; holding [v] (truthy v))):PT X a (Z8j K ta):=by subst hK; exact Zt0 ha he
theorem Ztt {tg l:Expr} (hK:X.K = K) (hl:PE X l tl):PI X tg l (Z3u K tl):=by subst hK; exact Zyg hl
theorem Zzg {tg l:Expr} (hK:X.K = K) (hl:PE X l tl):PI X tg l (Z7i K tl):=by subst hK; exact Z3f hl
end
end L2
namespace L2
open PySem PySem.Spec PyProof.Rows
theorem Y9 {H:Hp} {p:Addr} (h:H p = none) (o:HO):Same H (upd H p o):=fun b u q=>by rw [Yq (Ja q h)]; exact q
noncomputable def But (p:Addr) (H H':Hp):Prop:=∀ b o,b ≠ p→H b = some o→H' b = some o
theorem But.upd (p:Addr) (H:Hp) (o:HO):But p H (upd H p o):=fun b u n e=>by rw [Yq n]; exact e
namespace B
theorem boot_abs:bootBuiltins "abs" = some (.builtin "abs"):=by decide +kernel
theorem boot_len:bootBuiltins "len" = some (.builtin "len"):=by decide +kernel
theorem boot_min:bootBuiltins "min" = some (.builtin "min"):=by decide +kernel
theorem boot_isinstance:bootBuiltins "isinstance" = some (.builtin "isinstance"):=by decide +kernel
theorem boot_sorted:bootBuiltins "sorted" = some (.builtin "sorted"):=by decide +kernel
theorem boot_int:bootBuiltins "int" = some (.type "int"):=by decide +kernel
theorem boot_bool:bootBuiltins "bool" = some (.type "bool"):=by decide +kernel
theorem boot_list:bootBuiltins "list" = some (.type "list"):=by decide +kernel
theorem boot_tuple:bootBuiltins "tuple" = some (.type "tuple"):=by decide +kernel
theorem boot_range:bootBuiltins "range" = some (.type "range"):=by decide +kernel
theorem boot_zip:bootBuiltins "zip" = some (.type "zip"):=by decide +kernel
theorem boot_set:bootBuiltins "set" = some (.type "set"):=by decide +kernel
end B
theorem Zg8 {a b:Int} (hb:0 < b):a.fmod b = a % b:=Int.fmod_eq_emod_of_nonneg a (by omega)
theorem Zto {x y:Int} (hx:0 ≤ x) (hy:0 < y):Int.gcd y (x.fmod y) = Int.gcd x y:=by
 rw [Zg8 hy,Int.gcd_comm x y]
 have e:=Int.emod_add_mul_ediv x y
 conv=>rhs; rw [← e]
 rw [Int.gcd_add_mul_left_right]
theorem Z16:(2:Nat) ≤ sizeLine:=by decide
end L2
namespace L2
open PySem PySem.Spec PyProof.Rows
section
variable {X:Cx} {K:PySem.W.Frag} {pos:Pos}
end
end L2
namespace L2
open PySem PySem.Spec PyProof.Rows
theorem Zu0 (q:Rat):Rat.divInt q.num (q.den:Int) = q:=Rat.num_divInt_den q
end L2
namespace L2
open PySem PySem.Spec PyProof.Rows
section
variable {X:Cx}
end
end L2
namespace L2
open PySem PySem.Spec PyProof.Rows
theorem BQ.n {n:Nat} {q:Rat} (h:BQ n q):Bt n q.num:=h.1
theorem BQ.d {n:Nat} {q:Rat} (h:BQ n q):Bt n (q.den:Int):=h.2
theorem Z8v (q:Rat):(((q.den:Int)):Rat) ≠ 0:=by
 intro z
 exact Zsw q (Rat.intCast_eq_zero_iff.mp z)
theorem Z8b (q:Rat):((q.num:Int):Rat) = q * (((q.den:Int)):Rat):=by
 have h:=Zu0 q
 rw [Rat.divInt_eq_div] at h
 have d:=Z8v q
 conv=>rhs; lhs; rw [← h]
 grind
end L2
namespace L2
end L2
namespace L2
end L2
namespace L2
open PySem PySem.Spec PyProof.Rows
variable {G:PySem.W.Frag}
noncomputable def KS (G:PySem.W.Frag) (a:Addr) (ns:List Int):Prop:=∃ (o:Obj) (its:Array Value) (n:Nat),G.lookup a = some o∧o.cls = .type "list" ∧ o.dict = none∧o.data = .seq its n∧its.size ≤ sizeLine∧Vals (ns.map V.int) its.toList
theorem KS.sq {G:PySem.W.Frag} {H:Hp} {a:Addr} {ns:List Int} (h:KS G a ns):SqL G H a (ns.map V.int):=.inr h
noncomputable def exD (x:Str):PyData:=.dict [(.str x,.none)]
noncomputable def fnD (x:Str):PyData:=.dict [(.str x,.bool true)]
noncomputable def Zii:PyData→Bool | .dict ((_,.bool _) :: _)=>true | _=>false
noncomputable def ClsAt (G:PySem.W.Frag) (x:Str) (C:Addr):Prop:=PySem.W.nsIn G mainGlobals x = some (some (.ref C))
structure Zi6 (G:PySem.W.Frag) (C:Addr):Prop where
 ga:PySem.W.findIn G (.ref C) "__getattribute__" = some (some (.builtin "BaseException.__getattribute__"))
 gt:PySem.W.findIn G (.ref C) "__getattr__" = some none
 cl:PySem.W.findIn G (.ref C) "__class__" = some (some (.builtin "object.__class__"))
 isB:PySem.W.subIn G (.ref C) (.type "BaseException") = some true
 isO:PySem.W.subIn G (.ref C) (.type "object") = some true
 isC:(PySem.W.clsIn G C).isSome = true
 k1:PySem.W.kitOne G (.ref C) (.type "int") = some false
 k2:PySem.W.kitOne G (.ref C) (.type "bool") = some false
 k3:PySem.W.kitOne G (.ref C) (.type "str") = some false
 k4:PySem.W.kitOne G (.ref C) (.type "list") = some false
 k5:PySem.W.kitOne G (.ref C) (.type "tuple") = some false
noncomputable def ExO (C a:Addr) (h:Heap):Prop:=∃ o vs,h.get? a = some o∧o.cls = .ref C∧o.data = .fields vs
inductive ImO where
 | tup (xs:List V)
 | ext (φ:Heap→Prop)
noncomputable def ImO.ho:ImO→HO
 | .tup xs=>.tup xs
 | .ext φ=>.ext φ
inductive MuO where
 | lst (xs:List V)
 | dK (kvs:List (Key × V))
 | dT (kvs:List (List Key × V))
noncomputable def MuO.ho:MuO→HO
 | .lst xs=>.lst xs
 | .dK kvs=>.dK kvs
 | .dT kvs=>.dT kvs
noncomputable def Z7q:Key→PyData
 | .inl i=>.int i
 | .inr x=>.str x
noncomputable def Z8k (ks:List Key):PyData:=.tuple (ks.map Z7q)
noncomputable abbrev KY:=Sum Key (List Key)
noncomputable def kyD:KY→PyData
 | .inl k=>Z7q k
 | .inr ks=>Z8k ks
noncomputable def MuO.dic (t:Bool) (ks:List KY) (xs:List V):MuO→Prop
 | .lst _=>False
 | .dK kvs=>t = false∧ks = kvs.map (fun p=>.inl p.1)∧xs = kvs.map (·.2)
 | .dT kvs=>t = true∧ks = kvs.map (fun p=>.inr p.1)∧xs = kvs.map (·.2)
noncomputable def dcD (t:Bool) (ks:List KY) (ds:List PyData):PyData:=.dict ((.none,.bool t) :: (ks.map kyD).zip ds)
theorem ImO.nm {H:Hp} {a:Addr} {x:ImO} {y:MuO} (h:H a = some x.ho) (h':H a = some y.ho):False:=by
 rw [h] at h'
 cases x <;> cases y <;> cases h'
theorem ImO.nl {H:Hp} {a:Addr} {x:ImO} {ys:List V} (h:H a = some x.ho) (h':H a = some (.lst ys)):False:=by
 rw [h] at h'
 cases x <;> cases h'
mutual
inductive Da (G:PySem.W.Frag) (H:Hp) (L:Addr→Prop):V→PyData→Prop where
 | non:Da G H L .non .none
 | bl (b:Bool):Da G H L (.bl b) (.bool b)
 | int (i:Int):Da G H L (.int i) (.int i)
 | str (x:Str):Da G H L (.str x) (.str x)
 | lst {a:Addr} {xs:List V} {ds:List PyData}:L a→Rd H a (.lst xs)→Das G H L xs ds→Da G H L (.ref a) (.list ds)
 | tup {a:Addr} {xs:List V} {ds:List PyData}:H a = some (.tup xs)→Das G H L xs ds→Da G H L (.ref a) (.tuple ds)
 | scr {a:Addr} {ns:List Int}:KS G a ns→Da G H L (.ref a) (.list (ns.map PyData.int))
 | exc {a C:Addr} {x:Str}:Zi6 G C→ClsAt G x C→H a = some (.ext (ExO C a))→Da G H L (.ref a) (exD x)
 | fn {a:Addr} {x:Str}:ClsAt G x a→Da G H L (.ref a) (fnD x)
 | dic {a:Addr} {o:MuO} {t:Bool} {ks:List KY} {xs:List V} {ds:List PyData}:L a→Rd H a o.ho→o.dic t ks xs→Das G H L xs ds→Da G H L (.ref a) (dcD t ks ds)
inductive Das (G:PySem.W.Frag) (H:Hp) (L:Addr→Prop):List V→List PyData→Prop where
 | nil:Das G H L [] []
 | cons {x:V} {xs:List V} {d:PyData} {ds:List PyData}:Da G H L x d→Das G H L xs ds→Das G H L (x :: xs) (d :: ds)
end
section
variable {H H':Hp} {L L':Addr→Prop}
theorem Da.both {P:V→PyData→Prop} {Q:List V→List PyData→Prop} (c1:P .non .none) (c2:∀ b,P (.bl b) (.bool b)) (c3:∀ i,P (.int i) (.int i)) (c4:∀ x,P (.str x) (.str x))
  (c5:∀ {a:Addr} {xs:List V} {ds:List PyData},L a→Rd H a (.lst xs)→Q xs ds→P (.ref a) (.list ds)) (c6:∀ {a:Addr} {xs:List V} {ds:List PyData},H a = some (.tup xs)→Q xs ds→P (.ref a) (.tuple ds))
  (c7:∀ {a:Addr} {ns:List Int},KS G a ns→P (.ref a) (.list (ns.map PyData.int))) (c8:∀ {a C:Addr} {x:Str},Zi6 G C→ClsAt G x C→H a = some (.ext (ExO C a))→P (.ref a) (exD x)) (c9:∀ {a:Addr} {x:Str},ClsAt G x a→P (.ref a) (fnD x))
  (c10:∀ {a:Addr} {o:MuO} {t:Bool} {ks:List KY} {xs:List V} {ds:List PyData},L a→Rd H a o.ho→o.dic t ks xs→Q xs ds→P (.ref a) (dcD t ks ds)) (n:Q [] []) (c:∀ {x:V} {xs:List V} {d:PyData} {ds:List PyData},P x d→Q xs ds→Q (x :: xs) (d :: ds)):(∀ {v d},Da G H L v d→P v d)∧∀ {xs ds},Das G H L xs ds→Q xs ds :=
 ⟨fun h=>Da.rec (motive_1:=fun v d _=>P v d) (motive_2:=fun xs ds _=>Q xs ds) c1 c2 c3 c4 (fun p e _ r=>c5 p e r) (fun e _ r=>c6 e r) (fun k=>c7 k) (fun k l m=>c8 k l m) (fun k=>c9 k) (fun p e k _ r=>c10 p e k r) n (fun _ _ p q=>c p q) h,
   fun h=>Das.rec (motive_1:=fun v d _=>P v d) (motive_2:=fun xs ds _=>Q xs ds) c1 c2 c3 c4 (fun p e _ r=>c5 p e r) (fun e _ r=>c6 e r) (fun k=>c7 k) (fun k l m=>c8 k l m) (fun k=>c9 k) (fun p e k _ r=>c10 p e k r) n (fun _ _ p q=>c p q) h⟩
theorem Das.ind {Q:List V→List PyData→Prop} (n:Q [] []) (c:∀ {x:V} {xs:List V} {d:PyData} {ds:List PyData},Da G H L x d→Das G H L xs ds→Q xs ds→Q (x :: xs) (d :: ds)):∀ {xs ds},Das G H L xs ds→Q xs ds:=fun h =>
 Das.rec (motive_1:=fun _ _ _=>True) (motive_2:=fun xs ds _=>Q xs ds) trivial (fun _=>trivial) (fun _=>trivial) (fun _=>trivial) (fun _ _ _ _=>trivial) (fun _ _ _=>trivial) (fun _=>trivial) (fun _ _ _=>trivial) (fun _=>trivial) (fun _ _ _ _ _=>trivial) n (fun p q _ r=>c p q r) h
theorem Da.frame2 (hl:∀ a (xs:MuO),L a→Rd H a xs.ho→L' a∧Rd H' a xs.ho) (ht:∀ a (xs:ImO),H a = some xs.ho→H' a = some xs.ho):(∀ {v:V} {d:PyData},Da G H L v d→Da G H' L' v d)∧∀ {xs:List V} {ds:List PyData},Das G H L xs ds→Das G H' L' xs ds :=
 Da.both .non .bl .int .str (fun {_ xs _} p e r=>.lst (hl _ (.lst xs) p e).1 (hl _ (.lst xs) p e).2 r) (fun {_ xs _} e r=>.tup (ht _ (.tup xs) e) r) .scr (fun c n e=>.exc c n (ht _ (.ext _) e)) .fn (fun p e k r=>.dic (hl _ _ p e).1 (hl _ _ p e).2 k r) .nil .cons
theorem Da.frame (hl:∀ a (xs:MuO),L a→Rd H a xs.ho→L' a∧Rd H' a xs.ho) (ht:∀ a (xs:ImO),H a = some xs.ho→H' a = some xs.ho) {v:V} {d:PyData} (h:Da G H L v d):Da G H' L' v d:=(Da.frame2 hl ht).1 h
theorem Das.frame (hl:∀ a (xs:MuO),L a→Rd H a xs.ho→L' a∧Rd H' a xs.ho) (ht:∀ a (xs:ImO),H a = some xs.ho→H' a = some xs.ho) {xs:List V} {ds:List PyData} (h:Das G H L xs ds):Das G H' L' xs ds:=(Da.frame2 hl ht).2 h
theorem Rd.same {a:Addr} {u:HO} (s:Same H H') (h:Rd H a u):Rd H' a u:=h.imp (s _ _) fun ⟨o,h⟩=>⟨o,s _ _ h⟩
theorem Rd.some {a:Addr} {u:HO} (h:Rd H a u):H a ≠ Option.none:=by
 rcases h with h | ⟨o,h⟩ <;> rw [h] <;> intro z <;> cases z
theorem Da.same (h:Same H H') {v:V} {d:PyData} (x:Da G H L v d):Da G H' L v d:=x.frame (fun a xs p e=>⟨p,e.same h⟩) fun a xs e=>h _ _ e
theorem Das.same (h:Same H H') {v:List V} {d:List PyData} (x:Das G H L v d):Das G H' L v d:=x.frame (fun a xs p e=>⟨p,e.same h⟩) fun a xs e=>h _ _ e
theorem Da.wide (h:∀ a,L a→H a ≠ none→L' a) {v:V} {d:PyData} (x:Da G H L v d):Da G H L' v d:=x.frame (fun a xs p e=>⟨h a p e.some,e⟩) fun a xs e=>e
theorem Das.wide (h:∀ a,L a→H a ≠ none→L' a) {v:List V} {d:List PyData} (x:Das G H L v d):Das G H L' v d:=x.frame (fun a xs p e=>⟨h a p e.some,e⟩) fun a xs e=>e
theorem Das.length {xs:List V} {ds:List PyData} (h:Das G H L xs ds):xs.length = ds.length:=Das.ind (Q:=fun xs ds=>xs.length = ds.length) rfl (fun _ _ r=>congrArg (· + 1) r) h
theorem Das.append {xs ys:List V} {ds es:List PyData} (h:Das G H L xs ds) (k:Das G H L ys es):Das G H L (xs ++ ys) (ds ++ es):=Das.ind (Q:=fun xs ds=>Das G H L (xs ++ ys) (ds ++ es)) k (fun h _ r=>.cons h r) h
theorem Das.get {xs:List V} {ds:List PyData} {i:Nat} {d:PyData} (h:Das G H L xs ds):ds[i]? = some d→∃ x,xs[i]? = some x∧Da G H L x d :=
 Das.ind (Q:=fun xs ds=>∀ i,ds[i]? = some d→∃ x,xs[i]? = some x∧Da G H L x d) (fun _ e=>(Option.some_ne_none _ (e.symm.trans List.getElem?_nil)).elim) (fun {x _ _ _} h _ r i=>Nat.casesOn i (fun e=>⟨x,rfl,Option.some.inj e ▸ h⟩) fun i e=>r i e) h i
theorem Das.get' {xs:List V} {ds:List PyData} {i:Nat} {x:V} (h:Das G H L xs ds):xs[i]? = some x→∃ d,ds[i]? = some d∧Da G H L x d :=
 Das.ind (Q:=fun xs ds=>∀ i,xs[i]? = some x→∃ d,ds[i]? = some d∧Da G H L x d) (fun _ e=>(Option.some_ne_none _ (e.symm.trans List.getElem?_nil)).elim) (fun {_ _ d _} h _ r i=>Nat.casesOn i (fun e=>⟨d,rfl,Option.some.inj e ▸ h⟩) fun i e=>r i e) h i
theorem Das.take {xs:List V} {ds:List PyData} (n:Nat) (h:Das G H L xs ds):Das G H L (xs.take n) (ds.take n) :=
 Das.ind (Q:=fun xs ds=>∀ n,Das G H L (xs.take n) (ds.take n)) (fun n=>by rw [List.take_nil,List.take_nil]; exact .nil) (fun h _ r n=>Nat.casesOn n .nil fun n=>.cons h (r n)) h n
theorem Das.drop {xs:List V} {ds:List PyData} (n:Nat) (h:Das G H L xs ds):Das G H L (xs.drop n) (ds.drop n) :=
 Das.ind (Q:=fun xs ds=>∀ n,Das G H L (xs.drop n) (ds.drop n)) (fun n=>by rw [List.drop_nil,List.drop_nil]; exact .nil) (fun h q r n=>Nat.casesOn n (.cons h q) fun n=>r n) h n
theorem Das.ints (ns:List Int):Das G H L (ns.map V.int) (ns.map PyData.int):=by
 induction ns with
 | nil=>exact .nil
 | cons n ns ih=>exact .cons (.int n) ih
theorem Das.int_inv {xs:List V} {ns:List Int} (h:Das G H L xs (ns.map PyData.int)):xs = ns.map V.int:=by
 induction ns generalizing xs with
 | nil=>cases h; rfl
 | cons n ns ih =>
  rw [List.map_cons] at h
  cases h with
  | cons h r=>cases h; rw [ih r]; rfl
end
theorem Zpo {h:Heap} (ns:List Int) {us:List Value} (v:Vals (ns.map V.int) us):∃ as,ReadsAll h us (ns.map PyData.int) as:=by
 induction ns generalizing us with
 | nil=>cases v; exact ⟨_,.nil⟩
 | cons n ns ih =>
  rw [List.map_cons] at v
  cases v with
  | cons r rs =>
   obtain ⟨t,e⟩:=(show ∃ t,_ = Value.int n t from r)
   subst e
   obtain ⟨bs,k'⟩:=ih rs
   exact ⟨_,.cons (.int n t) k'⟩
section
variable {X:Cx} {pins:List (Addr × Obj)} {σ:St} {H:Hp} {s:Shared} {L L':Addr→Prop}
theorem Da.reads2 (hG:X.K = G) (I:Inv X pins σ H s):(∀ {v:V} {d:PyData},Da G H L v d→∀ u,RelV v u→d.canLay0 = true→∃ as,Reads s.heap u d as)∧∀ {xs:List V} {ds:List PyData},Das G H L xs ds→∀ us,Vals xs us→PyData.canLayAll0 ds = true→∃ as,ReadsAll s.heap us ds as:=by
 refine Da.both ?_ ?_ ?_ ?_ ?_ ?_ ?_ ?_ ?_ ?_ ?_ ?_
 ·intro u r _
  cases (show _ = Value.none from r)
  exact ⟨_,.none⟩
 ·intro b u r _
  cases (show _ = Value.bool b from r)
  exact ⟨_,.bool b⟩
 ·intro i u r _
  obtain ⟨t,e⟩:=(show ∃ t,_ = Value.int i t from r)
  subst e
  exact ⟨_,.int i t⟩
 ·intro x u r _
  obtain ⟨t,e⟩:=(show ∃ t,_ = Value.str x t from r)
  subst e
  exact ⟨_,.str x t⟩
 ·intro a xs ds _ e q u r hcl
  cases (show _ = Value.ref a from r)
  obtain ⟨_,its,n,vs,h1⟩:=(show ObjOk X.prog X.w H s.heap a (.lst xs) from e.ok I.hok)
  rw [PyData.canLay0] at hcl
  obtain ⟨as,k⟩:=q _ vs hcl
  exact ⟨_,Reads.list h1 rfl rfl k⟩
 ·intro a xs ds e q u r hcl
  cases (show _ = Value.ref a from r)
  obtain ⟨_,its,vs,o,ho,hc,n,hd⟩:=(show ObjOk X.prog X.w H s.heap a (.tup xs) from I.hok a _ e)
  rw [PyData.canLay0] at hcl
  obtain ⟨as,k⟩:=q _ vs hcl
  exact ⟨_,Reads.tuple ho hc hd k⟩
 ·intro a ns k u r _
  cases (show _ = Value.ref a from r)
  subst hG
  obtain ⟨its,vs,⟨o,n,ho,hc,hd,hs⟩,_⟩:=I.list (k.sq (H:=H))
  obtain ⟨as,q⟩:=Zpo ns vs
  exact ⟨_,Reads.list ho hc hs q⟩
 ·intro a C x _ _ e u r hc
  rw [exD,PyData.canLay0] at hc
  cases hc
 ·intro a x _ u r hc
  rw [fnD,PyData.canLay0] at hc
  cases hc
 ·intro a o t ks xs ds _ _ _ _ u r hc
  rw [dcD,PyData.canLay0] at hc
  cases hc
 ·intro us v _
  cases v
  exact ⟨_,.nil⟩
 ·intro x xs d ds h q us v hc
  cases v with
  | cons r rs =>
   rw [PyData.canLayAll0,Bool.and_eq_true] at hc
   obtain ⟨as,k⟩:=h _ r hc.1
   obtain ⟨bs,k'⟩:=q _ rs hc.2
   exact ⟨_,.cons k k'⟩
theorem Da.reads (hG:X.K = G) (I:Inv X pins σ H s) {v:V} {d:PyData} {u:Value} (h:Da G H L v d) (r:RelV v u) (c:d.canLay0 = true):∃ as,Reads s.heap u d as:=(Da.reads2 hG I).1 h u r c
theorem Das.reads (hG:X.K = G) (I:Inv X pins σ H s) {xs:List V} {ds:List PyData} {us:List Value} (h:Das G H L xs ds) (r:Vals xs us) (c:PyData.canLayAll0 ds = true):∃ as,ReadsAll s.heap us ds as:=(Da.reads2 hG I).2 h us r c
end
inductive OT where
 | fz (d:PyData)
 | nd (ts:List OT)
 | tp (ts:List OT)
 | dc (t:Bool) (ks:List KY) (ds:List PyData)
mutual
noncomputable def OT.data:OT→PyData
 | .fz d=>d
 | .nd ts=>.list (OT.datas ts)
 | .tp ts=>.tuple (OT.datas ts)
 | .dc t ks ds=>dcD t ks ds
noncomputable def OT.datas:List OT→List PyData
 | []=>[]
 | t :: ts=>t.data :: OT.datas ts
end
theorem OT.datas_map:∀ (ts:List OT),OT.datas ts = ts.map OT.data
 | []=>rfl
 | t :: ts=>by rw [OT.datas,OT.datas_map ts]; rfl
@[simp] theorem OT.data_fz (d:PyData):(OT.fz d).data = d:=by rw [OT.data]
@[simp] theorem OT.data_nd (ts:List OT):(OT.nd ts).data = .list (ts.map OT.data):=by rw [OT.data,OT.datas_map]
@[simp] theorem OT.data_tp (ts:List OT):(OT.tp ts).data = .tuple (ts.map OT.data):=by rw [OT.data,OT.datas_map]
theorem OT.data_dc (t:Bool) (ks:List KY) (ds:List PyData):(OT.dc t ks ds).data = dcD t ks ds:=by rw [OT.data]
@[simp] theorem OT.map_fz (ds:List PyData):(ds.map OT.fz).map OT.data = ds:=by
 rw [List.map_map]
 exact (List.map_congr_left fun d _=>OT.data_fz d).trans (List.map_id _)
mutual
inductive Own (G:PySem.W.Frag) (H:Hp) (L:Addr→Prop):V→OT→List Addr→Prop where
 | fz {v:V} {d:PyData}:Da G H L v d→Own G H L v (.fz d) []
 | nd {a:Addr} {xs:List V} {ts:List OT} {bs:List Addr}:H a = some (.lst xs)→Owns G H L xs ts bs→Own G H L (.ref a) (.nd ts) (a :: bs)
 | tp {a:Addr} {xs:List V} {ts:List OT} {bs:List Addr}:H a = some (.tup xs)→Owns G H L xs ts bs→Own G H L (.ref a) (.tp ts) bs
 | dc {a:Addr} {o:MuO} {t:Bool} {ks:List KY} {xs:List V} {ds:List PyData}:H a = some o.ho→o.dic t ks xs→Das G H L xs ds→Own G H L (.ref a) (.dc t ks ds) [a]
inductive Owns (G:PySem.W.Frag) (H:Hp) (L:Addr→Prop):List V→List OT→List Addr→Prop where
 | nil:Owns G H L [] [] []
 | cons {x:V} {xs:List V} {t:OT} {ts:List OT} {as bs:List Addr}:Own G H L x t as→Owns G H L xs ts bs→Owns G H L (x :: xs) (t :: ts) (as ++ bs)
end
section
variable {H H':Hp} {L L':Addr→Prop}
theorem Own.both {P:V→OT→List Addr→Prop} {Q:List V→List OT→List Addr→Prop} (c1:∀ {v:V} {d:PyData},Da G H L v d→P v (.fz d) []) (c2:∀ {a:Addr} {xs:List V} {ts:List OT} {bs:List Addr},H a = some (.lst xs)→Q xs ts bs→P (.ref a) (.nd ts) (a :: bs))
  (c3:∀ {a:Addr} {xs:List V} {ts:List OT} {bs:List Addr},H a = some (.tup xs)→Q xs ts bs→P (.ref a) (.tp ts) bs) (c4:∀ {a:Addr} {o:MuO} {t:Bool} {ks:List KY} {xs:List V} {ds:List PyData},H a = some o.ho→o.dic t ks xs→Das G H L xs ds→P (.ref a) (.dc t ks ds) [a]) (n:Q [] [] []) (c:∀ {x:V} {xs:List V} {t:OT} {ts:List OT} {as bs:List Addr},P x t as→Q xs ts bs→Q (x :: xs) (t :: ts) (as ++ bs)) :
  (∀ {v t as},Own G H L v t as→P v t as)∧∀ {xs ts as},Owns G H L xs ts as→Q xs ts as :=
 ⟨fun h=>Own.rec (motive_1:=fun v t as _=>P v t as) (motive_2:=fun xs ts as _=>Q xs ts as) c1 (fun e _ r=>c2 e r) (fun e _ r=>c3 e r) (fun e k r=>c4 e k r) n (fun _ _ p q=>c p q) h,
   fun h=>Owns.rec (motive_1:=fun v t as _=>P v t as) (motive_2:=fun xs ts as _=>Q xs ts as) c1 (fun e _ r=>c2 e r) (fun e _ r=>c3 e r) (fun e k r=>c4 e k r) n (fun _ _ p q=>c p q) h⟩
theorem Own.frame2 (hl:∀ a (xs:MuO),L a→Rd H a xs.ho→L' a∧Rd H' a xs.ho) (ht:∀ a (xs:ImO),H a = some xs.ho→H' a = some xs.ho) :
  (∀ {v:V} {t:OT} {as:List Addr},Own G H L v t as→(∀ a ∈ as,∀ xs:MuO,H a = some xs.ho→H' a = some xs.ho)→Own G H' L' v t as)∧∀ {xs:List V} {ts:List OT} {as:List Addr},Owns G H L xs ts as→(∀ a ∈ as,∀ xs:MuO,H a = some xs.ho→H' a = some xs.ho)→Owns G H' L' xs ts as :=
 Own.both (fun h _=>.fz (h.frame hl ht)) (fun {_ xs _ _} e r ha=>.nd (ha _ (.head _) (.lst xs) e) (r fun a m=>ha a (.tail _ m))) (fun {_ xs _ _} e r ha=>.tp (ht _ (.tup xs) e) (r ha)) (fun e k r ha=>.dc (ha _ (.head _) _ e) k (r.frame hl ht)) (fun _=>.nil) (fun h r ha=>.cons (h fun a m=>ha a (List.mem_append_left _ m)) (r fun a m=>ha a (List.mem_append_right _ m)))
theorem Own.frame (hl:∀ a (xs:MuO),L a→Rd H a xs.ho→L' a∧Rd H' a xs.ho) (ht:∀ a (xs:ImO),H a = some xs.ho→H' a = some xs.ho) {v:V} {t:OT} {as:List Addr} (ha:∀ a ∈ as,∀ xs:MuO,H a = some xs.ho→H' a = some xs.ho) (h:Own G H L v t as):Own G H' L' v t as:=(Own.frame2 hl ht).1 h ha
theorem Owns.frame (hl:∀ a (xs:MuO),L a→Rd H a xs.ho→L' a∧Rd H' a xs.ho) (ht:∀ a (xs:ImO),H a = some xs.ho→H' a = some xs.ho) {xs:List V} {ts:List OT} {as:List Addr} (ha:∀ a ∈ as,∀ xs:MuO,H a = some xs.ho→H' a = some xs.ho) (h:Owns G H L xs ts as):Owns G H' L' xs ts as:=(Own.frame2 hl ht).2 h ha
theorem Own.same (h:Same H H') {v:V} {t:OT} {as:List Addr} (x:Own G H L v t as):Own G H' L v t as:=x.frame (fun a xs p e=>⟨p,e.same h⟩) (fun a xs e=>h _ _ e) fun a _ xs e=>h _ _ e
theorem Own.wide (h:∀ a,L a→H a ≠ none→L' a) {v:V} {t:OT} {as:List Addr} (x:Own G H L v t as):Own G H L' v t as:=x.frame (fun a xs p e=>⟨h a p e.some,e⟩) (fun a xs e=>e) fun a _ xs e=>e
theorem Owns.wide (h:∀ a,L a→H a ≠ none→L' a) {v:List V} {t:List OT} {as:List Addr} (x:Owns G H L v t as):Owns G H L' v t as:=x.frame (fun a xs p e=>⟨h a p e.some,e⟩) (fun a xs e=>e) fun a _ xs e=>e
theorem Owns.same (h:Same H H') {v:List V} {t:List OT} {as:List Addr} (x:Owns G H L v t as):Owns G H' L v t as:=x.frame (fun a xs p e=>⟨p,e.same h⟩) (fun a xs e=>h _ _ e) fun a _ xs e=>h _ _ e
theorem Own.da2 (h:∀ a,L a→H a ≠ none→L' a):(∀ {v:V} {t:OT} {as:List Addr},Own G H L v t as→(∀ a ∈ as,L' a)→Da G H L' v t.data)∧∀ {v:List V} {t:List OT} {as:List Addr},Owns G H L v t as→(∀ a ∈ as,L' a)→Das G H L' v (OT.datas t) :=
 Own.both (fun k _=>by rw [OT.data_fz]; exact k.wide h) (fun e r ha=>by rw [OT.data]; exact .lst (ha _ (.head _)) (.inl e) (r fun a m=>ha a (.tail _ m))) (fun e r ha=>by rw [OT.data]; exact .tup e (r ha)) (fun e k r ha=>by rw [OT.data]; exact .dic (ha _ (.head _)) (.inl e) k (r.wide h)) (fun _=>.nil) (fun k r ha=>.cons (k fun a m=>ha a (List.mem_append_left _ m)) (r fun a m=>ha a (List.mem_append_right _ m)))
theorem Own.da (h:∀ a,L a→H a ≠ none→L' a) {v:V} {t:OT} {as:List Addr} (ha:∀ a ∈ as,L' a) (k:Own G H L v t as):Da G H L' v t.data:=(Own.da2 h).1 k ha
theorem Owns.das (h:∀ a,L a→H a ≠ none→L' a) {v:List V} {t:List OT} {as:List Addr} (ha:∀ a ∈ as,L' a) (k:Owns G H L v t as):Das G H L' v (OT.datas t):=(Own.da2 h).2 k ha
theorem Own.some2:(∀ {v:V} {t:OT} {as:List Addr},Own G H L v t as→∀ a ∈ as,∃ xs:MuO,H a = some xs.ho)∧∀ {v:List V} {t:List OT} {as:List Addr},Owns G H L v t as→∀ a ∈ as,∃ xs:MuO,H a = some xs.ho :=
 Own.both (fun _ _ m=>nomatch m) (fun {_ xs _ _} e r a m=>(List.mem_cons.mp m).elim (fun q=>⟨.lst xs,q ▸ e⟩) (r a)) (fun _ r=>r) (fun {_ o _ _ _ _} e _ _ a m=>⟨o,List.mem_singleton.mp m ▸ e⟩) (fun _ m=>nomatch m) (fun k r a m=>(List.mem_append.mp m).elim (k a) (r a))
theorem Own.some {v:V} {t:OT} {as:List Addr} (h:Own G H L v t as):∀ a ∈ as,∃ xs:MuO,H a = some xs.ho:=Own.some2.1 h
theorem Owns.some {v:List V} {t:List OT} {as:List Addr} (h:Owns G H L v t as):∀ a ∈ as,∃ xs:MuO,H a = some xs.ho:=Own.some2.2 h
theorem Owns.length {xs:List V} {ts:List OT} {as:List Addr} (h:Owns G H L xs ts as):xs.length = ts.length:=(Own.both (P:=fun _ _ _=>True) (Q:=fun xs ts _=>xs.length = ts.length) (fun _=>trivial) (fun _ _=>trivial) (fun _ _=>trivial) (fun _ _ _=>trivial) rfl (fun _ r=>congrArg (· + 1) r)).2 h
theorem Das.owns {xs:List V} {ds:List PyData} (h:Das G H L xs ds):Owns G H L xs (ds.map OT.fz) []:=Das.ind (Q:=fun xs ds=>Owns G H L xs (ds.map OT.fz) []) .nil (fun h _ r=>.cons (.fz h) r) h
end
end L2
namespace L2
open PySem PySem.Spec PyProof.Rows
variable {G:PySem.W.Frag}
noncomputable abbrev Zr:=List (Option OT)
noncomputable abbrev Fp:=Nat→List Addr
set_option genInjectivity false in
structure MC (G:PySem.W.Frag) where
 H₀:Hp
 as₀:Addr→Prop
 L:Addr→Prop
 σ₀:St
noncomputable def Foot (fp:Fp) (a:Addr):Prop:=∃ i,a ∈ fp i
noncomputable def Lf (C:MC G) (fp:Fp) (ex:Addr→Prop) (a:Addr):Prop:=¬ Foot fp a∧¬ ex a∧(C.L a∨C.H₀ a = none)
structure Rel (C:MC G) (io:List Nat) (H:Hp) (σ:St) (δ:Zr) (fp:Fp) (ex:Addr→Prop):Prop where
 len:σ.length = δ.length
 own:∀ (i:Nat) (t:OT),δ[i]? = some (some t)→∃ v,σ[i]? = some (some v)∧Own G H (Lf C fp ex) v t (fp i)
 emp:∀ i:Nat,(∀ t,δ[i]? ≠ some (some t))→fp i = []
 nd:∀ i,(fp i).Nodup
 dj:∀ i j a,a ∈ fp i→a ∈ fp j→i = j
 dx:∀ i a,a ∈ fp i→¬ ex a
 xa:∀ a,ex a→H a ≠ none
 fr:∀ b o,C.H₀ b = some o→¬ C.as₀ b→H b = some o
 al:∀ b,H b = none→C.H₀ b = none
 new:∀ i a,a ∈ fp i→(i ∈ io∧C.as₀ a)∨C.H₀ a = none
 io:∀ i ∈ io,σ[i]? = C.σ₀[i]?
structure Stp (p:Bool) (H:Hp) (δ:Zr) (fp:Fp) (H':Hp) (δ':Zr) (fp':Fp):Prop where
 keep:∀ b o,H b = some o→(p = true∨¬ Foot fp b)→H' b = some o
 env:p = true→δ' = δ∧fp' = fp
 grow:∀ a,Foot fp' a→Foot fp a∨H a = none
 al:∀ b,H' b = none→H b = none
section
variable {C:MC G} {io:List Nat} {H H' H'':Hp} {σ:St} {δ δ' δ'':Zr} {fp fp' fp'':Fp} {ex ex':Addr→Prop} {p p' c:Bool} {v:V} {d:PyData} {r:OT} {new:List Addr}
theorem Rel.foot (R:Rel C io H σ δ fp ex) {a:Addr} (h:Foot fp a):∃ xs:MuO,H a = some xs.ho:=by
 obtain ⟨i,h⟩:=h
 by_cases q:∃ t,δ[i]? = some (some t)
 ·obtain ⟨t,q⟩:=q
  obtain ⟨v,_,o⟩:=R.own i t q
  exact o.some a h
 ·rw [R.emp i (fun t z=>q ⟨t,z⟩)] at h
  exact nomatch h
theorem Rel.footSome (R:Rel C io H σ δ fp ex) {a:Addr} (h:H a = none):¬ Foot fp a:=fun z=>by
 obtain ⟨xs,e⟩:=R.foot z
 rw [h] at e
 cases e
theorem Stp.refl (p:Bool) (H:Hp) (δ:Zr) (fp:Fp):Stp p H δ fp H δ fp:=⟨fun _ _ h _=>h,fun _=>⟨rfl,rfl⟩,fun _ h=>.inl h,fun _ h=>h⟩
theorem Stp.same (h:Same H H') (hn:∀ b,H' b = none→H b = none):Stp p H δ fp H' δ fp:=⟨fun _ _ q _=>h _ _ q,fun _=>⟨rfl,rfl⟩,fun _ h=>.inl h,hn⟩
theorem Same.al (h:Same H H'):∀ b,H' b = none→H b = none:=fun _ q=>h.free q
theorem Stp.trans (a:Stp p H δ fp H' δ' fp') (b:Stp p' H' δ' fp' H'' δ'' fp''):Stp (p && p') H δ fp H'' δ'' fp'' where
 keep:=fun x o e h=>by
  rcases h with h | h
  ·rw [Bool.and_eq_true] at h
   exact b.keep x o (a.keep x o e (.inl h.1)) (.inl h.2)
  ·refine b.keep x o (a.keep x o e (.inr h)) (.inr fun z=>?_)
   rcases a.grow x z with z | z
   ·exact h z
   ·rw [e] at z; cases z
 env:=fun h=>by
  rw [Bool.and_eq_true] at h
  obtain ⟨e1,e2⟩:=a.env h.1
  obtain ⟨e3,e4⟩:=b.env h.2
  exact ⟨e3.trans e1,e4.trans e2⟩
 grow:=fun x h=>by
  rcases b.grow x h with h | h
  ·exact a.grow x h
  ·exact .inr (a.al x h)
 al:=fun x h=>a.al x (b.al x h)
theorem Rel.frameL (R:Rel C io H σ δ fp ex) (S:Stp p H δ fp H' δ' fp') (hc:p = true∨c = true) (hx:∀ a,ex' a→ex a∨H a = none) :
  (∀ a (xs:MuO),(c = true→Lf C fp ex a)→Rd H a xs.ho→(c = true→Lf C fp' ex' a)∧Rd H' a xs.ho)∧(∀ a (xs:ImO),H a = some xs.ho→H' a = some xs.ho):=by
 have nf:∀ a,Foot fp a→∃ xs:MuO,H a = some xs.ho:=fun a h=>R.foot h
 refine ⟨fun a xs l q=>⟨fun hc'=>?_,?_⟩,fun a xs q=>S.keep a _ q (.inr fun z=>?_)⟩
 ·obtain ⟨l1,l2,l3⟩:=l hc'
  refine ⟨fun z=>?_,fun z=>?_,l3⟩
  ·rcases S.grow a z with z | z
   ·exact l1 z
   ·exact q.some z
  ·rcases hx a z with z | z
   ·exact l2 z
   ·exact q.some z
 ·have hk:p = true∨¬ Foot fp a:=by
   rcases hc with h | h
   ·exact .inl h
   ·exact .inr (l h).1
  rcases q with q | ⟨o,q⟩
  ·exact .inl (S.keep a _ q hk)
  ·exact .inr ⟨o,S.keep a _ q hk⟩
 ·obtain ⟨ys,e⟩:=nf a z
  exact ImO.nm q e
theorem Rel.own_step (R:Rel C io H σ δ fp ex) (S:Stp p H δ fp H' δ' fp') (hc:p = true∨c = true) (hx:∀ a,ex' a→ex a∨H a = none) (hn:∀ a ∈ new,ex a)
  (x:Own G H (fun a=>c = true→Lf C fp ex a) v r new):Own G H' (fun a=>c = true→Lf C fp' ex' a) v r new :=
 x.frame (R.frameL S hc hx).1 (R.frameL S hc hx).2 fun a m xs e=>S.keep a _ e (.inr fun ⟨i,z⟩=>R.dx i a z (hn a m))
theorem Rel.owns_step (R:Rel C io H σ δ fp ex) (S:Stp p H δ fp H' δ' fp') (hc:p = true∨c = true) (hx:∀ a,ex' a→ex a∨H a = none) (hn:∀ a ∈ new,ex a) {vs:List V} {rs:List OT}
  (x:Owns G H (fun a=>c = true→Lf C fp ex a) vs rs new):Owns G H' (fun a=>c = true→Lf C fp' ex' a) vs rs new :=
 x.frame (R.frameL S hc hx).1 (R.frameL S hc hx).2 fun a m xs e=>S.keep a _ e (.inr fun ⟨i,z⟩=>R.dx i a z (hn a m))
theorem Rel.drop (R:Rel C io H σ δ fp ex) (h:∀ a,ex' a→ex a):Rel C io H σ δ fp ex' :=
 ⟨R.len,fun i t e=>by
  obtain ⟨v,e1,o⟩:=R.own i t e
  exact ⟨v,e1,o.wide fun a l _=>⟨l.1,fun z=>l.2.1 (h a z),l.2.2⟩⟩,R.emp,R.nd,R.dj,fun i a m z=>R.dx i a m (h a z),fun a z=>R.xa a (h a z),R.fr,R.al,R.new,R.io⟩
theorem Rel.made (R:Rel C io H σ δ fp ex) (s:Same H H') (hn:∀ a ∈ new,H a = none∧H' a ≠ none):Rel C io H' σ δ fp (fun a=>ex a∨a ∈ new) :=
 ⟨R.len,fun i t e=>by
  obtain ⟨v,e1,o⟩:=R.own i t e
  refine ⟨v,e1,(o.wide fun a l q=>⟨l.1,fun z=>?_,l.2.2⟩).same s⟩
  rcases z with z | z
  ·exact l.2.1 z
  ·exact q (hn a z).1,R.emp,R.nd,R.dj,fun i a m z=>by
   rcases z with z | z
   ·exact R.dx i a m z
   ·exact R.footSome (hn a z).1 ⟨i,m⟩,fun a z=>by
   rcases z with z | z
   ·intro q; exact R.xa a z (s.free q)
   ·exact (hn a z).2,fun b o e n=>s _ _ (R.fr b o e n),fun b q=>R.al b (s.free q),R.new,R.io⟩
end
noncomputable abbrev MEt:=Zr→(OT→Zr→Prop)→Prop
noncomputable abbrev MAt:=Zr→(List OT→Zr→Prop)→Prop
noncomputable abbrev MTt:=Zr→(Bool→Zr→Prop)→Prop
noncomputable abbrev exu (ex:Addr→Prop) (new:List Addr):Addr→Prop:=fun a=>ex a∨a ∈ new
structure RE (C:MC G) (io:List Nat) (p c:Bool) (H:Hp) (σ:St) (δ:Zr) (fp:Fp) (ex:Addr→Prop) (H':Hp) (v:V) (r:OT) (δ':Zr) (fp':Fp) (new:List Addr):Prop where
 rel:Rel C io H' σ δ' fp' (exu ex new)
 stp:Stp p H δ fp H' δ' fp'
 own:Own G H' (fun a=>c = true→Lf C fp' (exu ex new) a) v r new
 nd:new.Nodup
 fresh:∀ a ∈ new,H a = none
structure RA (C:MC G) (io:List Nat) (p c:Bool) (H:Hp) (σ:St) (δ:Zr) (fp:Fp) (ex:Addr→Prop) (H':Hp) (v:List V) (r:List OT) (δ':Zr) (fp':Fp) (new:List Addr):Prop where
 rel:Rel C io H' σ δ' fp' (exu ex new)
 stp:Stp p H δ fp H' δ' fp'
 own:Owns G H' (fun a=>c = true→Lf C fp' (exu ex new) a) v r new
 nd:new.Nodup
 fresh:∀ a ∈ new,H a = none
noncomputable def SE (G:PySem.W.Frag) (io:List Nat) (p c:Bool) (t:TE) (m:MEt):Prop:=∀ (C:MC G) (H:Hp) (σ:St) (δ:Zr) (fp:Fp) (ex:Addr→Prop) (K:OT→Zr→Prop) (Q:VK),Rel C io H σ δ fp ex→m δ K →
 (∀ H' v r δ' fp' new,RE C io p c H σ δ fp ex H' v r δ' fp' new→K r δ'→Q v H')→t σ H Q
noncomputable def SA (G:PySem.W.Frag) (io:List Nat) (p c:Bool) (t:TA) (m:MAt):Prop:=∀ (C:MC G) (H:Hp) (σ:St) (δ:Zr) (fp:Fp) (ex:Addr→Prop) (K:List OT→Zr→Prop) (Q:List V→Hp→Prop),Rel C io H σ δ fp ex→m δ K →
 (∀ H' v r δ' fp' new,RA C io p c H σ δ fp ex H' v r δ' fp' new→K r δ'→Q v H')→t σ H Q
noncomputable def STt (G:PySem.W.Frag) (io:List Nat) (p:Bool) (t:TT) (m:MTt):Prop:=∀ (C:MC G) (H:Hp) (σ:St) (δ:Zr) (fp:Fp) (ex:Addr→Prop) (K:Bool→Zr→Prop) (Q:Bool→Hp→Prop),Rel C io H σ δ fp ex→m δ K →
 (∀ H' b δ' fp',Rel C io H' σ δ' fp' ex→Stp p H δ fp H' δ' fp'→K b δ'→Q b H')→t σ H Q
noncomputable def ME (X:Cx) (io:List Nat) (p c:Bool) (e:Expr) (m:MEt):Prop:=∃ t,PE X e t∧SE X.K io p c t m
noncomputable def MA (X:Cx) (io:List Nat) (p c:Bool) (e:List Expr) (m:MAt):Prop:=∃ t,PA X e t∧SA X.K io p c t m
noncomputable def MT (X:Cx) (io:List Nat) (p:Bool) (e:Expr) (m:MTt):Prop:=∃ t,PT X e t∧STt X.K io p t m
noncomputable def MW (X:Cx) (io:List Nat) (p:Bool) (e:Expr) (m:MTt):Prop:=∃ t,PW X e t∧STt X.K io p t m
section
variable {C:MC G} {io:List Nat} {H H' H'':Hp} {σ:St} {δ δ' δ'':Zr} {fp fp' fp'':Fp} {ex ex':Addr→Prop} {p p' c:Bool} {v:V} {d:PyData} {r:OT} {vs:List V} {rs:List OT} {new:List Addr}
theorem Rel.newOk (R:Rel C io H σ δ fp ex) {a:Addr} (h:H a = none):¬ Foot fp a∧¬ ex a∧C.H₀ a = none:=⟨R.footSome h,fun z=>R.xa a z h,R.al a h⟩
theorem RE.da (R:RE C io p c H σ δ fp ex H' v r δ' fp' new) (R0:Rel C io H σ δ fp ex):Da G H' (fun a=>c = true→Lf C fp' ex a) v r.data:=by
 refine R.own.da (fun a l _ h=>?_) (fun a m _=>?_)
 ·exact ⟨(l h).1,fun z=>(l h).2.1 (.inl z),(l h).2.2⟩
 ·refine ⟨fun qz9=>?_,(R0.newOk (R.fresh a m)).2.1,.inr (R0.newOk (R.fresh a m)).2.2⟩
  obtain ⟨i,z⟩:=qz9
  exact R.rel.dx i a z (.inr m)
theorem RA.das (R:RA C io p c H σ δ fp ex H' vs rs δ' fp' new) (R0:Rel C io H σ δ fp ex):Das G H' (fun a=>c = true→Lf C fp' ex a) vs (OT.datas rs):=by
 refine R.own.das (fun a l _ h=>?_) (fun a m _=>?_)
 ·exact ⟨(l h).1,fun z=>(l h).2.1 (.inl z),(l h).2.2⟩
 ·refine ⟨fun qz9=>?_,(R0.newOk (R.fresh a m)).2.1,.inr (R0.newOk (R.fresh a m)).2.2⟩
  obtain ⟨i,z⟩:=qz9
  exact R.rel.dx i a z (.inr m)
theorem RE.base (R:RE C io p c H σ δ fp ex H' v r δ' fp' new):Rel C io H' σ δ' fp' ex:=R.rel.drop fun a z=>.inl z
theorem RA.base (R:RA C io p c H σ δ fp ex H' vs rs δ' fp' new):Rel C io H' σ δ' fp' ex:=R.rel.drop fun a z=>.inl z
theorem Zd6 {a:Addr}:exu ex [] a ↔ ex a:=by simp [exu]
theorem RE.fz (R:Rel C io H' σ δ' fp' ex) (S:Stp p H δ fp H' δ' fp') (h:Da G H' (fun a=>c = true→Lf C fp' ex a) v d):RE C io p c H σ δ fp ex H' v (.fz d) δ' fp' [] :=
 ⟨R.drop fun a z=>Zd6.mp z,S,.fz (h.wide fun a l _ hc=>⟨(l hc).1,fun z=>(l hc).2.1 (Zd6.mp z),(l hc).2.2⟩),.nil,fun a m=>nomatch m⟩
theorem RE.tree {H1:Hp} (R0:Rel C io H σ δ fp ex) (R:Rel C io H1 σ δ' fp' ex) (S:Stp p H δ fp H1 δ' fp') (s:Same H1 H') (hn:∀ a ∈ new,H1 a = none) (nd:new.Nodup)
  (o:Own G H' (fun a=>((c = true→Lf C fp' ex a)∨H1 a = none)∧a ∉ new) v r new):RE C io p c H σ δ fp ex H' v r δ' fp' new:=by
 refine ⟨R.made s fun a m=>⟨hn a m,fun z=>?_⟩,?_,o.wide fun a l q hc=>?_,nd,fun a m=>S.al a (hn a m)⟩
 ·obtain ⟨xs,e⟩:=o.some a m
  rw [z] at e; cases e
 ·have:=S.trans (p':=true) (Stp.same (p:=true) (δ:=δ') (fp:=fp') s s.al)
  rwa [Bool.and_true] at this
 ·rcases l.1 with l1 | l1
  ·exact ⟨(l1 hc).1,fun z=>z.elim (l1 hc).2.1 l.2,(l1 hc).2.2⟩
  ·exact ⟨R.footSome l1,fun z=>z.elim (fun z=>R.xa a z l1) l.2,.inr (R.al a l1)⟩
end
inductive ScD:V→PyData→Prop where
 | non:ScD .non .none
 | bl (b:Bool):ScD (.bl b) (.bool b)
 | int (i:Int):ScD (.int i) (.int i)
 | str (x:Str):ScD (.str x) (.str x)
theorem ScD.da {H:Hp} {L:Addr→Prop} {v:V} {d:PyData} (h:ScD v d):Da G H L v d:=by
 cases h
 ·exact .non
 ·exact .bl _
 ·exact .int _
 ·exact .str _
section
variable {X:Cx} {io:List Nat} {p p' c c':Bool} {e a b:Expr} {m ma mb:MEt} {es:List Expr}
noncomputable def Z4e (i:Nat):MEt:=fun δ K=>match δ[i]? with | some (some (.fz d))=>K (.fz d) δ | _=>False
noncomputable def Z4q (i:Nat):MEt:=fun δ K=>match δ[i]? with | some (some t)=>K (.fz t.data) δ | _=>False
noncomputable def mC (d:PyData):MEt:=fun δ K=>K (.fz d) δ
theorem mv (i:Nat) {x:Str} {pos:Pos} (hN:X.N[i]? = some x:=by rfl) (hv:Vis X.env.scope x:=by first | exact Or.inl rfl | exact Or.inr (Or.inl rfl) | exact Or.inr (Or.inr rfl)) (hd:(x == ("__debug__" : Str)) = false:=by decide)
  (hcd:(x == ("__classdict__" : Str)) = false:=by decide):ME X io true true (.Name x pos) (Z4e i):=by
 refine ⟨_,pv i hN hv hd hcd,fun C H σ δ fp ex K Q R h k=>?_⟩
 unfold Z4e at h
 split at h
 ·rename_i d hd
  obtain ⟨v,e,o⟩:=R.own i _ hd
  refine ⟨v,e,k H v _ δ fp [] (.fz R (.refl _ _ _ _) ?_) h⟩
  generalize fp i = as at o
  cases o with
  | fz q=>exact q.wide fun a l _ _=>l
 ·exact h.elim
theorem mo (i:Nat) {x:Str} {pos:Pos} (hN:X.N[i]? = some x:=by rfl) (hv:Vis X.env.scope x:=by first | exact Or.inl rfl | exact Or.inr (Or.inl rfl) | exact Or.inr (Or.inr rfl)) (hd:(x == ("__debug__" : Str)) = false:=by decide)
  (hcd:(x == ("__classdict__" : Str)) = false:=by decide):ME X io true false (.Name x pos) (Z4q i):=by
 refine ⟨_,pv i hN hv hd hcd,fun C H σ δ fp ex K Q R h k=>?_⟩
 unfold Z4q at h
 split at h
 ·rename_i d hd
  obtain ⟨v,e,o⟩:=R.own i _ hd
  exact ⟨v,e,k H v _ δ fp [] (.fz R (.refl _ _ _ _) (o.da (fun a _ _ z=>(nomatch z)) fun a _ z=>(nomatch z))) h⟩
 ·exact h.elim
theorem Zj5 {t:V} {d:PyData} (h:PE X e (tC t)) (s:ScD t d):ME X io true true e (mC d) :=
 ⟨_,h,fun C H σ δ fp ex K Q R h k=>k H t _ δ fp [] (.fz R (.refl _ _ _ _) s.da) h⟩
theorem Zo {i j pos}:ME X io true true (.Constant (.int i) j pos) (mC (.int i)):=Zj5 Z2z (.int i)
theorem Zik {b j pos}:ME X io true true (.Constant (.bool b) j pos) (mC (.bool b)):=Zj5 Z4s (.bl b)
theorem Zfd {j pos}:ME X io true true (.Constant .none j pos) (mC .none):=Zj5 Z34 .non
theorem Zni {x j pos}:ME X io true true (.Constant (.str x) j pos) (mC (.str x)):=Zj5 Z0m (.str x)
theorem SE.two {ta tb:TE} (ha:SE G io p c ta ma) (hb:SE G io p' c' tb mb) (hc:p' = true∨c = true) {C:MC G} {H:Hp} {σ:St} {δ:Zr} {fp:Fp} {ex:Addr→Prop} {K:OT→OT→Zr→Prop} {Q:V→V→Hp→Prop}
  (R:Rel C io H σ δ fp ex) (h:ma δ fun x δ1=>mb δ1 fun y δ2=>K x y δ2)
  (k:∀ H' x y u v δ' fp',Rel C io H' σ δ' fp' ex→Stp (p && p') H δ fp H' δ' fp'→Da G H' (fun a=>(c && c') = true→Lf C fp' ex a) x u.data→Da G H' (fun a=>(c && c') = true→Lf C fp' ex a) y v.data→K u v δ'→Q x y H') :
  ta σ H fun x H1=>tb σ H1 fun y H2=>Q x y H2:=by
 refine ha C H σ δ fp ex _ _ R h fun H1 x u δ1 fp1 new1 r1 h1=>?_
 refine hb C H1 σ δ1 fp1 (exu ex new1) _ _ r1.rel h1 fun H2 y v δ2 fp2 new2 r2 h2=>?_
 have o1:=r1.rel.own_step (ex':=exu (exu ex new1) new2) r2.stp (c:=c) hc (fun a z=>z.imp id fun z=>r2.fresh a z) (fun a m=>.inr m) r1.own
 have R2:Rel C io H2 σ δ2 fp2 ex:=r2.rel.drop fun a z=>.inl (.inl z)
 have q1:Da G H2 (fun a=>c = true→Lf C fp2 ex a) x u.data:=by
  refine o1.da (fun a l _ z=>?_) (fun a m z=>?_)
  ·exact ⟨(l z).1,fun w=>(l z).2.1 (.inl (.inl w)),(l z).2.2⟩
  ·have:=R.newOk (r1.fresh a m)
   refine ⟨fun qz9=>?_,this.2.1,.inr this.2.2⟩
   obtain ⟨i,w⟩:=qz9
   exact r2.rel.dx i a w (.inl (.inr m))
 have q2:=r2.da r1.rel
 refine k H2 x y u v δ2 fp2 R2 (r1.stp.trans r2.stp) (q1.wide fun a l _ z=>l (by rw [Bool.and_eq_true] at z; exact z.1)) (q2.wide fun a l _ z=>?_) h2
 have l:=l (by rw [Bool.and_eq_true] at z; exact z.2)
 exact ⟨l.1,fun w=>l.2.1 (.inl w),l.2.2⟩
noncomputable def P2s (G:PySem.W.Frag) (r:R2) (rp:PyData→PyData→(PyData→Prop)→Prop):Prop:=∀ (H:Hp) (L:Addr→Prop) (x y:V) (d e:PyData) (k:PyData→Prop) (Q:VK),Da G H L x d→Da G H L y e→rp d e k→(∀ v d',ScD v d'→k d'→Q v H)→r x y H Q
noncomputable def P2 (G:PySem.W.Frag) (r:R2) (rp:PyData→PyData→(OT→Prop)→Prop):Prop:=∀ (H:Hp) (L:Addr→Prop) (x y:V) (d e:PyData) (k:OT→Prop) (Q:VK),Da G H L x d→Da G H L y e→rp d e k →
 (∀ H' v o new,Same H H'→Own G H' (fun a=>(L a∨H a = none)∧a ∉ new) v o new→new.Nodup→(∀ a ∈ new,H a = none)→k o→Q v H')→r x y H Q
noncomputable def Zmd (rp:PyData→PyData→(PyData→Prop)→Prop) (ma mb:MEt):MEt:=fun δ K=>ma δ fun x δ1=>mb δ1 fun y δ2=>rp x.data y.data fun d=>K (.fz d) δ2
noncomputable def Z4j (rp:PyData→PyData→(OT→Prop)→Prop) (ma mb:MEt):MEt:=fun δ K=>ma δ fun x δ1=>mb δ1 fun y δ2=>rp x.data y.data fun d=>K d δ2
theorem Zwy {r:R2} {rp} {ta tb:TE} (P:P2s G r rp) (ha:SE G io p c ta ma) (hb:SE G io p' c' tb mb) (hc:p' = true∨c = true):SE G io (p && p') true (tOp r ta tb) (Zmd rp ma mb):=by
 intro C H σ δ fp ex K Q R h k
 refine SE.two (K:=fun x y δ2=>rp x.data y.data fun d=>K (.fz d) δ2) (Q:=fun x y H2=>r x y H2 Q) ha hb hc R h fun H' x y u v δ' fp' R' S q1 q2 h'=>?_
 exact P H' _ x y _ _ _ _ q1 q2 h' fun w d' sc h''=>k H' w _ δ' fp' [] (.fz R' S sc.da) h''
theorem Z7m {r:R2} {rp} {ta tb:TE} (P:P2 G r rp) (ha:SE G io p c ta ma) (hb:SE G io p' c' tb mb) (hc:p' = true∨c = true):SE G io (p && p') (c && c') (tOp r ta tb) (Z4j rp ma mb):=by
 intro C H σ δ fp ex K Q R h k
 refine SE.two (K:=fun x y δ2=>rp x.data y.data fun d=>K d δ2) (Q:=fun x y H2=>r x y H2 Q) ha hb hc R h fun H' x y u v δ' fp' R' S q1 q2 h'=>?_
 exact P H' _ x y _ _ _ _ q1 q2 h' fun H2 w o new s ow nd hn h''=>k H2 w o δ' fp' new (RE.tree R R' S s hn nd ow) h''
theorem Yd {op:Operator} {r:R2} {rp} {pos:Pos} (ho:OpR X (binaryOp op) r) (P:P2s X.K r rp) (ha:ME X io p c a ma) (hb:ME X io p' c' b mb) (hc:p' = true∨c = true:=by first | exact Or.inl rfl | exact Or.inr rfl):ME X io (p && p') true (.BinOp a op b pos) (Zmd rp ma mb):=by
 obtain ⟨_,A,sa⟩:=ha
 obtain ⟨_,B,sb⟩:=hb
 exact ⟨_,Z1s ho A B,Zwy P sa sb hc⟩
theorem Zvn {op:Operator} {r:R2} {rp} {pos:Pos} (ho:OpR X (binaryOp op) r) (P:P2 X.K r rp) (ha:ME X io p c a ma) (hb:ME X io p' c' b mb) (hc:p' = true∨c = true:=by first | exact Or.inl rfl | exact Or.inr rfl):ME X io (p && p') (c && c') (.BinOp a op b pos) (Z4j rp ma mb):=by
 obtain ⟨_,A,sa⟩:=ha
 obtain ⟨_,B,sb⟩:=hb
 exact ⟨_,Z1s ho A B,Z7m P sa sb hc⟩
theorem Zmm {op:CmpOp} {r:R2} {rp} {pos:Pos} (ho:OpR X (compareOp op) r) (P:P2s X.K r rp) (ha:ME X io p c a ma) (hb:ME X io p' c' b mb) (hc:p' = true∨c = true:=by first | exact Or.inl rfl | exact Or.inr rfl) (hm:behindInMarks op b = false):ME X io (p && p') true (.Compare a [op] [b] pos) (Zmd rp ma mb):=by
 obtain ⟨_,A,sa⟩:=ha
 obtain ⟨_,B,sb⟩:=hb
 exact ⟨_,Zx2 ho A B hm,Zwy P sa sb hc⟩
theorem Zbb {r:R2} {rp} {pos:Pos} (ho:IxR X r) (P:P2 X.K r rp) (ha:ME X io p c a ma) (hb:ME X io p' c' b mb) (hc:p' = true∨c = true:=by first | exact Or.inl rfl | exact Or.inr rfl) (hs:Zms b):ME X io (p && p') (c && c') (.Subscript a b pos) (Z4j rp ma mb):=by
 obtain ⟨_,A,sa⟩:=ha
 obtain ⟨_,B,sb⟩:=hb
 exact ⟨_,Z3n ho A B hs,Z7m P sa sb hc⟩
noncomputable def kB (K:Bool→Zr→Prop):OT→Zr→Prop:=fun o δ=>match o with | .fz (.bool b)=>K b δ | _=>False
theorem Z5x {t:TE} (h:SE G io p c t m):STt G io p (Z2a t) (fun δ K=>m δ (kB K)):=by
 intro C H σ δ fp ex K Q R h' k
 refine h C H σ δ fp ex _ _ R h' fun H' v r δ' fp' new r1 h1=>?_
 cases r with
 | nd ts=>exact h1.elim
 | tp ts=>exact h1.elim
 | dc _ _ _=>exact h1.elim
 | fz d =>
  cases d with
  | bool b =>
   cases r1.own with
   | fz q =>
    cases q
    exact ⟨b,rfl,k H' b δ' fp' r1.base r1.stp h1⟩
  | _=>exact h1.elim
theorem Wn {op:CmpOp} {r:R2} {rp} {pos:Pos} (ho:OpR X (compareOp op) r) (P:P2s X.K r rp) (ha:ME X io p c a ma) (hb:ME X io p' c' b mb) (hc:p' = true∨c = true:=by first | exact Or.inl rfl | exact Or.inr rfl) (hm:behindInMarks op b = false) :
  MT X io (p && p') (.Compare a [op] [b] pos) (fun δ K=>Zmd rp ma mb δ (kB K)):=by
 obtain ⟨_,A,sa⟩:=ha
 obtain ⟨_,B,sb⟩:=hb
 exact ⟨_,Zw3 ho A B hm,Z5x (Zwy P sa sb hc)⟩
end
end L2
namespace L2
open PySem PySem.Spec PyProof.Rows
variable {G:PySem.W.Frag}
section
variable {X:Cx} {io:List Nat} {p p' p'' c c':Bool} {e a b:Expr} {m ma mb:MEt} {es rest:List Expr} {ta tb:MTt} {pos:Pos}
noncomputable def Z75 (t:MTt):MTt:=fun δ K=>t δ fun b δ'=>K (!b) δ'
noncomputable def Z68 (t u:MTt):MTt:=fun δ K=>t δ fun b δ'=>if b = true then u δ' K else K false δ'
noncomputable def mOr (t u:MTt):MTt:=fun δ K=>t δ fun b δ'=>if b = true then K true δ' else u δ' K
theorem Zei (h:MT X io p a ta):MT X io p (.UnaryOp .Not a pos) (Z75 ta):=by
 obtain ⟨_,A,sa⟩:=h
 exact ⟨_,Z3k A,fun C H σ δ fp ex K Q R h k=>sa C H σ δ fp ex _ _ R h fun H' b δ' fp' R' S h'=>k H' (!b) δ' fp' R' S h'⟩
theorem Znc (h:MT X io p a ta):MW X io p (.BoolOp .And [a] pos) ta:=by
 obtain ⟨_,A,sa⟩:=h
 exact ⟨_,Zw1 A,sa⟩
theorem Zi0 (h:MT X io p a ta):MW X io p (.BoolOp .Or [a] pos) ta:=by
 obtain ⟨_,A,sa⟩:=h
 exact ⟨_,Z2d A,sa⟩
theorem Stp.andL {H H':Hp} {δ δ':Zr} {fp fp':Fp} (S:Stp p H δ fp H' δ' fp'):Stp (p && p') H δ fp H' δ' fp':=by
 have:=S.trans (Stp.refl p' H' δ' fp')
 exact this
theorem Zqb (h:MT X io p a ta) (g:MW X io p' (.BoolOp .And (b :: rest) pos) tb):MW X io (p && p') (.BoolOp .And (a :: b :: rest) pos) (Z68 ta tb):=by
 obtain ⟨_,A,sa⟩:=h
 obtain ⟨_,B,sb⟩:=g
 exact ⟨_,Z0s A B,fun C H σ δ fp ex K Q R h k=>sa C H σ δ fp ex _ _ R h fun H' b δ' fp' R' S h'=>by
  cases b with
  | true =>
   rw [if_pos rfl] at h' ⊢
   exact sb C H' σ δ' fp' ex _ _ R' h' fun H2 b2 δ2 fp2 R2 S2 h2=>k H2 b2 δ2 fp2 R2 (S.trans S2) h2
  | false =>
   rw [if_neg Bool.false_ne_true] at h' ⊢
   exact k H' false δ' fp' R' S.andL h'⟩
theorem Zjz (h:MT X io p a ta) (g:MW X io p' (.BoolOp .Or (b :: rest) pos) tb):MW X io (p && p') (.BoolOp .Or (a :: b :: rest) pos) (mOr ta tb):=by
 obtain ⟨_,A,sa⟩:=h
 obtain ⟨_,B,sb⟩:=g
 exact ⟨_,Z5q A B,fun C H σ δ fp ex K Q R h k=>sa C H σ δ fp ex _ _ R h fun H' b δ' fp' R' S h'=>by
  cases b with
  | true =>
   rw [if_pos rfl] at h' ⊢
   exact k H' true δ' fp' R' S.andL h'
  | false =>
   rw [if_neg Bool.false_ne_true] at h' ⊢
   exact sb C H' σ δ' fp' ex _ _ R' h' fun H2 b2 δ2 fp2 R2 S2 h2=>k H2 b2 δ2 fp2 R2 (S.trans S2) h2⟩
theorem MW.mt (h:MW X io p e ta):MT X io p e ta:=by
 obtain ⟨_,A,sa⟩:=h
 exact ⟨_,A.pt,sa⟩
noncomputable def Z4b:PyData→Option Bool
 | .none=>some false
 | .bool b=>some b
 | .int i=>some (i != 0)
 | .list ds=>some (!ds.isEmpty)
 | .tuple ds=>some (!ds.isEmpty)
 | _=>none
noncomputable def Z7z (m:MEt):MTt:=fun δ K=>m δ fun r δ'=>match Z4b r.data with | some b=>K b δ' | none=>False
theorem Das.isEmpty {H:Hp} {L:Addr→Prop} {xs:List V} {ds:List PyData} (h:Das G H L xs ds):xs.isEmpty = ds.isEmpty:=by cases h <;> rfl
theorem Zde (ha:ME X io p c a ma) (he:∀ whole,isTrue a X.env whole = (do let v ← whole; standAt a.pos; holding [v] (truthy v))):MT X io p a (Z7z ma):=by
 obtain ⟨_,A,sa⟩:=ha
 exact ⟨_,Zxq rfl A he,fun C H σ δ fp ex K' Q R h k=>sa C H σ δ fp ex _ _ R h fun H' v r δ' fp' new r1 h1=>by
  have q:=r1.da R
  generalize r.data = d at q h1
  cases q with
  | non=>exact ⟨_,rfl,k H' _ δ' fp' r1.base r1.stp h1⟩
  | bl b=>exact ⟨_,rfl,k H' _ δ' fp' r1.base r1.stp h1⟩
  | int b=>exact ⟨_,rfl,k H' _ δ' fp' r1.base r1.stp h1⟩
  | str x=>exact h1.elim
  | lst _ e q=>exact ⟨_,.inl ⟨_,.inl e,rfl⟩,k H' _ δ' fp' r1.base r1.stp (by rw [q.isEmpty]; exact h1)⟩
  | tup e q=>exact ⟨_,.inr (.inl ⟨_,.inl (.inl e),rfl⟩),k H' _ δ' fp' r1.base r1.stp (by rw [q.isEmpty]; exact h1)⟩
  | scr q=>exact ⟨_,.inl ⟨_,q.sq,rfl⟩,k H' _ δ' fp' r1.base r1.stp (by simpa [Z4b] using h1)⟩
  | exc _ _ _=>exact h1.elim
  | fn _=>exact h1.elim
  | dic _ _ _ _=>exact h1.elim⟩
noncomputable def asB (d:PyData) (k:Bool→Prop):Prop:=match d with | .bool b=>k b | _=>False
noncomputable def Z0t (a b:MEt):MEt:=fun δ K=>a δ fun x δ1=>asB x.data fun c=>if c = true then b δ1 K else K (.fz (.bool false)) δ1
noncomputable def Z15 (a:MEt):MEt:=fun δ K=>a δ fun x δ1=>asB x.data fun c=>K (.fz (.bool (!c))) δ1
noncomputable def mIf (t:MTt) (a b:MEt):MEt:=fun δ K=>t δ fun c δ1=>if c = true then a δ1 K else b δ1 K
theorem Da.boolInv {H:Hp} {L:Addr→Prop} {v:V} {d:PyData} {k:Bool→Prop} (q:Da G H L v d) (h:asB d k):∃ b,v = .bl b∧k b:=by
 cases q with
 | bl b=>exact ⟨b,rfl,h⟩
 | _=>exact h.elim
theorem RE.step {C:MC G} {H H1 H2:Hp} {σ:St} {δ δ1 δ2:Zr} {fp fp1 fp2:Fp} {ex:Addr→Prop} {v:V} {r:OT} {new:List Addr} (S:Stp p H δ fp H1 δ1 fp1) (R:RE C io p' c H1 σ δ1 fp1 ex H2 v r δ2 fp2 new) :
  RE C io (p && p') c H σ δ fp ex H2 v r δ2 fp2 new:=⟨R.rel,S.trans R.stp,R.own,R.nd,fun a m=>S.al a (R.fresh a m)⟩
theorem Z10 {op} (h:ME X io p c a ma):ME X io p c (.BoolOp op [a] pos) ma:=by
 obtain ⟨_,A,sa⟩:=h
 exact ⟨_,Z4c A,sa⟩
theorem Z3d (ha:ME X io p c a ma) (hb:ME X io p' c' (.BoolOp .And (b :: rest) pos) mb):ME X io (p && p') c' (.BoolOp .And (a :: b :: rest) pos) (Z0t ma mb):=by
 obtain ⟨_,A,sa⟩:=ha
 obtain ⟨_,B,sb⟩:=hb
 exact ⟨_,Z0w A B,fun C H σ δ fp ex K Q R h k=>sa C H σ δ fp ex _ _ R h fun H' v r δ' fp' new r1 h1=>by
  obtain ⟨b,rfl,h1⟩:=(r1.da R).boolInv h1
  refine ⟨b,rfl,?_⟩
  cases b with
  | true =>
   rw [if_pos rfl] at h1 ⊢
   exact sb C H' σ δ' fp' ex _ _ r1.base h1 fun H2 w r2 δ2 fp2 new2 R2 h2=>k H2 w r2 δ2 fp2 new2 (R2.step r1.stp) h2
  | false =>
   rw [if_neg Bool.false_ne_true] at h1 ⊢
   exact k H' _ _ δ' fp' [] (RE.fz r1.base r1.stp.andL (.bl false)) h1⟩
theorem Z53 (ha:ME X io p c a ma):ME X io p true (.UnaryOp .Not a pos) (Z15 ma):=by
 obtain ⟨_,A,sa⟩:=ha
 exact ⟨_,Z0k A,fun C H σ δ fp ex K Q R h k=>sa C H σ δ fp ex _ _ R h fun H' v r δ' fp' new r1 h1=>by
  obtain ⟨b,rfl,h1⟩:=(r1.da R).boolInv h1
  exact ⟨b,rfl,k H' _ _ δ' fp' [] (RE.fz r1.base r1.stp (.bl _)) h1⟩⟩
theorem Stp.cast {p p':Bool} {H H':Hp} {δ δ':Zr} {fp fp':Fp} (h:p' = true→p = true) (S:Stp p H δ fp H' δ' fp'):Stp p' H δ fp H' δ' fp' :=
 ⟨fun b o e q=>S.keep b o e (q.imp h id),fun q=>S.env (h q),S.grow,S.al⟩
theorem RE.cast {C:MC G} {H H1:Hp} {σ:St} {δ δ1:Zr} {fp fp1:Fp} {ex:Addr→Prop} {v:V} {r:OT} {new:List Addr} (hp:p' = true→p = true) (hc:c' = true→c = true) (R:RE C io p c H σ δ fp ex H1 v r δ1 fp1 new) :
  RE C io p' c' H σ δ fp ex H1 v r δ1 fp1 new:=⟨R.rel,R.stp.cast hp,R.own.wide fun a l _ z=>l (hc z),R.nd,R.fresh⟩
theorem Z72 {t:Expr} (ht:MT X io p t ta) (ha:ME X io p' c a ma) (hb:ME X io p'' c' b mb):ME X io (p && (p' && p'')) (c && c') (.IfExp t a b pos) (mIf ta ma mb):=by
 obtain ⟨_,T,st⟩:=ht
 obtain ⟨_,A,sa⟩:=ha
 obtain ⟨_,B,sb⟩:=hb
 exact ⟨_,Zuj T A B,fun C H σ δ fp ex K Q R h k=>st C H σ δ fp ex _ _ R h fun H' b δ' fp' R' S h'=>by
  cases b with
  | true =>
   rw [if_pos rfl] at h' ⊢
   exact sa C H' σ δ' fp' ex _ _ R' h' fun H2 w r2 δ2 fp2 new2 R2 h2=>k H2 w r2 δ2 fp2 new2 ((R2.step S).cast (fun z=>by simp at z; simp [z]) (fun z=>by simp at z; exact z.1)) h2
  | false =>
   rw [if_neg Bool.false_ne_true] at h' ⊢
   exact sb C H' σ δ' fp' ex _ _ R' h' fun H2 w r2 δ2 fp2 new2 R2 h2=>k H2 w r2 δ2 fp2 new2 ((R2.step S).cast (fun z=>by simp at z; simp [z]) (fun z=>by simp at z; exact z.2)) h2⟩
end
section
variable {X:Cx} {io:List Nat} {p p' p'' c c':Bool} {e a b:Expr} {m ma mb:MEt} {es rest:List Expr} {mr:MAt} {pos:Pos}
noncomputable def Z7n:MAt:=fun δ K=>K [] δ
noncomputable def Z3g (m:MEt) (mr:MAt):MAt:=fun δ K=>m δ fun r δ1=>mr δ1 fun rs δ2=>K (r :: rs) δ2
theorem Zg:MA X io true true [] Z7n:=⟨_,Ziu,fun C H σ δ fp ex K Q R h k=>k H [] [] δ fp [] ⟨R.drop fun a z=>Zd6.mp z,.refl _ _ _ _,.nil,.nil,fun a m=>nomatch m⟩ h⟩
theorem Zx8 (ha:ME X io p c e m) (hr:MA X io p' c' es mr) (hc:p' = true∨c = true) (hs:starEach (e :: es) X.env = (false,eval e X.env) :: starEach es X.env:=by rfl):MA X io (p && p') (c && c') (e :: es) (Z3g m mr):=by
 obtain ⟨tA,A,sa⟩:=ha
 obtain ⟨tB,B,sb⟩:=hr
 refine ⟨_,Zev A B hs,fun C H σ δ fp ex K Q R h k=>?_⟩
 refine sa C H σ δ fp ex _ _ R h fun H1 x u δ1 fp1 new1 r1 h1=>?_
 refine sb C H1 σ δ1 fp1 (exu ex new1) _ _ r1.rel h1 fun H2 ys us δ2 fp2 new2 r2 h2=>?_
 have o1:=r1.rel.own_step (ex':=exu (exu ex new1) new2) r2.stp (c:=c) hc (fun a z=>z.imp id fun z=>r2.fresh a z) (fun a m=>.inr m) r1.own
 have eqx:∀ a,exu ex (new1 ++ new2) a→exu (exu ex new1) new2 a:=fun a z=>by
  rcases z with z | z
  ·exact .inl (.inl z)
  ·rcases List.mem_append.mp z with z | z
   ·exact .inl (.inr z)
   ·exact .inr z
 refine k H2 (x :: ys) (u :: us) δ2 fp2 (new1 ++ new2) ⟨r2.rel.drop eqx,r1.stp.trans r2.stp,.cons (o1.wide fun a l _ z=>?_) (r2.own.wide fun a l _ z=>?_),?_,?_⟩ h2
 ·have l:=l (by rw [Bool.and_eq_true] at z; exact z.1)
  exact ⟨l.1,fun w=>l.2.1 (eqx a w),l.2.2⟩
 ·have l:=l (by rw [Bool.and_eq_true] at z; exact z.2)
  exact ⟨l.1,fun w=>l.2.1 (eqx a w),l.2.2⟩
 ·refine List.nodup_append.mpr ⟨r1.nd,r2.nd,fun a m b m' z=>?_⟩
  subst z
  obtain ⟨xs,e⟩:=r1.own.some a m
  rw [r2.fresh a m'] at e
  cases e
 ·intro a m
  rcases List.mem_append.mp m with m | m
  ·exact r1.fresh a m
  ·exact r1.stp.al a (r2.fresh a m)
noncomputable def Z7y (m:MAt):MEt:=fun δ K=>m δ fun rs δ'=>rs.length ≤ sizeLine∧K (.fz (.tuple (OT.datas rs))) δ'
noncomputable def Z7k (m:MAt):MEt:=fun δ K=>m δ fun rs δ'=>rs.length ≤ sizeLine∧K (.nd rs) δ'
theorem Zgm {x1} (h:MA X io p c es mr):ME X io p c (.Tuple es x1 pos) (Z7y mr):=by
 obtain ⟨tA,A,sa⟩:=h
 refine ⟨_,Zvx A,fun C H σ δ fp ex K Q R h k=>?_⟩
 refine sa C H σ δ fp ex _ _ R h fun H1 vs rs δ1 fp1 new1 r1 h1=>⟨by rw [r1.own.length]; exact h1.1,fun q hq=>?_⟩
 have s:=Y9 hq (.tup vs)
 have R1:=r1.base
 have S:=r1.stp.trans (p':=true) (Stp.same (p:=true) (δ:=δ1) (fp:=fp1) s s.al)
 rw [Bool.and_true] at S
 refine k _ _ _ δ1 fp1 [] (.fz ?_ S (.tup Y5 ((r1.das R).same s))) h1.2
 exact (R1.made (new:=[]) s fun a m=>nomatch m).drop fun a z=>.inl z
theorem Za3 (h:MA X io p c es mr):ME X io p c (.List es pos) (Z7k mr):=by
 obtain ⟨tA,A,sa⟩:=h
 refine ⟨_,Z24 A,fun C H σ δ fp ex K Q R h k=>?_⟩
 refine sa C H σ δ fp ex _ _ R h fun H1 vs rs δ1 fp1 new1 r1 h1=>⟨by rw [r1.own.length]; exact h1.1,fun q hq=>?_⟩
 have s:=Y9 hq (.lst vs)
 have S:=r1.stp.trans (p':=true) (Stp.same (p:=true) (δ:=δ1) (fp:=fp1) s s.al)
 rw [Bool.and_true] at S
 have hqn:q ∉ new1:=fun m=>by
  obtain ⟨xs,e⟩:=r1.own.some q m
  rw [hq] at e; cases e
 have R2:=(r1.rel.made (new:=[q]) s fun a m=>by
  rcases List.mem_singleton.mp m with rfl
  exact ⟨hq,by rw [Y5]; intro z; cases z⟩)
 have eqx:∀ a,exu ex (q :: new1) a→exu (exu ex new1) [q] a:=fun a z=>by
  rcases z with z | z
  ·exact .inl (.inl z)
  ·rcases List.mem_cons.mp z with z | z
   ·exact .inr (List.mem_singleton.mpr z)
   ·exact .inl (.inr z)
 refine k _ _ _ δ1 fp1 (q :: new1) ⟨R2.drop eqx,S,.nd Y5 ((r1.own.wide fun a l w z=>?_).same s),List.nodup_cons.mpr ⟨hqn,r1.nd⟩,fun a m=>?_⟩ h1.2
 ·have l:=l z
  refine ⟨l.1,fun y=>?_,l.2.2⟩
  rcases eqx a y with y | y
  ·exact l.2.1 y
  ·rcases List.mem_singleton.mp y with rfl
   exact w hq
 ·rcases List.mem_cons.mp m with rfl | m
  ·exact r1.stp.al _ hq
  ·exact r1.fresh a m
end
end L2
namespace L2
open PySem PySem.Spec PyProof.Rows
variable {G:PySem.W.Frag}
noncomputable def spD (G:PySem.W.Frag) (S:List PyData→(OT→Prop)→Prop):Sp:=fun vs H Q _=>∃ L ds k,Das G H L vs ds∧S ds k ∧
 ∀ r v H' new,k r→Same H H'→Own G H' (fun a=>(L a∨H a = none)∧a ∉ new) v r new→new.Nodup→(∀ a ∈ new,H a = none)→Q v H'
noncomputable def spI (G:PySem.W.Frag) (S:OT→List PyData→(OT→OT→Prop)→Prop):Sp:=fun vs H Q _=>∃ L v0 t0 as vs' ds k,vs = v0 :: vs'∧Own G H L v0 t0 as∧as.Nodup∧(∀ a ∈ as,¬ L a)∧Das G H L vs' ds∧S t0 ds k ∧
 ∀ r t' v H' new as',k r t'→(∀ b o,H b = some o→b ∉ as→H' b = some o)→(∀ b,H' b = none→H b = none) →
  Own G H' (fun a=>(L a∨H a = none)∧a ∉ new∧a ∉ as') v r new→Own G H' (fun a=>(L a∨H a = none)∧a ∉ new∧a ∉ as') v0 t' as'→(as' ++ new).Nodup→(∀ a ∈ new,H a = none)→(∀ a ∈ as',a ∈ as∨H a = none)→Q v H'
section
variable {X:Cx} {io:List Nat} {p p' p'' c c':Bool} {e a b:Expr} {m ma mb:MEt} {es rest:List Expr} {mr:MAt} {pos:Pos}
variable {CX:CXT} {k:Nat} {f:Addr} {fd:FuncData} {ps:List Str} {E:XK} {x:Str} {pp:Pos}
noncomputable def Zxh (S:List PyData→(OT→Prop)→Prop) (mr:MAt):MEt:=fun δ K=>mr δ fun rs δ1=>S (OT.datas rs) fun r=>K r δ1
theorem Z5g {S} {t:TA} (sa:SA G io p c t mr):SE G io p c (Zxl (spD G S) [] E t) (Zxh S mr):=by
 intro C H σ δ fp ex K Q R h kk
 refine sa C H σ δ fp ex _ _ R h fun H1 vs rs δ1 fp1 new1 r1 h1=>?_
 rw [List.append_nil]
 refine ⟨_,_,_,r1.das R,h1,fun r v H' new kr s o nd hn=>?_⟩
 exact kk H' v r δ1 fp1 new (RE.tree R r1.base r1.stp s hn nd o) kr
theorem Ys {S} (F:FnOk X.prog X.w X.K X.mg X.base CX k f fd ps (spD X.K S)) (hr:Room k X.A) (hg:Gl X x) (hm:X.mg x = some (.ref f)) (hk:PySem.W.keepIn X.K (.ref f) = true) (hb:Binds X.K fd ps []) (hx:Zl8 CX X E)
  (ha:MA X io p c (e :: es) mr) (hdb:(x == ("__debug__" : Str)) = false:=by decide) (he:starEach (e :: es) X.env = (false,eval e X.env) :: starEach es X.env:=by rfl) (hpl:(backTo pos (starEach es X.env)).any (·.1) = false:=by rfl) :
  ME X io p c (.Call (.Name x pp) (e :: es) [] pos) (Zxh S mr):=by
 obtain ⟨_,A,sa⟩:=ha
 exact ⟨_,Zrn F hr hg hm hk hb .nil hx A hdb he hpl,Z5g sa⟩
noncomputable def Zlv (i:Nat) (S:OT→List PyData→(OT→OT→Prop)→Prop) (mr:MAt):MEt:=fun δ K=>match δ[i]? with
 | some (some _)=>mr δ fun rs δ1=>match δ1[i]? with
  | some (some t)=>S t (OT.datas rs) fun r t'=>K r (δ1.set i (some t'))
  | _=>False
 | _=>False
noncomputable def fpu (fp:Fp) (i:Nat) (as:List Addr):Fp:=fun j=>if j = i then as else fp j
theorem We {fp:Fp} {i:Nat} {as:List Addr}:fpu fp i as i = as:=if_pos rfl
theorem Jk {fp:Fp} {i j:Nat} {as:List Addr} (h:j ≠ i):fpu fp i as j = fp j:=if_neg h
theorem Foot.of_u {fp:Fp} {i:Nat} {as:List Addr} {a:Addr} (h:Foot (fpu fp i as) a):a ∈ as∨∃ j,j ≠ i∧a ∈ fp j:=by
 obtain ⟨j,h⟩:=h
 by_cases e:j = i
 ·subst e; rw [We] at h; exact .inl h
 ·rw [Jk e] at h; exact .inr ⟨j,e,h⟩
theorem Rel.change {C:MC G} {H H':Hp} {σ:St} {δ:Zr} {fp:Fp} {ex:Addr→Prop} {i:Nat} {t t':OT} {v:V} {as' new:List Addr} (R:Rel C io H σ δ fp ex) (hi:δ[i]? = some (some t)) (hv:σ[i]? = some (some v))
  (keep:∀ b o,H b = some o→b ∉ fp i→H' b = some o) (al:∀ b,H' b = none→H b = none) (o:Own G H' (Lf C (fpu fp i as') (exu ex new)) v t' as') (nd:as'.Nodup) (new':∀ a ∈ as',a ∈ fp i∨H a = none)
  (hn:∀ a ∈ new,H a = none∧H' a ≠ none∧a ∉ as') :
  Rel C io H' σ (δ.set i (some t')) (fpu fp i as') (exu ex new)∧Stp false H δ fp H' (δ.set i (some t')) (fpu fp i as'):=by
 have hil:i < δ.length:=(List.getElem?_eq_some_iff.mp hi).1
 have apart:∀ j a,j ≠ i→a ∈ fp j→a ∉ as':=fun j a e m z=>by
  rcases new' a z with z | z
  ·exact e (R.dj j i a m z)
  ·exact R.footSome z ⟨j,m⟩
 constructor
 ·refine ⟨by rw [List.length_set]; exact R.len,fun j t'' e=>?_,fun j h=>?_,fun j=>?_,fun j k a h1 h2=>?_,fun j a h z=>?_,fun a z w=>z.elim (fun z=>R.xa a z (al a w)) (fun z=>(hn a z).2.1 w),fun b ob e n=>?_,fun b z=>R.al b (al b z),fun j a h=>?_,R.io⟩
  ·by_cases ej:j = i
   ·subst ej
    rw [List.getElem?_set_self hil] at e
    cases e
    exact ⟨v,hv,by rw [We]; exact o⟩
   ·rw [List.getElem?_set_ne (Ne.symm ej)] at e
    obtain ⟨w,e1,o1⟩:=R.own j t'' e
    refine ⟨w,e1,?_⟩
    rw [Jk ej]
    refine o1.frame (fun a xs l q=>?_) (fun a xs q=>keep a _ q fun z=>?_) fun a m xs q=>keep a _ q fun z=>ej (R.dj j i a m z)
    ·have na:a ∉ fp i:=fun z=>l.1 ⟨i,z⟩
     refine ⟨⟨fun z=>?_,fun z=>z.elim l.2.1 fun z=>q.some (hn a z).1,l.2.2⟩,?_⟩
     ·rcases z.of_u with z | ⟨k,_,z⟩
      ·rcases new' a z with z | z
       ·exact na z
       ·exact q.some z
      ·exact l.1 ⟨k,z⟩
     ·rcases q with q | ⟨u,q⟩
      ·exact .inl (keep a _ q na)
      ·exact .inr ⟨u,keep a _ q na⟩
    ·obtain ⟨ys,e⟩:=R.foot ⟨i,z⟩
     exact ImO.nm q e
  ·by_cases ej:j = i
   ·subst ej
    exact absurd (List.getElem?_set_self hil) (h t')
   ·rw [Jk ej]
    refine R.emp j fun t'' z=>h t'' ?_
    rw [List.getElem?_set_ne (Ne.symm ej)]
    exact z
  ·by_cases ej:j = i
   ·subst ej; rw [We]; exact nd
   ·rw [Jk ej]; exact R.nd j
  ·by_cases ej:j = i
   ·subst ej
    rw [We] at h1
    by_cases ek:k = j
    ·exact ek.symm
    ·rw [Jk ek] at h2
     exact absurd h1 (apart k a ek h2)
   ·rw [Jk ej] at h1
    by_cases ek:k = i
    ·subst ek
     rw [We] at h2
     exact absurd h2 (apart j a ej h1)
    ·rw [Jk ek] at h2
     exact R.dj j k a h1 h2
  ·by_cases ej:j = i
   ·subst ej
    rw [We] at h
    rcases z with z | z
    ·rcases new' a h with w | w
     ·exact R.dx _ a w z
     ·exact R.xa a z w
    ·exact (hn a z).2.2 h
   ·rw [Jk ej] at h
    rcases z with z | z
    ·exact R.dx j a h z
    ·exact R.footSome (hn a z).1 ⟨j,h⟩
  ·refine keep b ob (R.fr b ob e n) fun z=>?_
   rcases R.new i b z with w | w
   ·exact n w.2
   ·rw [e] at w; cases w
  ·by_cases ej:j = i
   ·subst ej
    rw [We] at h
    rcases new' a h with w | w
    ·exact R.new _ a w
    ·exact .inr (R.al a w)
   ·rw [Jk ej] at h
    exact R.new j a h
 ·refine ⟨fun b ob e q=>keep b ob e fun z=>(q.resolve_left (by decide)) ⟨i,z⟩,fun z=>(nomatch z),fun a z=>?_,al⟩
  rcases z.of_u with z | ⟨j,_,z⟩
  ·exact (new' a z).imp (fun w=>⟨i,w⟩) id
  ·exact .inl ⟨j,z⟩
theorem Z3l {S} {i:Nat} {t:TA} (sa:SA G io p true t mr):SE G io false true (Zxl (spI G S) [] E (Z2p (Z6h i) t)) (Zlv i S mr):=by
 intro C H σ δ fp ex K Q R h kk
 unfold Zlv at h
 split at h
 case h_2=>exact h.elim
 rename_i t0 hi0
 obtain ⟨v0,hv,_⟩:=R.own i t0 hi0
 refine ⟨v0,hv,?_⟩
 refine sa C H σ δ fp ex _ _ R h fun H1 vs rs δ1 fp1 new1 r1 h1=>?_
 show spI G S ((v0 :: vs) ++ []) H1 Q E
 rw [List.append_nil]
 split at h1
 case h_2=>exact h1.elim
 rename_i t1 hi1
 have R1:=r1.base
 obtain ⟨v1,hv1,o1⟩:=R1.own i t1 hi1
 rw [hv] at hv1
 cases hv1
 refine ⟨Lf C fp1 ex,v0,t1,fp1 i,vs,_,_,rfl,o1,R1.nd i,fun a m l=>l.1 ⟨i,m⟩,(r1.das R).wide fun a l _=>l rfl,h1,?_⟩
 intro r t' v H' new as' kr keep al orr ot nd hn ha
 have nd2:=List.nodup_append.mp nd
 have lw:∀ a,((Lf C fp1 ex a∨H1 a = none)∧a ∉ new∧a ∉ as')→H' a ≠ none→Lf C (fpu fp1 i as') (exu ex new) a:=fun a l _=>by
  have hf:¬ Foot (fpu fp1 i as') a:=fun z=>by
   rcases z.of_u with z | ⟨j,_,z⟩
   ·exact l.2.2 z
   ·rcases l.1 with l1 | l1
    ·exact l1.1 ⟨j,z⟩
    ·exact R1.footSome l1 ⟨j,z⟩
  rcases l.1 with l1 | l1
  ·exact ⟨hf,fun z=>z.elim l1.2.1 l.2.1,l1.2.2⟩
  ·have:=R1.newOk l1
   exact ⟨hf,fun z=>z.elim this.2.1 l.2.1,.inr this.2.2⟩
 have hnn:∀ a ∈ new,H' a ≠ none:=fun a m z=>by
  obtain ⟨xs,e⟩:=orr.some a m
  rw [z] at e; cases e
 obtain ⟨R2,S2⟩:=R1.change (new:=new) hi1 hv keep al (ot.wide lw) nd2.1 ha (fun a m=>⟨hn a m,hnn a m,fun z=>nd2.2.2 a z a m rfl⟩)
 refine kk H' v r _ _ new ⟨R2,?_,orr.wide fun a l q _=>lw a l q,nd2.2.1,fun a m=>r1.stp.al a (hn a m)⟩ kr
 exact (r1.stp.trans S2).cast fun z=>nomatch z
theorem Yu {S} {i:Nat} {y:Str} {py:Pos} (F:FnOk X.prog X.w X.K X.mg X.base CX k f fd ps (spI X.K S)) (hr:Room k X.A) (hg:Gl X x) (hm:X.mg x = some (.ref f)) (hk:PySem.W.keepIn X.K (.ref f) = true) (hb:Binds X.K fd ps []) (hx:Zl8 CX X E)
  (ha:MA X io p true es mr) (hN:X.N[i]? = some y:=by rfl) (hv:Vis X.env.scope y:=by first | exact Or.inl rfl | exact Or.inr (Or.inl rfl) | exact Or.inr (Or.inr rfl)) (hd:(y == ("__debug__" : Str)) = false:=by decide)
  (hcd:(y == ("__classdict__" : Str)) = false:=by decide)
  (hdb:(x == ("__debug__" : Str)) = false:=by decide) (he:starEach (.Name y py :: es) X.env = (false,eval (.Name y py) X.env) :: starEach es X.env:=by rfl) (hpl:(backTo pos (starEach es X.env)).any (·.1) = false:=by rfl) :
  ME X io false true (.Call (.Name x pp) (.Name y py :: es) [] pos) (Zlv i S mr):=by
 obtain ⟨_,A,sa⟩:=ha
 exact ⟨_,Zrn F hr hg hm hk hb .nil hx (Zev (pv i hN hv hd hcd) A he) hdb he hpl,Z3l sa⟩
noncomputable def PNs (G:PySem.W.Frag) (r:List V→Hp→VK→Prop) (rp:List PyData→(PyData→Prop)→Prop):Prop:=∀ (H:Hp) (L:Addr→Prop) (xs:List V) (ds:List PyData) (k:PyData→Prop) (Q:VK),Das G H L xs ds→rp ds k→(∀ v d',ScD v d'→k d'→Q v H)→r xs H Q
noncomputable def PN (G:PySem.W.Frag) (r:List V→Hp→VK→Prop) (rp:List PyData→(OT→Prop)→Prop):Prop:=∀ (H:Hp) (L:Addr→Prop) (xs:List V) (ds:List PyData) (k:OT→Prop) (Q:VK),Das G H L xs ds→rp ds k →
 (∀ H' v o new,Same H H'→Own G H' (fun a=>(L a∨H a = none)∧a ∉ new) v o new→new.Nodup→(∀ a ∈ new,H a = none)→k o→Q v H')→r xs H Q
noncomputable def Z4r (rp:List PyData→(PyData→Prop)→Prop) (mr:MAt):MEt:=fun δ K=>mr δ fun rs δ1=>rp (OT.datas rs) fun d=>K (.fz d) δ1
noncomputable def mBl (rp:List PyData→(OT→Prop)→Prop) (mr:MAt):MEt:=fun δ K=>mr δ fun rs δ1=>rp (OT.datas rs) fun o=>K o δ1
theorem Z7o {r rp} {t:TA} (P:PNs G r rp) (sa:SA G io p c t mr):SE G io p true (tCB r t) (Z4r rp mr):=fun C H σ δ fp ex K Q R h kk =>
 sa C H σ δ fp ex _ _ R h fun H1 vs rs δ1 fp1 new1 r1 h1=>P H1 _ vs _ _ _ (r1.das R) h1 fun v d' sc h2=>kk H1 v _ δ1 fp1 [] (.fz r1.base r1.stp sc.da) h2
theorem sBl {r rp} {t:TA} (P:PN G r rp) (sa:SA G io p c t mr):SE G io p c (tCB r t) (mBl rp mr):=fun C H σ δ fp ex K Q R h kk =>
 sa C H σ δ fp ex _ _ R h fun H1 vs rs δ1 fp1 new1 r1 h1=>P H1 _ vs _ _ _ (r1.das R) h1 fun H' v o new s ow nd hn h2=>kk H' v o δ1 fp1 new (RE.tree R r1.base r1.stp s hn nd ow) h2
variable {id T:String} {r:List V→Hp→VK→Prop}
theorem Zbq {rp} (P:PNs X.K r rp) (hc:Zd9 X (.builtin id) r) (hg:Gl X x) (hm:X.mg x = none) (hv:bootBuiltins x = some (.builtin id)) (ha:MA X io p c (e :: es) mr) (hn:x ≠ "__name__" := by decide) (hdb:(x == ("__debug__" : Str)) = false:=by decide)
  (he:starEach (e :: es) X.env = (false,eval e X.env) :: starEach es X.env:=by rfl) (hpl:(backTo pos (starEach es X.env)).any (·.1) = false:=by rfl):ME X io p true (.Call (.Name x pp) (e :: es) [] pos) (Z4r rp mr):=by
 obtain ⟨_,A,sa⟩:=ha
 exact ⟨_,Zg7 hc hg hm hv A hn hdb he hpl,Z7o P sa⟩
theorem Z8m {rp} (P:PN X.K r rp) (hc:Zd9 X (.builtin id) r) (hg:Gl X x) (hm:X.mg x = none) (hv:bootBuiltins x = some (.builtin id)) (ha:MA X io p c (e :: es) mr) (hn:x ≠ "__name__" := by decide) (hdb:(x == ("__debug__" : Str)) = false:=by decide)
  (he:starEach (e :: es) X.env = (false,eval e X.env) :: starEach es X.env:=by rfl) (hpl:(backTo pos (starEach es X.env)).any (·.1) = false:=by rfl):ME X io p c (.Call (.Name x pp) (e :: es) [] pos) (mBl rp mr):=by
 obtain ⟨_,A,sa⟩:=ha
 exact ⟨_,Zg7 hc hg hm hv A hn hdb he hpl,sBl P sa⟩
theorem Z06 {rp} (P:PNs X.K r rp) (hc:Zd9 X (.type T) r) (hg:Gl X x) (hm:X.mg x = none) (hv:bootBuiltins x = some (.type T)) (ha:MA X io p c (e :: es) mr) (hn:x ≠ "__name__" := by decide) (hdb:(x == ("__debug__" : Str)) = false:=by decide)
  (he:starEach (e :: es) X.env = (false,eval e X.env) :: starEach es X.env:=by rfl) (hpl:(backTo pos (starEach es X.env)).any (·.1) = false:=by rfl):ME X io p true (.Call (.Name x pp) (e :: es) [] pos) (Z4r rp mr):=by
 obtain ⟨_,A,sa⟩:=ha
 exact ⟨_,Ze3 hc hg hm hv A hn hdb he hpl,Z7o P sa⟩
theorem Z8r {rp} (P:PN X.K r rp) (hc:Zd9 X (.type T) r) (hg:Gl X x) (hm:X.mg x = none) (hv:bootBuiltins x = some (.type T)) (ha:MA X io p c (e :: es) mr) (hn:x ≠ "__name__" := by decide) (hdb:(x == ("__debug__" : Str)) = false:=by decide)
  (he:starEach (e :: es) X.env = (false,eval e X.env) :: starEach es X.env:=by rfl) (hpl:(backTo pos (starEach es X.env)).any (·.1) = false:=by rfl):ME X io p c (.Call (.Name x pp) (e :: es) [] pos) (mBl rp mr):=by
 obtain ⟨_,A,sa⟩:=ha
 exact ⟨_,Ze3 hc hg hm hv A hn hdb he hpl,sBl P sa⟩
end
end L2
namespace L2
open PySem PySem.Spec PyProof.Rows
variable {G:PySem.W.Frag}
mutual
noncomputable def Zc5:PyData→Bool
 | .none=>true
 | .bool _=>true
 | .int _=>true
 | .str _=>true
 | .tuple ds=>Zkw ds
 | .list _=>false
 | .dict _=>false
noncomputable def Zkw:List PyData→Bool
 | []=>true
 | d :: ds=>Zc5 d && Zkw ds
end
theorem Da.flat2 {H:Hp} {L L':Addr→Prop}:(∀ {v:V} {d:PyData},Da G H L v d→Zc5 d = true→Da G H L' v d)∧∀ {v:List V} {d:List PyData},Das G H L v d→Zkw d = true→Das G H L' v d :=
 Da.both (fun _=>.non) (fun b _=>.bl b) (fun i _=>.int i) (fun x _=>.str x) (fun _ _ _ h=>by rw [Zc5] at h; cases h) (fun e r h=>.tup e (r (by rw [Zc5] at h; exact h))) (fun k _=>.scr k) (fun c n e _=>.exc c n e) (fun k _=>.fn k) (fun _ _ _ _ h=>by rw [dcD,Zc5] at h; cases h) (fun _=>.nil)
  (fun k r h=>by rw [Zkw,Bool.and_eq_true] at h; exact .cons (k h.1) (r h.2))
theorem Da.flat {H:Hp} {L L':Addr→Prop} {v:V} {d:PyData} (h:Da G H L v d) (f:Zc5 d = true):Da G H L' v d:=Da.flat2.1 h f
set_option genInjectivity false in
structure Zh2 where
 nx:Zr→Prop
 rt:OT→Zr→Prop
 bk:Zr→Prop:=fun _=>False
 ct:Zr→Prop:=fun _=>False
noncomputable abbrev MSt:=Zh2→Zr→Prop
noncomputable abbrev Kp (H:Hp) (fp:Fp) (H':Hp) (fp':Fp):Prop:=Stp false H [] fp H' [] fp'
theorem Stp.kp {p:Bool} {H H':Hp} {δ δ':Zr} {fp fp':Fp} (S:Stp p H δ fp H' δ' fp'):Kp H fp H' fp':=⟨fun b o e q=>S.keep b o e (.inr (q.resolve_left (by decide))),fun z=>(nomatch z),S.grow,S.al⟩
theorem Kp.trans {H H1 H2:Hp} {fp fp1 fp2:Fp} (a:Kp H fp H1 fp1) (b:Kp H1 fp1 H2 fp2):Kp H fp H2 fp2:=Stp.trans a b
theorem Kp.refl (H:Hp) (fp:Fp):Kp H fp H fp:=Stp.refl _ _ _ _
structure RelEnds (C:MC G) (io:List Nat) (ex:Addr→Prop) (H:Hp) (fp:Fp) (D:Zh2) (D':Ends):Prop where
 nx:∀ H' σ' δ' fp',Rel C io H' σ' δ' fp' ex→Kp H fp H' fp'→D.nx δ'→D'.nx σ' H'
 bk:∀ H' σ' δ' fp',Rel C io H' σ' δ' fp' ex→Kp H fp H' fp'→D.bk δ'→D'.bk σ' H'
 ct:∀ H' σ' δ' fp',Rel C io H' σ' δ' fp' ex→Kp H fp H' fp'→D.ct δ'→D'.ct σ' H'
 rt:∀ H' σ' v r δ' fp' new,Rel C io H' σ' δ' fp' (exu ex new)→Own G H' (Lf C fp' (exu ex new)) v r new→new.Nodup→(∀ a ∈ new,C.H₀ a = none)→D.rt r δ'→D'.rt v H'
theorem RelEnds.shift {C:MC G} {io:List Nat} {ex:Addr→Prop} {H H1:Hp} {fp fp1:Fp} {D:Zh2} {D':Ends} (E:RelEnds C io ex H fp D D') (k:Kp H fp H1 fp1):RelEnds C io ex H1 fp1 D D' :=
 ⟨fun H' σ' δ' fp' R q=>E.nx H' σ' δ' fp' R (k.trans q),fun H' σ' δ' fp' R q=>E.bk H' σ' δ' fp' R (k.trans q),fun H' σ' δ' fp' R q=>E.ct H' σ' δ' fp' R (k.trans q),E.rt⟩
noncomputable def SS (G:PySem.W.Frag) (io:List Nat) (t:TS) (m:MSt):Prop:=∀ (C:MC G) (H:Hp) (σ:St) (δ:Zr) (fp:Fp) (ex:Addr→Prop) (D:Zh2) (D':Ends),Rel C io H σ δ fp ex→m D δ→RelEnds C io ex H fp D D'→t D' σ H
noncomputable def MS (X:Cx) (io:List Nat) (st:Stmt) (m:MSt):Prop:=∃ t,PS X st t∧SS X.K io t m
noncomputable def MSs (X:Cx) (io:List Nat) (st:List Stmt) (m:MSt):Prop:=∃ t,PSs X st t∧SS X.K io t m
section
variable {X:Cx} {io:List Nat} {p p' p'' c c':Bool} {e a b:Expr} {m ma mb:MEt} {es rest:List Expr} {mr:MAt} {pos:Pos} {st:Stmt} {sts:List Stmt} {u w:MSt} {mt:MTt}
noncomputable def Z2b:MSt:=fun D δ=>D.nx δ
noncomputable def Z88 (w:MSt) (D:Zh2) (δ:Zr):Prop:=w D δ
noncomputable def Z54 (u w:MSt):MSt:=fun D δ=>u { D with nx:=Z88 w D } δ
theorem Y0:MSs X io [] Z2b:=⟨_,Zxv,fun C H σ δ fp ex D D' R h E=>E.nx H σ δ fp R (.refl _ _) h⟩
theorem Zn (h:MS X io st u):MSs X io [st] u:=by
 obtain ⟨_,A,s⟩:=h
 exact ⟨_,Zx6 A,s⟩
theorem Zh (h:MS X io st u) (g:MSs X io sts w):MSs X io (st :: sts) (Z54 u w):=by
 obtain ⟨_,A,s⟩:=h
 obtain ⟨tb,B,s'⟩:=g
 exact ⟨_,Zvd A B,fun C H σ δ fp ex D D' R h E=>s C H σ δ fp ex _ _ R h ⟨fun H1 σ1 δ1 fp1 R1 k1 h1=>s' C H1 σ1 δ1 fp1 ex D D' R1 h1 (E.shift k1),E.bk,E.ct,E.rt⟩⟩
noncomputable def Z3z:MSt:=fun _ _=>False
theorem Zts:MS X io st Z3z:=⟨_,Ztf,fun C H σ δ fp ex D D' R h E=>h.elim⟩
noncomputable def Z1v (m:MEt):MSt:=fun D δ=>m δ fun _ δ'=>D.nx δ'
theorem Zss (he:ME X io p c e m) (hs:swapsWith e none pos.line X.env = pure false:=by rfl):MS X io (.Expr e pos) (Z1v m):=by
 obtain ⟨_,A,s⟩:=he
 exact ⟨_,Zji A hs,fun C H σ δ fp ex D D' R h E=>s C H σ δ fp ex _ _ R h fun H' v r δ' fp' new r1 h1=>E.nx H' σ δ' fp' r1.base r1.stp.kp h1⟩
noncomputable def Z60 (m:MEt):MSt:=fun D δ=>m δ fun r δ'=>D.rt r δ'
theorem Yl (he:ME X io p true e m):MS X io (.Return (some e) pos) (Z60 m):=by
 obtain ⟨_,A,s⟩:=he
 exact ⟨_,Zvl A,fun C H σ δ fp ex D D' R h E=>s C H σ δ fp ex _ _ R h fun H' v r δ' fp' new r1 h1=>E.rt H' σ v r δ' fp' new r1.rel (r1.own.wide fun a l _=>l rfl) r1.nd (fun a m=>(R.newOk (r1.fresh a m)).2.2) h1⟩
noncomputable def Zty (i:Nat):MSt:=fun D δ=>match δ[i]? with | some (some t)=>D.rt t (δ.set i none) | _=>False
theorem Rel.take {C:MC G} {H:Hp} {σ:St} {δ:Zr} {fp:Fp} {ex:Addr→Prop} {i:Nat} {t:OT} (R:Rel C io H σ δ fp ex) (hi:δ[i]? = some (some t)):Rel C io H σ (δ.set i none) (fpu fp i []) (exu ex (fp i)):=by
 have hil:i < δ.length:=(List.getElem?_eq_some_iff.mp hi).1
 have get:∀ j (t':OT),(δ.set i none)[j]? = some (some t')→j ≠ i∧δ[j]? = some (some t'):=fun j t' e=>by
  by_cases ej:j = i
  ·subst ej; rw [List.getElem?_set_self hil] at e; cases e
  ·rw [List.getElem?_set_ne (Ne.symm ej)] at e; exact ⟨ej,e⟩
 have sub:∀ j a,a ∈ fpu fp i [] j→j ≠ i∧a ∈ fp j:=fun j a m=>by
  by_cases ej:j = i
  ·subst ej; rw [We] at m; exact nomatch m
  ·rw [Jk ej] at m; exact ⟨ej,m⟩
 have lw:∀ a,Lf C fp ex a→Lf C (fpu fp i []) (exu ex (fp i)) a:=fun a l=>⟨fun ⟨j,z⟩=>l.1 ⟨j,(sub j a z).2⟩,fun z=>z.elim l.2.1 fun z=>l.1 ⟨i,z⟩,l.2.2⟩
 refine ⟨by rw [List.length_set]; exact R.len,fun j t' e=>?_,fun j h=>?_,fun j=>?_,fun j k a h1 h2=>R.dj j k a (sub j a h1).2 (sub k a h2).2,fun j a h z=>?_,fun a z w=>?_,R.fr,R.al,fun j a h=>R.new j a (sub j a h).2,R.io⟩
 ·obtain ⟨ej,e⟩:=get j t' e
  obtain ⟨w,e1,o⟩:=R.own j t' e
  exact ⟨w,e1,by rw [Jk ej]; exact o.wide fun a l _=>lw a l⟩
 ·by_cases ej:j = i
  ·subst ej; rw [We]
  ·rw [Jk ej]
   exact R.emp j fun t' z=>h t' (by rw [List.getElem?_set_ne (Ne.symm ej)]; exact z)
 ·by_cases ej:j = i
  ·subst ej; rw [We]; exact .nil
  ·rw [Jk ej]; exact R.nd j
 ·obtain ⟨ej,h⟩:=sub j a h
  rcases z with z | z
  ·exact R.dx j a h z
  ·exact ej (R.dj j i a h z)
 ·rcases z with z | z
  ·exact R.xa a z w
  ·exact R.footSome w ⟨i,z⟩
theorem Zh5 (i:Nat) {x:Str} {px:Pos} (hio:i ∉ io:=by decide) (hN:X.N[i]? = some x:=by rfl) (hv:Vis X.env.scope x:=by first | exact Or.inl rfl | exact Or.inr (Or.inl rfl) | exact Or.inr (Or.inr rfl)) (hd:(x == ("__debug__" : Str)) = false:=by decide)
  (hcd:(x == ("__classdict__" : Str)) = false:=by decide):MS X io (.Return (some (.Name x px)) pos) (Zty i):=by
 refine ⟨_,Zvl (pv i hN hv hd hcd),fun C H σ δ fp ex D D' R h E=>?_⟩
 unfold Zty at h
 split at h
 case h_2=>exact h.elim
 rename_i t hi
 obtain ⟨v,e,o⟩:=R.own i t hi
 have lw:∀ a,Lf C fp ex a→H a ≠ none→Lf C (fpu fp i []) (exu ex (fp i)) a:=fun a l _=>⟨fun z=>by
  rcases z.of_u with z | ⟨j,_,z⟩
  ·exact nomatch z
  ·exact l.1 ⟨j,z⟩,fun z=>z.elim l.2.1 fun z=>l.1 ⟨i,z⟩,l.2.2⟩
 have hn:∀ a ∈ fp i,C.H₀ a = none:=fun a m=>by
  rcases R.new i a m with z | z
  ·exact absurd z.1 hio
  ·exact z
 exact ⟨v,e,E.rt H σ v t _ _ (fp i) (R.take hi) (o.wide lw) (R.nd i) hn h⟩
noncomputable def Z6z (t:MTt) (u w:MSt):MSt:=fun D δ=>t δ fun b δ'=>if b = true then u D δ' else w D δ'
theorem Zbd {cnd:Expr} {ss ss':List Stmt} (hc:MT X io p cnd mt) (ha:MSs X io ss u) (hb:MSs X io ss' w):MS X io (.If cnd ss ss' pos) (Z6z mt u w):=by
 obtain ⟨_,T,s⟩:=hc
 obtain ⟨_,A,sa⟩:=ha
 obtain ⟨_,B,sb⟩:=hb
 exact ⟨_,Z4t T A B,fun C H σ δ fp ex D D' R h E=>s C H σ δ fp ex _ _ R h fun H' b δ' fp' R' S h'=>by
  cases b with
  | true =>
   rw [if_pos rfl] at h' ⊢
   exact sa C H' σ δ' fp' ex D D' R' h' (E.shift S.kp)
  | false =>
   rw [if_neg Bool.false_ne_true] at h' ⊢
   exact sb C H' σ δ' fp' ex D D' R' h' (E.shift S.kp)⟩
theorem Rel.put {C:MC G} {H:Hp} {σ:St} {δ:Zr} {fp:Fp} {ex:Addr→Prop} {i:Nat} {v:V} {r:OT} {new:List Addr} (R:Rel C io H σ δ fp (exu ex new)) (hio:i ∉ io) (o:Own G H (Lf C fp (exu ex new)) v r new) (nd:new.Nodup)
  (hn:∀ a ∈ new,C.H₀ a = none∧¬ ex a):∃ fp',Rel C io H (σ.set i (some v)) (δ.set i (some r)) fp' ex∧∀ a,Foot fp' a→Foot fp a∨a ∈ new:=by
 by_cases hil:i < δ.length
 case neg =>
  refine ⟨fp,?_,fun a h=>.inl h⟩
  have hl:=R.len
  rw [List.set_eq_of_length_le (show δ.length ≤ i by omega),List.set_eq_of_length_le (show σ.length ≤ i by omega)]
  exact R.drop fun a z=>.inl z
 have hsl:i < σ.length:=by rw [R.len]; exact hil
 have sub:∀ a,Foot (fpu fp i new) a→Foot fp a∨a ∈ new:=fun a z=>by
  rcases z.of_u with z | ⟨j,_,z⟩
  ·exact .inr z
  ·exact .inl ⟨j,z⟩
 have lw:∀ a,Lf C fp (exu ex new) a→Lf C (fpu fp i new) ex a:=fun a l=>⟨fun z=>(sub a z).elim l.1 fun z=>l.2.1 (.inr z),fun z=>l.2.1 (.inl z),l.2.2⟩
 refine ⟨fpu fp i new,⟨by rw [List.length_set,List.length_set]; exact R.len,fun j t' e=>?_,fun j h=>?_,fun j=>?_,fun j k a h1 h2=>?_,fun j a h z=>?_,fun a z=>R.xa a (.inl z),R.fr,R.al,fun j a h=>?_,fun j hj=>?_⟩,sub⟩
 ·by_cases ej:j = i
  ·subst ej
   rw [List.getElem?_set_self hil] at e
   cases e
   exact ⟨v,List.getElem?_set_self hsl,by rw [We]; exact o.wide fun a l _=>lw a l⟩
  ·rw [List.getElem?_set_ne (Ne.symm ej)] at e
   obtain ⟨w,e1,o1⟩:=R.own j t' e
   exact ⟨w,by rw [List.getElem?_set_ne (Ne.symm ej)]; exact e1,by rw [Jk ej]; exact o1.wide fun a l _=>lw a l⟩
 ·by_cases ej:j = i
  ·subst ej; exact absurd (List.getElem?_set_self hil) (h r)
  ·rw [Jk ej]
   exact R.emp j fun t' z=>h t' (by rw [List.getElem?_set_ne (Ne.symm ej)]; exact z)
 ·by_cases ej:j = i
  ·subst ej; rw [We]; exact nd
  ·rw [Jk ej]; exact R.nd j
 ·by_cases ej:j = i
  ·subst ej
   rw [We] at h1
   by_cases ek:k = j
   ·exact ek.symm
   ·rw [Jk ek] at h2
    exact absurd (.inr h1) (R.dx k a h2)
  ·rw [Jk ej] at h1
   by_cases ek:k = i
   ·subst ek
    rw [We] at h2
    exact absurd (.inr h2) (R.dx j a h1)
   ·rw [Jk ek] at h2
    exact R.dj j k a h1 h2
 ·by_cases ej:j = i
  ·subst ej
   rw [We] at h
   exact (hn a h).2 z
  ·rw [Jk ej] at h
   exact R.dx j a h (.inl z)
 ·by_cases ej:j = i
  ·subst ej
   rw [We] at h
   exact .inr (hn a h).1
  ·rw [Jk ej] at h
   exact R.new j a h
 ·have ej:j ≠ i:=fun z=>hio (z ▸ hj)
  rw [List.getElem?_set_ne (Ne.symm ej)]
  exact R.io j hj
theorem RE.put {C:MC G} {H H':Hp} {σ:St} {δ δ':Zr} {fp fp':Fp} {ex:Addr→Prop} {i:Nat} {v:V} {r:OT} {new:List Addr} (R:RE C io p true H σ δ fp ex H' v r δ' fp' new) (R0:Rel C io H σ δ fp ex) (hio:i ∉ io) :
  ∃ fp2,Rel C io H' (σ.set i (some v)) (δ'.set i (some r)) fp2 ex∧Kp H fp H' fp2:=by
 obtain ⟨fp2,R2,g⟩:=R.rel.put hio (R.own.wide fun a l _=>l rfl) R.nd fun a m=>⟨(R0.newOk (R.fresh a m)).2.2,(R0.newOk (R.fresh a m)).2.1⟩
 refine ⟨fp2,R2,fun b o e q=>R.stp.keep b o e (.inr (q.resolve_left (by decide))),fun z=>(nomatch z),fun a z=>?_,R.stp.al⟩
 rcases g a z with z | z
 ·exact R.stp.grow a z
 ·exact .inr (R.fresh a z)
theorem RE.fzc {C:MC G} {H H':Hp} {σ:St} {δ δ':Zr} {fp fp':Fp} {ex:Addr→Prop} {v:V} {r:OT} {new:List Addr} (R:RE C io p c H σ δ fp ex H' v r δ' fp' new) (R0:Rel C io H σ δ fp ex) :
  RE C io p c H σ δ fp ex H' v (.fz r.data) δ' fp' []:=.fz R.base R.stp (R.da R0)
theorem RE.fzs {C:MC G} {H H':Hp} {σ:St} {δ δ':Zr} {fp fp':Fp} {ex:Addr→Prop} {v:V} {r:OT} {new:List Addr} (R:RE C io p c H σ δ fp ex H' v r δ' fp' new) (R0:Rel C io H σ δ fp ex) (h:Zc5 r.data = true) :
  RE C io p true H σ δ fp ex H' v (.fz r.data) δ' fp' []:=.fz R.base R.stp ((R.da R0).flat h)
noncomputable def Z1z (i:Nat) (m:MEt):MSt:=fun D δ=>m δ fun r δ'=>D.nx (δ'.set i (some (.fz r.data)))
noncomputable def Zr0 (i:Nat) (m:MEt):MSt:=fun D δ=>m δ fun r δ'=>D.nx (δ'.set i (some r))
section
variable {i:Nat} {x:Str} {px:Pos}
theorem Z7w {t:TE} (s:SE G io p true t m) (hio:i ∉ io):SS G io (Z1b t (Zqv i)) (Z1z i m):=fun C H σ δ fp ex D D' R h E=>s C H σ δ fp ex _ _ R h fun H' v r δ' fp' new r1 h1=>by
 obtain ⟨fp2,R2,k2⟩:=(r1.fzc R).put R hio
 exact E.nx H' _ _ fp2 R2 k2 h1
theorem Z0j {t:TE} (s:SE G io p true t m) (hio:i ∉ io):SS G io (Z1b t (Zqv i)) (Zr0 i m):=fun C H σ δ fp ex D D' R h E=>s C H σ δ fp ex _ _ R h fun H' v r δ' fp' new r1 h1=>by
 obtain ⟨fp2,R2,k2⟩:=r1.put R hio
 exact E.nx H' _ _ fp2 R2 k2 h1
theorem Z7 (hN:X.N.Nodup) (hi:X.N[i]? = some x) (hx:Loc X.env.scope x) (he:ME X io p true e m) (hio:i ∉ io:=by decide) (hs:swapsWith e (some (.Name x px)) pos.line X.env = pure false:=by rfl) (hf:X.fn x = true∨X.env.scope.names.lookup x = some .local:=by first | exact .inl rfl | exact .inr rfl | assumption) :
  MS X io (.Assign [.Name x px] e pos) (Z1z i m):=by
 obtain ⟨_,A,s⟩:=he
 exact ⟨_,Zwv hN hi hx A hs hf,Z7w s hio⟩
theorem Zdk (hN:X.N.Nodup) (hi:X.N[i]? = some x) (hx:Loc X.env.scope x) (he:ME X io p true e m) (hio:i ∉ io:=by decide) (hs:swapsWith e (some (.Name x px)) pos.line X.env = pure false:=by rfl) (hf:X.fn x = true∨X.env.scope.names.lookup x = some .local:=by first | exact .inl rfl | exact .inr rfl | assumption) :
  MS X io (.Assign [.Name x px] e pos) (Zr0 i m):=by
 obtain ⟨_,A,s⟩:=he
 exact ⟨_,Zwv hN hi hx A hs hf,Z0j s hio⟩
end
noncomputable def Zvu (t:MTt) (u:MSt):MSt:=fun D δ=>∃ W:Nat→Zr→Prop,(∃ n,W n δ)∧∀ n δ,W n δ→t δ fun b δ'=>if b = true then ∃ N:Zr→Prop,(∀ δ',N δ'→∃ n',n' < n∧W n' δ')∧u { D with nx:=N,ct:=N,bk:=D.nx } δ' else D.nx δ'
theorem Zoq {cnd:Expr} {ss:List Stmt} (hp:PassesOwn (model X.prog X.w) X.A X.env X.xe) (hc:MT X io p cnd mt) (ha:MSs X io ss u):MS X io (.While cnd ss [] pos) (Zvu mt u):=by
 obtain ⟨_,T,s⟩:=hc
 obtain ⟨_,A,sa⟩:=ha
 refine ⟨_,Ztl hp T A,fun C H σ δ fp ex D D' R h E=>?_⟩
 obtain ⟨W,⟨n0,w0⟩,turn⟩:=h
 refine ⟨fun n σ' H'=>∃ δ' fp',Rel C io H' σ' δ' fp' ex∧Kp H fp H' fp'∧W n δ',⟨n0,δ,fp,R,.refl _ _,w0⟩,?_⟩
 rintro n σ1 H1 ⟨δ1,fp1,R1,k1,w1⟩
 refine s C H1 σ1 δ1 fp1 ex _ _ R1 (turn n δ1 w1) fun H2 b δ2 fp2 R2 S2 h2=>?_
 have k2:=k1.trans S2.kp
 cases b with
 | true =>
  rw [if_pos rfl] at h2 ⊢
  obtain ⟨N,hN,h2⟩:=h2
  refine ⟨fun σ' H'=>∃ δ' fp',Rel C io H' σ' δ' fp' ex∧Kp H fp H' fp'∧N δ',fun σ' H' ⟨δ',fp',R',k',n'⟩=>?_,?_⟩
  ·obtain ⟨n1,hn1,w1⟩:=hN δ' n'
   exact ⟨n1,hn1,δ',fp',R',k',w1⟩
  ·refine sa C H2 σ1 δ2 fp2 ex _ _ R2 h2 ⟨fun H' σ' δ' fp' R' k' n'=>⟨δ',fp',R',k2.trans k',n'⟩,fun H' σ' δ' fp' R' k' n'=>E.nx H' σ' δ' fp' R' (k2.trans k') n',fun H' σ' δ' fp' R' k' n'=>⟨δ',fp',R',k2.trans k',n'⟩,E.rt⟩
 | false =>
  rw [if_neg Bool.false_ne_true] at h2 ⊢
  exact E.nx H2 σ1 δ2 fp2 R2 k2 h2
end
end L2
namespace L2
open PySem PySem.Spec PyProof.Rows
variable {G:PySem.W.Frag}
noncomputable def Ziq (N:List Str) (ds:List PyData):Zr:=ds.map (fun d=>some (.fz d)) ++ List.replicate (N.length - ds.length) none
noncomputable def Zhx (N:List Str) (t:OT) (ds:List PyData):Zr:=some t :: (ds.map (fun d=>some (.fz d)) ++ List.replicate (N.length - (ds.length + 1)) none)
section
variable {H:Hp} {L:Addr→Prop} {vs:List V} {ds:List PyData} {N:List Str}
theorem Zlh {i:Nat} {t:OT} {n:Nat} (h:(ds.map (fun d=>some (.fz d)) ++ List.replicate n none:Zr)[i]? = some (some t)):∃ d,ds[i]? = some d∧t = .fz d:=by
 rw [List.getElem?_append] at h
 split at h
 ·rw [List.getElem?_map] at h
  cases e:ds[i]? with
  | none=>rw [e] at h; cases h
  | some d=>rw [e] at h; cases h; exact ⟨d,rfl,rfl⟩
 ·rw [List.getElem?_replicate] at h
  split at h
  ·cases h
  ·cases h
theorem Rel.entry (h:Das G H L vs ds):Rel (G:=G) ⟨H,fun _=>False,L,start N vs⟩ [] H (start N vs) (Ziq N ds) (fun _=>[]) (fun _=>False):=by
 refine ⟨?_,fun i t e=>?_,fun _ _=>rfl,fun _=>.nil,fun i j a m=>(nomatch m),fun i a m=>(nomatch m),fun a z=>z.elim,fun b o e _=>e,fun b e=>e,fun i a m=>(nomatch m),fun i m=>nomatch m⟩
 ·unfold start Ziq
  simp [h.length]
 ·obtain ⟨d,e',rfl⟩:=Zlh e
  obtain ⟨x,e1,q⟩:=h.get e'
  refine ⟨x,?_,.fz (q.wide fun a l _=>⟨fun ⟨j,z⟩=>(nomatch z),fun z=>z,.inl l⟩)⟩
  unfold L2.start
  rw [List.getElem?_append_left (by rw [List.length_map]; exact (List.getElem?_eq_some_iff.mp e1).1),List.getElem?_map,e1]
  rfl
variable {P:Program} {w:World} {K:PySem.W.Frag} {mg:Str→Option Value} {base:Heap}
noncomputable def Zyb (k:OT→Prop):Zh2:={ nx:=fun _=>k (.fz .none),rt:=fun r _=>k r }
theorem Fun.okD {x qual:Str} {st:Stmt} {f:Addr} {fd:FuncData} {N ps:List Str} {n:Nat} {S:List PyData→(OT→Prop)→Prop} (F:Fun K x qual st f fd) (Sc:Z3 N ps (Zi st)) (len:∀ ds k,S ds k→ds.length = ps.length)
  (hbody:∀ (cdv:Value) (A:Around) (outer:List Env) (s:Shared) (H:Hp) (E:XK),Room n (A.deeper (envOfC qual (Zi st) s.heap.objs.size f cdv)) →
   ∃ m,MSs (Zp7 CX0 P w K mg base N qual (Zi st) f cdv A outer s H E).nox [] (Z1 st) m∧∀ ds k,S ds k→m (Zyb k) (Ziq N ds)):FnOk P w K mg base CX0 (n + 1) f fd ps (spD K S):=by
 refine F.ok Sc (fun vs H Q E h=>?_) (fun cdv A outer s H vs Q E hr h=>?_)
 ·obtain ⟨L,ds,k,h1,h2,_⟩:=h
  rw [h1.length]
  exact len ds k h2
 ·obtain ⟨L,ds,k,h1,h2,h3⟩:=h
  obtain ⟨m,⟨t,A1,s1⟩,q⟩:=hbody cdv A outer s H E hr
  refine ⟨t,A1,s1 ⟨H,fun _=>False,L,start N vs⟩ H _ _ _ _ (Zyb k) _ (Rel.entry h1) (q ds k h2) ⟨fun H' σ' δ' fp' R _ hk=>?_,fun _ _ _ _ _ _ z=>z.elim,fun _ _ _ _ _ _ z=>z.elim,fun H' σ' v r δ' fp' new R o nd hn hk=>?_⟩⟩
  ·exact h3 _ .non H' [] hk (fun b o e=>R.fr b o e id) (.fz .non) .nil fun a m=>nomatch m
  ·refine h3 r v H' new hk (fun b o e=>R.fr b o e id) (o.wide fun a l _=>⟨?_,fun z=>l.2.1 (.inr z)⟩) nd hn
   exact l.2.2
theorem Rel.entryI {v0:V} {t0:OT} {as:List Addr} (o:Own G H L v0 t0 as) (nd:as.Nodup) (hL:∀ a ∈ as,¬ L a) (h:Das G H L vs ds) :
  Rel (G:=G) ⟨H,fun a=>a ∈ as,L,start N (v0 :: vs)⟩ [0] H (start N (v0 :: vs)) (Zhx N t0 ds) (fun i=>if i = 0 then as else []) (fun _=>False):=by
 have lw:∀ a,L a→H a ≠ none→Lf (G:=G) ⟨H,fun a=>a ∈ as,L,L2.start N (v0 :: vs)⟩ (fun i=>if i = 0 then as else []) (fun _=>False) a:=fun a l _=>⟨fun q91=>by
  obtain ⟨i,z⟩:=q91
  dsimp only at z
  split at z
  ·exact hL a z l
  ·exact (nomatch z),fun z=>z,.inl l⟩
 have sub:∀ i a,a ∈ (if i = 0 then as else [])→i = 0∧a ∈ as:=fun i a m=>by
  split at m
  ·exact ⟨by assumption,m⟩
  ·exact nomatch m
 refine ⟨?_,fun i t e=>?_,fun i h=>?_,fun i=>?_,fun i j a m m'=>(sub i a m).1.trans (sub j a m').1.symm,fun i a m z=>z,fun a z=>z.elim,fun b o e _=>e,fun b e=>e,fun i a m=>.inl ⟨by rw [(sub i a m).1]; exact List.mem_singleton.mpr rfl,(sub i a m).2⟩,fun i _=>rfl⟩
 ·unfold L2.start L2.Zhx
  simp [h.length]
 ·cases i with
  | zero =>
   have e':t0 = t:=by
    unfold L2.Zhx at e
    simpa using e
   subst e'
   exact ⟨v0,rfl,o.wide lw⟩
  | succ i =>
   have e':(ds.map (fun d=>some (.fz d)) ++ List.replicate (N.length - (ds.length + 1)) none:Zr)[i]? = some (some t):=e
   obtain ⟨d,e2,rfl⟩:=Zlh e'
   obtain ⟨x,e1,q⟩:=h.get e2
   refine ⟨x,?_,.fz (q.wide lw)⟩
   show (vs.map some ++ _)[i]? = _
   rw [List.getElem?_append_left (by rw [List.length_map]; exact (List.getElem?_eq_some_iff.mp e1).1),List.getElem?_map,e1]
   rfl
 ·split
  ·subst i
   exact absurd rfl (h t0)
  ·rfl
 ·split
  ·exact nd
  ·exact .nil
noncomputable def Zxs (k:OT→OT→Prop):Zh2:={ nx:=fun δ=>match δ[0]? with | some (some t)=>k (.fz .none) t | _=>False,rt:=fun r δ=>match δ[0]? with | some (some t)=>k r t | _=>False }
theorem Fun.okI {x qual:Str} {st:Stmt} {f:Addr} {fd:FuncData} {N ps:List Str} {n:Nat} {S:OT→List PyData→(OT→OT→Prop)→Prop} (F:Fun K x qual st f fd) (Sc:Z3 N ps (Zi st)) (len:∀ t ds k,S t ds k→ds.length + 1 = ps.length)
  (hbody:∀ (cdv:Value) (A:Around) (outer:List Env) (s:Shared) (H:Hp) (E:XK),Room n (A.deeper (envOfC qual (Zi st) s.heap.objs.size f cdv)) →
   ∃ m,MSs (Zp7 CX0 P w K mg base N qual (Zi st) f cdv A outer s H E).nox [0] (Z1 st) m∧∀ t ds k,S t ds k→m (Zxs k) (Zhx N t ds)):FnOk P w K mg base CX0 (n + 1) f fd ps (spI K S):=by
 refine F.ok Sc (fun vs H Q E h=>?_) (fun cdv A outer s H vs Q E hr h=>?_)
 ·obtain ⟨L,v0,t0,as,vs',ds,k,rfl,_,_,_,h1,h2,_⟩:=h
  rw [List.length_cons,h1.length]
  exact len t0 ds k h2
 ·obtain ⟨L,v0,t0,as,vs',ds,k,rfl,o0,nd0,hL,h1,h2,h3⟩:=h
  obtain ⟨m,⟨t,A1,s1⟩,q⟩:=hbody cdv A outer s H E hr
  have fin:∀ H' σ' v r δ' fp' new,Rel (G:=K) ⟨H,fun a=>a ∈ as,L,L2.start N (v0 :: vs')⟩ [0] H' σ' δ' fp' (exu (fun _=>False) new)→Own K H' (Lf (G:=K) ⟨H,fun a=>a ∈ as,L,L2.start N (v0 :: vs')⟩ fp' (exu (fun _=>False) new)) v r new→new.Nodup→(∀ a ∈ new,H a = none) →
    (match δ'[0]? with | some (some t)=>k r t | _=>False)→Q v H':=by
   intro H' σ' v r δ' fp' new R o nd hn hk
   split at hk
   case h_2=>exact hk.elim
   rename_i t' e'
   obtain ⟨u,eu,ou⟩:=R.own 0 t' e'
   have hio:=R.io 0 (by simp)
   rw [eu] at hio
   have:u = v0:=by
    have e2:(L2.start N (v0 :: vs'))[0]? = some (some v0):=rfl
    have hio':some (some u) = (L2.start N (v0 :: vs'))[0]?:=hio
    rw [e2] at hio'
    cases hio'; rfl
   subst this
   refine h3 r t' v H' new (fp' 0) hk (fun b ob e nb=>R.fr b ob e nb) (fun b e=>R.al b e) (o.wide fun a l _=>⟨l.2.2,fun z=>l.2.1 (.inr z),fun z=>l.1 ⟨0,z⟩⟩) (ou.wide fun a l _=>⟨l.2.2,fun z=>l.2.1 (.inr z),fun z=>l.1 ⟨0,z⟩⟩) ?_ hn fun a m=>?_
   ·exact List.nodup_append.mpr ⟨R.nd 0,nd,fun a m b m' z=>by subst z; exact R.dx 0 a m (.inr m')⟩
   ·rcases R.new 0 a m with z | z
    ·exact .inl z.2
    ·exact .inr z
  refine ⟨t,A1,s1 ⟨H,fun a=>a ∈ as,L,L2.start N (v0 :: vs')⟩ H _ _ _ _ (Zxs k) _ (Rel.entryI o0 nd0 hL h1) (q t0 ds k h2) ⟨fun H' σ' δ' fp' R _ hk=>?_,fun _ _ _ _ _ _ z=>z.elim,fun _ _ _ _ _ _ z=>z.elim,fun H' σ' v r δ' fp' new R o nd hn hk=>fin H' σ' v r δ' fp' new R o nd hn hk⟩⟩
  exact fin H' σ' .non (.fz .none) δ' fp' [] (R.drop fun a z=>Zd6.mp z) (.fz .non) .nil (fun a m=>nomatch m) hk
end
noncomputable abbrev MGt:=PyData→Zr→(Zr→Prop)→Prop
noncomputable abbrev Zri:=List PyData→Zr→(Zr→Prop)→Prop
noncomputable def SG (G:PySem.W.Frag) (io:List Nat) (c:Bool) (t:TG) (g:MGt):Prop:=∀ (C:MC G) (H:Hp) (σ:St) (δ:Zr) (fp:Fp) (ex:Addr→Prop) (v:V) (d:PyData) (k:Zr→Prop) (Q:St→Hp→Prop),Rel C io H σ δ fp ex→Da G H (fun a=>c = true→Lf C fp ex a) v d→g d δ k →
 (∀ σ' δ' fp',Rel C io H σ' δ' fp' ex→Kp H fp H fp'→k δ'→Q σ' H)→t v σ H Q
noncomputable def SGs (G:PySem.W.Frag) (io:List Nat) (c:Bool) (t:TGs) (g:Zri):Prop:=∀ (C:MC G) (H:Hp) (σ:St) (δ:Zr) (fp:Fp) (ex:Addr→Prop) (v:List V) (d:List PyData) (k:Zr→Prop) (Q:St→Hp→Prop),Rel C io H σ δ fp ex→Das G H (fun a=>c = true→Lf C fp ex a) v d→g d δ k →
 (∀ σ' δ' fp',Rel C io H σ' δ' fp' ex→Kp H fp H fp'→k δ'→Q σ' H)→t v σ H Q
noncomputable def MG (X:Cx) (io:List Nat) (c:Bool) (tg:Expr) (g:MGt):Prop:=∃ t,PG X tg t∧SG X.K io c t g
noncomputable def MGs (X:Cx) (io:List Nat) (c:Bool) (tg:List Expr) (g:Zri):Prop:=∃ t,PGs X tg t∧SGs X.K io c t g
section
variable {X:Cx} {io:List Nat} {c:Bool} {pos:Pos} {i:Nat} {x:Str}
noncomputable def dName (i:Nat):MGt:=fun d δ k=>k (δ.set i (some (.fz d)))
noncomputable def Zv2 (i:Nat):MGt:=fun d δ k=>Zc5 d = true∧k (δ.set i (some (.fz d)))
theorem Rel.putD {C:MC G} {H:Hp} {σ:St} {δ:Zr} {fp:Fp} {ex:Addr→Prop} {v:V} {d:PyData} (R:Rel C io H σ δ fp ex) (hio:i ∉ io) (q:Da G H (Lf C fp ex) v d) :
  ∃ fp',Rel C io H (σ.set i (some v)) (δ.set i (some (.fz d))) fp' ex∧Kp H fp H fp':=by
 obtain ⟨fp',R',g⟩:=(R.drop fun a z=>Zd6.mp z).put (new:=[]) hio (.fz (q.wide fun a l _=>⟨l.1,fun z=>l.2.1 (Zd6.mp z),l.2.2⟩)) .nil (fun a m=>nomatch m)
 exact ⟨fp',R',fun b o e _=>e,fun z=>(nomatch z),fun a z=>(g a z).imp id fun z=>(nomatch z),fun b e=>e⟩
theorem Zz (hN:X.N.Nodup) (hi:X.N[i]? = some x:=by rfl) (hx:Loc X.env.scope x:=by first | exact Or.inl rfl | exact Or.inr rfl) (hio:i ∉ io:=by decide) (hf:X.fn x = true∨X.env.scope.names.lookup x = some .local:=by first | exact .inl rfl | exact .inr rfl | assumption):MG X io true (.Name x pos) (dName i) :=
 ⟨_,Zsa hN hi hx hf,fun C H σ δ fp ex v d k Q R q h kk=>by
  obtain ⟨fp',R',k'⟩:=R.putD hio (q.wide fun a l _=>l rfl)
  exact kk _ _ fp' R' k' h⟩
theorem Zg6 (hN:X.N.Nodup) (hi:X.N[i]? = some x:=by rfl) (hx:Loc X.env.scope x:=by first | exact Or.inl rfl | exact Or.inr rfl) (hio:i ∉ io:=by decide) (hf:X.fn x = true∨X.env.scope.names.lookup x = some .local:=by first | exact .inl rfl | exact .inr rfl | assumption):MG X io c (.Name x pos) (Zv2 i) :=
 ⟨_,Zsa hN hi hx hf,fun C H σ δ fp ex v d k Q R q h kk=>by
  obtain ⟨fp',R',k'⟩:=R.putD hio (q.flat h.1)
  exact kk _ _ fp' R' k' h.2⟩
noncomputable def Z7s:Zri:=fun ds δ k=>ds = []∧k δ
noncomputable def Zw7 (g:MGt) (gs:Zri):Zri:=fun ds δ k=>match ds with | d :: r=>g d δ fun δ'=>gs r δ' k | []=>False
theorem Zkb:MGs X io c [] Z7s:=⟨_,Zxr,fun C H σ δ fp ex v d k Q R q h kk=>by
 obtain ⟨rfl,h⟩:=h
 cases q
 exact ⟨rfl,kk σ δ fp R (.refl _ _) h⟩⟩
theorem Rel.kp_das {C:MC G} {H H':Hp} {σ:St} {δ:Zr} {fp fp':Fp} {ex:Addr→Prop} {vs:List V} {ds:List PyData} (R:Rel C io H σ δ fp ex) (S:Kp H fp H' fp') (h:Das G H (Lf C fp ex) vs ds):Das G H' (Lf C fp' ex) vs ds:=by
 have S':Stp false H δ fp H' δ fp':=⟨S.keep,fun z=>(nomatch z),S.grow,S.al⟩
 obtain ⟨f1,f2⟩:=R.frameL (c:=true) (ex':=ex) S' (.inr rfl) fun a z=>.inl z
 exact h.frame (fun a xs l q=>⟨(f1 a xs (fun _=>l) q).1 rfl,(f1 a xs (fun _=>l) q).2⟩) f2
theorem Zd5 {e:Expr} {es:List Expr} {g:MGt} {gs:Zri} (h1:MG X io true e g) (h2:MGs X io true es gs)
  (hs:(assignEach (e :: es) X.env).map (·.2) = assign e X.env :: (assignEach es X.env).map (·.2):=by rfl):MGs X io true (e :: es) (Zw7 g gs):=by
 obtain ⟨_,A,s⟩:=h1
 obtain ⟨_,B,s'⟩:=h2
 exact ⟨_,Znu A B hs,fun C H σ δ fp ex v d k Q R q h kk=>by
  cases q with
  | nil=>exact h.elim
  | cons q qs =>
   refine ⟨_,_,rfl,s C H σ δ fp ex _ _ _ _ R q h fun σ1 δ1 fp1 R1 k1 h1=>?_⟩
   exact s' C H σ1 δ1 fp1 ex _ _ _ _ R1 ((R.kp_das k1 (qs.wide fun a l _=>l rfl)).wide fun a l _ _=>l) h1 fun σ2 δ2 fp2 R2 k2 h2=>kk σ2 δ2 fp2 R2 (k1.trans k2) h2⟩
theorem Zll {e:Expr} {es:List Expr} {g:MGt} {gs:Zri} (h1:MG X io false e g) (h2:MGs X io false es gs)
  (hs:(assignEach (e :: es) X.env).map (·.2) = assign e X.env :: (assignEach es X.env).map (·.2):=by rfl):MGs X io false (e :: es) (Zw7 g gs):=by
 obtain ⟨_,A,s⟩:=h1
 obtain ⟨_,B,s'⟩:=h2
 exact ⟨_,Znu A B hs,fun C H σ δ fp ex v d k Q R q h kk=>by
  cases q with
  | nil=>exact h.elim
  | cons q qs =>
   refine ⟨_,_,rfl,s C H σ δ fp ex _ _ _ _ R (q.wide fun a _ _ z=>nomatch z) h fun σ1 δ1 fp1 R1 k1 h1=>?_⟩
   exact s' C H σ1 δ1 fp1 ex _ _ _ _ R1 (qs.wide fun a _ _ z=>nomatch z) h1 fun σ2 δ2 fp2 R2 k2 h2=>kk σ2 δ2 fp2 R2 (k1.trans k2) h2⟩
noncomputable def dTup (n:Nat) (gs:Zri):MGt:=fun d δ k=>match d with | .tuple ds=>ds.length = n∧gs ds δ k | _=>False
theorem Zow {es:List Expr} {k:Nat} {gs:Zri} {n:Nat} (hc:X.calm = true) (h:MGs X io c es gs)
  (hn:(assignEach es X.env).length = n:=by rfl) (hst:(assignEach es X.env).findIdx? (·.1) = none:=by rfl):MG X io c (.Tuple es k pos) (dTup n gs):=by
 obtain ⟨_,A,s⟩:=h
 exact ⟨_,Z1n hc A hn hst,fun C H σ δ fp ex v d k Q R q h kk=>by
  cases q with
  | tup e qs=>exact ⟨_,_,rfl,.inl (.inl e),by rw [qs.length]; exact h.1,s C H σ δ fp ex _ _ _ _ R qs h.2 kk⟩
  | _=>exact h.elim⟩
end
end L2
namespace L2
open PySem PySem.Spec PyProof.Rows
variable {G:PySem.W.Frag}
noncomputable def IterOk (C:MC G) (fp:Fp) (ex:Addr→Prop) (H1:Hp) (c:Bool) (J:It) (ds:List PyData):Prop:=∀ H':Hp,(∀ b o,H1 b = some o→(c = false∨¬ Foot fp b)→H' b = some o)→∀ i:Nat,
 (∀ d,ds[i]? = some d→J.go i H'∧∀ x H'',J.yld i H' x H''→Same H' H''∧Da G H'' (fun a=>c = true→(Lf C fp ex a∧H1 a ≠ none)) x d)∧(ds[i]? = none→J.stop i H')
noncomputable abbrev MIt:=Zr→(List PyData→Zr→Prop)→Prop
noncomputable def SI (G:PySem.W.Frag) (io:List Nat) (p c:Bool) (t:TI) (m:MIt):Prop:=∀ (C:MC G) (H:Hp) (σ:St) (δ:Zr) (fp:Fp) (ex:Addr→Prop) (K:List PyData→Zr→Prop) (Q:It→Hp→Prop),Rel C io H σ δ fp ex→m δ K →
 (∀ J H1 ds δ1 fp1,Rel C io H1 σ δ1 fp1 ex→Stp p H δ fp H1 δ1 fp1→IterOk C fp1 ex H1 c J ds→K ds δ1→Q J H1)→t σ H Q
noncomputable def MI (X:Cx) (io:List Nat) (p c:Bool) (tg iter:Expr) (m:MIt):Prop:=∃ t,PI X tg iter t∧SI X.K io p c t m
section
variable {X:Cx} {io:List Nat} {p c:Bool} {e a b tg:Expr} {m:MEt} {mr:MAt} {K:PySem.W.Frag}
noncomputable def iL (m:MEt):MIt:=fun δ K=>m δ fun r δ'=>match r.data with | .list ds=>K ds δ' | _=>False
noncomputable def iT (m:MEt):MIt:=fun δ K=>m δ fun r δ'=>match r.data with | .tuple ds=>K ds δ' | _=>False
theorem Rel.kept {C:MC G} {H H':Hp} {σ:St} {δ:Zr} {fp:Fp} {ex:Addr→Prop} (R:Rel C io H σ δ fp ex) (kp:∀ b o,H b = some o→(c = false∨¬ Foot fp b)→H' b = some o) :
  (∀ a (xs:MuO),(c = true→Lf C fp ex a)→Rd H a xs.ho→(c = true→(Lf C fp ex a∧H a ≠ none))∧Rd H' a xs.ho)∧(∀ a (xs:ImO),H a = some xs.ho→H' a = some xs.ho):=by
 refine ⟨fun a xs l q=>⟨fun hc=>⟨l hc,q.some⟩,?_⟩,fun a xs q=>kp a _ q (.inr fun z=>?_)⟩
 ·have hk:c = false∨¬ Foot fp a:=by
   cases c with
   | false=>exact .inl rfl
   | true=>exact .inr (l rfl).1
  rcases q with q | ⟨o,q⟩
  ·exact .inl (kp a _ q hk)
  ·exact .inr ⟨o,kp a _ q hk⟩
 ·obtain ⟨ys,e⟩:=R.foot z
  exact ImO.nm q e
theorem W0 (h:ME X io p c e m):MI X io p c tg e (iL m):=by
 obtain ⟨_,A,s⟩:=h
 exact ⟨_,Ztt rfl A,fun C H σ δ fp ex K' Q R h kk=>s C H σ δ fp ex _ _ R h fun H1 v r δ1 fp1 new r1 h1=>by
  have q:=r1.da R
  generalize r.data = d at q h1
  cases q with
  | lst l e qs =>
   refine ⟨_,rfl,⟨_,.inl e⟩,kk _ H1 _ δ1 fp1 r1.base r1.stp (fun H' kp i=>?_) h1⟩
   obtain ⟨f1,f2⟩:=r1.base.kept kp
   have e':=(f1 _ (.lst _) l e).2
   have qs':=qs.frame f1 f2
   refine ⟨fun d hd=>?_,fun hd=>?_⟩
   ·obtain ⟨x,hx,qx⟩:=qs'.get hd
    refine ⟨⟨_,x,.inl e',hx⟩,fun y H'' hy=>?_⟩
    obtain ⟨rfl,hy⟩:=hy
    have:=hy _ (.inl e')
    rw [hx] at this
    cases this
    exact ⟨Same.refl _,qx⟩
   ·exact ⟨_,.inl e',by rw [qs'.length]; exact List.getElem?_eq_none_iff.mp hd⟩
  | scr ks =>
   refine ⟨_,rfl,⟨_,ks.sq⟩,kk _ H1 _ δ1 fp1 r1.base r1.stp (fun H' kp i=>?_) h1⟩
   refine ⟨fun d hd=>?_,fun hd=>?_⟩
   ·obtain ⟨x,hx,qx⟩:=(Das.ints (G:=X.K) (H:=H') (L:=fun a=>c = true→(Lf C fp1 ex a∧H1 a ≠ none)) _).get hd
    refine ⟨⟨_,x,ks.sq,hx⟩,fun y H'' hy=>?_⟩
    obtain ⟨rfl,hy⟩:=hy
    have:=hy _ ks.sq
    rw [hx] at this
    cases this
    exact ⟨Same.refl _,qx⟩
   ·refine ⟨_,ks.sq,?_⟩
    have:=List.getElem?_eq_none_iff.mp hd
    simpa using this
  | _=>exact h1.elim⟩
theorem Zwe (h:ME X io p c e m):MI X io p c tg e (iT m):=by
 obtain ⟨_,A,s⟩:=h
 exact ⟨_,Zzg rfl A,fun C H σ δ fp ex K' Q R h kk=>s C H σ δ fp ex _ _ R h fun H1 v r δ1 fp1 new r1 h1=>by
  have q:=r1.da R
  generalize r.data = d at q h1
  cases q with
  | tup e qs =>
   refine ⟨_,rfl,⟨_,.inl (.inl e)⟩,kk _ H1 _ δ1 fp1 r1.base r1.stp (fun H' kp i=>?_) h1⟩
   obtain ⟨f1,f2⟩:=r1.base.kept kp
   have e':=f2 _ (.tup _) e
   have qs':=qs.frame f1 f2
   refine ⟨fun d hd=>?_,fun hd=>?_⟩
   ·obtain ⟨x,hx,qx⟩:=qs'.get hd
    refine ⟨⟨_,x,.inl (.inl e'),hx⟩,fun y H'' hy=>?_⟩
    obtain ⟨rfl,hy⟩:=hy
    have:=hy _ (.inl (.inl e'))
    rw [hx] at this
    cases this
    exact ⟨Same.refl _,qx⟩
   ·exact ⟨_,.inl (.inl e'),by rw [qs'.length]; exact List.getElem?_eq_none_iff.mp hd⟩
  | _=>exact h1.elim⟩
noncomputable def Zc4 (lo:Int) (n:Nat):List PyData:=(List.range n).map fun (i:Nat)=>PyData.int (lo + (i:Int))
@[simp] theorem Yb (lo:Int) (n:Nat):(Zc4 lo n).length = n:=by simp [Zc4]
theorem Wh {lo:Int} {n i:Nat} {d:PyData} (h:(Zc4 lo n)[i]? = some d):i < n∧d = .int (lo + i):=by
 have hi:i < n:=by
  have:=(List.getElem?_eq_some_iff.mp h).1
  simpa using this
 unfold Zc4 at h
 rw [List.getElem?_map,List.getElem?_range hi] at h
 cases h
 exact ⟨hi,rfl⟩
theorem Znh {C:MC G} {fp:Fp} {ex:Addr→Prop} {H1:Hp} {lo:Int} {n:Nat}:IterOk C fp ex H1 true (Itr lo n) (Zc4 lo n):=fun H' _ i=>by
 refine ⟨fun d hd=>?_,fun hd=>?_⟩
 ·obtain ⟨hi,rfl⟩:=Wh hd
  refine ⟨hi,fun x H'' hy=>?_⟩
  obtain ⟨rfl,rfl⟩:=hy
  exact ⟨Same.refl _,.int _⟩
 ·have:=List.getElem?_eq_none_iff.mp hd
  show n ≤ i
  simpa using this
noncomputable def iR1 (mr:MAt):MIt:=fun δ K=>mr δ fun rs δ'=>match OT.datas rs with | [.int j]=>(-(2 ^ 62) ≤ j∧j < 2 ^ 62)∧K (Zc4 0 j.toNat) δ' | _=>False
noncomputable def iR2 (mr:MAt):MIt:=fun δ K=>mr δ fun rs δ'=>match OT.datas rs with | [.int i,.int j]=>(-(2 ^ 62) ≤ i∧i < 2 ^ 62∧-(2 ^ 62) ≤ j∧j < 2 ^ 62)∧K (Zc4 i (j - i).toNat) δ' | _=>False
theorem Yi {p' pos:Pos} (hg:Gl X "range") (hm:X.mg "range" = none) (ha:MA X io p c [a] mr) (hs:starEach [a] X.env = [(false,eval a X.env)]:=by rfl):MI X io p true tg (.Call (.Name "range" p') [a] [] pos) (iR1 mr):=by
 obtain ⟨_,A,s⟩:=ha
 exact ⟨_,Zsj hg hm A hs,fun C H σ δ fp ex K' Q R h kk=>s C H σ δ fp ex _ _ R h fun H1 vs rs δ1 fp1 new r1 h1=>by
  have q:=r1.das R
  generalize OT.datas rs = d at q h1
  split at h1
  case h_2=>exact h1.elim
  cases q with
  | cons q1 q2 =>
   cases q1
   cases q2
   exact ⟨_,rfl,h1.1.1,h1.1.2,kk _ H1 _ δ1 fp1 r1.base r1.stp Znh h1.2⟩⟩
theorem Zey {p' pos:Pos} (hg:Gl X "range") (hm:X.mg "range" = none) (ha:MA X io p c [a,b] mr) (hs:starEach [a,b] X.env = [(false,eval a X.env),(false,eval b X.env)]:=by rfl) (hs2:starEach [b] X.env = [(false,eval b X.env)]:=by rfl):MI X io p true tg (.Call (.Name "range" p') [a,b] [] pos) (iR2 mr):=by
 obtain ⟨_,A,s⟩:=ha
 exact ⟨_,Zsp hg hm A hs hs2,fun C H σ δ fp ex K' Q R h kk=>s C H σ δ fp ex _ _ R h fun H1 vs rs δ1 fp1 new r1 h1=>by
  have q:=r1.das R
  generalize OT.datas rs = d at q h1
  split at h1
  case h_2=>exact h1.elim
  cases q with
  | cons q1 q2 =>
   cases q1
   cases q2 with
   | cons q2 q3 =>
    cases q2
    cases q3
    exact ⟨_,_,rfl,h1.1,kk _ H1 _ δ1 fp1 r1.base r1.stp Znh h1.2⟩⟩
theorem IterOk.at {C:MC G} {fp fp':Fp} {ex:Addr→Prop} {H1 H' H'':Hp} {J:It} {ds:List PyData} {x:V} {d:PyData} (g:∀ a,Foot fp' a→Foot fp a∨H1 a = none) (h:Da G H'' (fun a=>true = true→(Lf C fp ex a∧H1 a ≠ none)) x d):Da G H'' (fun a=>true = true→Lf C fp' ex a) x d :=
 h.wide fun a l _ z=>⟨fun w=>(g a w).elim (l z).1.1 (l z).2,(l z).1.2.1,(l z).1.2.2⟩
noncomputable def Z6k (ds:List PyData) (g:MGt) (u:MSt) (D:Zh2) (δ1:Zr):Prop:=∃ I:Nat→Zr→Prop,I 0 δ1∧(∀ (i:Nat) (d:PyData) (δ':Zr),ds[i]? = some d→I i δ'→g d δ' fun δ2=>u { D with nx:=I (i + 1),ct:=I (i + 1),bk:=D.nx } δ2)∧∀ δ',I ds.length δ'→D.nx δ'
noncomputable def Z7h (mi:MIt) (g:MGt) (u:MSt):MSt:=fun D δ=>mi δ fun ds δ1=>Z6k ds g u D δ1
theorem Rel.mk0 {C:MC G} {H H':Hp} {σ:St} {δ:Zr} {fp:Fp} {ex:Addr→Prop} (R:Rel C io H σ δ fp ex) (s:Same H H'):Rel C io H' σ δ fp ex:=(R.made (new:=[]) s fun a m=>nomatch m).drop fun a z=>.inl z
theorem Wg {iter:Expr} {body:List Stmt} {mi:MIt} {g:MGt} {u:MSt} {pos:Pos} (hp:PassesOwn (model X.prog X.w) X.A X.env X.xe) (hc:X.calm = true) (hi:MI X io p true tg iter mi) (hg:MG X io true tg g) (hb:MSs X io body u)
  (hs:∀ x,foldedSetIterable iter X.env x = pure x:=by intro _; rfl):MS X io (.For tg iter body [] pos) (Z7h mi g u):=by
 obtain ⟨_,A,s⟩:=hi
 obtain ⟨_,G,sg⟩:=hg
 obtain ⟨_,B,sb⟩:=hb
 refine ⟨_,Z12 hp hc A G B hs,fun C H σ δ fp ex D D' R h E=>s C H σ δ fp ex _ _ R h fun J H1 ds δ1 fp1 R1 S1 it h1=>?_⟩
 obtain ⟨I,h0,turn,fin⟩:=h1
 refine ⟨fun i n σ' H'=>n = ds.length - i∧i ≤ ds.length∧∃ δ' fp',Rel C io H' σ' δ' fp' ex∧Kp H1 fp1 H' fp'∧I i δ',⟨ds.length,rfl,Nat.zero_le _,δ1,fp1,R1,.refl _ _,h0⟩,?_⟩
 rintro i n σ2 H2 ⟨rfl,hle,δ2,fp2,R2,k2,i2⟩
 have itk:=it H2 (fun b o e q=>k2.keep b o e (.inr (q.resolve_left (by decide)))) i
 by_cases hlt:i < ds.length
 ·have hd:ds[i]? = some ds[i]:=List.getElem?_eq_getElem hlt
  obtain ⟨go,yl⟩:=itk.1 _ hd
  refine .inr ⟨go,fun σ' H'=>∃ δ' fp',Rel C io H' σ' δ' fp' ex∧Kp H1 fp1 H' fp'∧I (i + 1) δ',fun σ' H' ⟨δ',fp',R',k',i'⟩=>⟨ds.length - (i + 1),by omega,rfl,hlt,δ',fp',R',k',i'⟩,fun x H3 hy=>?_⟩
  obtain ⟨s3,q3⟩:=yl x H3 hy
  have R3:=R2.mk0 s3
  have k3:Kp H1 fp1 H3 fp2:=k2.trans ⟨fun b o e _=>s3 _ _ e,fun z=>(nomatch z),fun a z=>.inl z,s3.al⟩
  refine sg C H3 σ2 δ2 fp2 ex x _ _ _ R3 (IterOk.at (H':=H2) (J:=J) (ds:=ds) k2.grow q3) (turn i _ δ2 hd i2) fun σ4 δ4 fp4 R4 k4 h4=>?_
  have k5:=k3.trans k4
  refine sb C H3 σ4 δ4 fp4 ex _ _ R4 h4 ⟨fun H' σ' δ' fp' R' k' n'=>⟨δ',fp',R',k5.trans k',n'⟩,fun H' σ' δ' fp' R' k' n'=>E.nx H' σ' δ' fp' R' (S1.kp.trans (k5.trans k')) n',fun H' σ' δ' fp' R' k' n'=>⟨δ',fp',R',k5.trans k',n'⟩,E.rt⟩
 ·have e:i = ds.length:=by omega
  subst e
  exact .inl ⟨itk.2 (by simp),E.nx H2 σ2 δ2 fp2 R2 (S1.kp.trans k2) (fin δ2 i2)⟩
end
noncomputable def gM (G:PySem.W.Frag) (io:List Nat) (c:Bool) (g:MGt):TG:=fun v σ H Q=>∃ (C:MC G) (δ:Zr) (fp:Fp) (ex:Addr→Prop) (d:PyData) (k:Zr→Prop),Rel C io H σ δ fp ex∧Da G H (fun a=>c = true→Lf C fp ex a) v d∧g d δ k ∧
 ∀ σ' δ' fp',Rel C io H σ' δ' fp' ex→Kp H fp H fp'→k δ'→Q σ' H
noncomputable def tM (G:PySem.W.Frag) (io:List Nat) (p c:Bool) (m:MEt):TE:=fun σ H Q=>∃ (C:MC G) (δ:Zr) (fp:Fp) (ex:Addr→Prop) (K:OT→Zr→Prop),Rel C io H σ δ fp ex∧m δ K∧∀ H' v r δ' fp' new,RE C io p c H σ δ fp ex H' v r δ' fp' new→K r δ'→Q v H'
noncomputable def ttM (G:PySem.W.Frag) (io:List Nat) (p:Bool) (m:MTt):TT:=fun σ H Q=>∃ (C:MC G) (δ:Zr) (fp:Fp) (ex:Addr→Prop) (K:Bool→Zr→Prop),Rel C io H σ δ fp ex∧m δ K∧∀ H' b δ' fp',Rel C io H' σ δ' fp' ex→Stp p H δ fp H' δ' fp'→K b δ'→Q b H'
noncomputable def MIfs (X:Cx) (io:List Nat) (p:Bool) (ifs:List Expr) (m:MTt):Prop:=∃ t,Zz7 X ifs t∧STt X.K io p t m
section
variable {X:Cx} {io:List Nat} {p c:Bool} {e tg:Expr} {m:MEt} {mt:MTt} {g:MGt} {ifs:List Expr}
theorem MG.canon (h:MG X io c tg g):PG X tg (gM X.K io c g):=by
 obtain ⟨t,A,s⟩:=h
 rintro pins sh σ H v u Q I r ⟨C,δ,fp,ex,d,k,R,q,h,kk⟩
 exact A pins sh σ H v u Q I r (s C H σ δ fp ex v d k Q R q h kk)
theorem ME.canon (h:ME X io p c e m):PE X e (tM X.K io p c m):=by
 obtain ⟨t,A,s⟩:=h
 rintro pins sh σ H Q I ⟨C,δ,fp,ex,K,R,h,kk⟩
 exact A pins sh σ H Q I (s C H σ δ fp ex K Q R h kk)
theorem MIfs.canon (h:MIfs X io p ifs mt):Zz7 X ifs (ttM X.K io p mt):=by
 obtain ⟨t,A,s⟩:=h
 rintro pins sh σ H Q I ⟨C,δ,fp,ex,K,R,h,kk⟩
 exact A pins sh σ H Q I (s C H σ δ fp ex K Q R h kk)
noncomputable def Z2i:MTt:=fun δ K=>K true δ
theorem Jg:MIfs X io true [] Z2i:=⟨_,Zxj,fun C H σ δ fp ex K Q R h kk=>kk H true δ fp R (.refl _ _ _ _) h⟩
end
end L2
namespace L2
open PySem PySem.Spec PyProof.Rows
variable {G:PySem.W.Frag}
noncomputable def blk (n:Nat) (caps:List Nat) (δ:Zr):Zr:=List.replicate n none ++ caps.map fun i=>(δ[i]?).getD none
noncomputable def Zau (n:Nat) (caps:List Nat) (fp:Fp):Fp:=fun k=>if k < n then [] else match caps[k - n]? with | some i=>fp i | none=>[]
noncomputable def Zct (n:Nat) (caps:List Nat):List Nat:=(List.range caps.length).map (· + n)
noncomputable def Zti (C:MC G) (H1:Hp) (fp:Fp) (σ0:St):MC G:=⟨H1,Foot fp,fun a=>(C.L a∨C.H₀ a = none)∧¬ Foot fp a,σ0⟩
noncomputable def Zgc (ex:Addr→Prop) (D:Addr) (fp fpb:Fp) (a:Addr):Prop:=ex a∨a = D∨(Foot fp a∧¬ Foot fpb a)
section
variable {C:MC G} {io:List Nat} {H1 H':Hp} {σ:St} {δ:Zr} {fp:Fp} {ex:Addr→Prop} {own:List Str} {caps:List Nat} {D:Addr} {n:Nat}
theorem Zc9 {k:Nat} {a:Addr} (h:a ∈ Zau n caps fp k):∃ i,n ≤ k∧caps[k - n]? = some i∧a ∈ fp i:=by
 unfold Zau at h
 split at h
 ·exact nomatch h
 ·split at h
  ·rename_i i e
   exact ⟨i,by omega,e,h⟩
  ·exact nomatch h
theorem Zu6 {j i:Nat} (h:caps[j]? = some i):Zau n caps fp (n + j) = fp i:=by
 unfold Zau
 rw [if_neg (by omega),show n + j - n = j by omega,h]
theorem Z2j {k:Nat} {t:OT} (h:(blk n caps δ)[k]? = some (some t)):∃ i,n ≤ k∧caps[k - n]? = some i∧δ[i]? = some (some t):=by
 unfold blk at h
 rw [List.getElem?_append] at h
 split at h
 ·rw [List.getElem?_replicate] at h
  split at h <;> cases h
 ·rename_i hk
  rw [List.length_replicate] at hk h
  rw [List.getElem?_map] at h
  cases e:caps[k - n]? with
  | none=>rw [e] at h; cases h
  | some i =>
   rw [e] at h
   refine ⟨i,by omega,rfl,?_⟩
   simp only [Option.map_some] at h
   cases e2:δ[i]? with
   | none=>rw [e2] at h; cases h
   | some o =>
    rw [e2] at h
    simpa using h
theorem Rel.block (R:Rel C io H1 σ δ fp ex) (nd:caps.Nodup) (hD:H1 D = none) :
  Rel (Zti C H1 fp (Zan own caps σ)) (Zct own.length caps) (upd H1 D (.lst [])) (Zan own caps σ) (blk own.length caps δ) (Zau own.length caps fp) (Zgc ex D fp (Zau own.length caps fp)):=by
 have s:=Y9 hD (.lst [])
 have sub:∀ a,Foot (Zau own.length caps fp) a→Foot fp a:=fun a q91=>by
  obtain ⟨k,z⟩:=q91
  obtain ⟨i,_,_,z⟩:=Zc9 z
  exact ⟨i,z⟩
 have neD:∀ a,H1 a ≠ none→a ≠ D:=fun a h z=>h (z ▸ hD)
 refine ⟨by unfold Zan blk; simp,fun k t e=>?_,fun k h=>?_,fun k=>?_,fun k l a h1 h2=>?_,fun k a h z=>?_,fun a z=>?_,fun b o e _=>s _ _ e,fun b e=>s.free e,fun k a h=>?_,fun k _=>rfl⟩
 ·obtain ⟨i,hk,e1,e2⟩:=Z2j e
  obtain ⟨v,e3,o⟩:=R.own i t e2
  refine ⟨v,?_,?_⟩
  ·unfold Zan
   rw [List.getElem?_append_right (by simpa using hk),List.length_map,List.getElem?_map,e1]
   simp [e3]
  ·have ef:Zau own.length caps fp k = fp i:=by
    have:=Zu6 (n:=own.length) (fp:=fp) e1
    rwa [show own.length + (k - own.length) = k by omega] at this
   rw [ef]
   refine (o.wide fun a l q=>⟨fun z=>l.1 (sub a z),fun z=>?_,.inl ⟨l.2.2,l.1⟩⟩).same s
   rcases z with z | z | z
   ·exact l.2.1 z
   ·exact neD a q z
   ·exact l.1 z.1
 ·unfold Zau
  split
  ·rfl
  ·split
   ·rename_i i e1
    refine R.emp i fun t z=>h t ?_
    unfold blk
    rw [List.getElem?_append_right (by rw [List.length_replicate]; omega),List.length_replicate,List.getElem?_map,e1]
    simp [z]
   ·rfl
 ·unfold Zau
  split
  ·exact .nil
  ·split
   ·exact R.nd _
   ·exact .nil
 ·obtain ⟨i,hk,e1,m1⟩:=Zc9 h1
  obtain ⟨j,hl,e2,m2⟩:=Zc9 h2
  have:=R.dj i j a m1 m2
  subst this
  have hlt:=(List.getElem?_eq_some_iff.mp e1).1
  have:=(List.getElem?_inj hlt nd).mp (e1.trans e2.symm)
  omega
 ·obtain ⟨i,hk,e1,m⟩:=Zc9 h
  rcases z with z | z | z
  ·exact R.dx i a m z
  ·exact R.footSome (z ▸ hD) ⟨i,m⟩
  ·exact z.2 ⟨k,h⟩
 ·rcases z with z | z | z
  ·intro q; exact R.xa a z (s.free q)
  ·subst z; rw [Y5]; intro q; cases q
  ·obtain ⟨xs,e⟩:=R.foot z.1
   rw [s _ _ e]; intro q; cases q
 ·obtain ⟨i,hk,e1,m⟩:=Zc9 h
  refine .inl ⟨?_,⟨i,m⟩⟩
  have:=(List.getElem?_eq_some_iff.mp e1).1
  exact List.mem_map.mpr ⟨k - own.length,by simpa using this,by omega⟩
theorem Zvw {σ0:St} {fp':Fp} {ex':Addr→Prop} {a:Addr} (hx:∀ a,ex a→ex' a) (l:Lf (Zti C H1 fp σ0) fp' ex' a):Lf C fp ex a∨H1 a = none:=by
 obtain ⟨l1,l2,l3⟩:=l
 rcases l3 with l3 | l3
 ·exact .inl ⟨l3.2,fun z=>l2 (hx a z),l3.1⟩
 ·exact .inr l3
theorem Rel.poke (R:Rel C io H' σ δ fp ex) {xs ys:List V} (hx:ex D) (hD:H' D = some (.lst xs)) (h0:C.H₀ D = none):Rel C io (upd H' D (.lst ys)) σ δ fp ex:=by
 have nf:¬ Foot fp D:=fun ⟨i,z⟩=>R.dx i D z hx
 have kp:∀ b o,b ≠ D→H' b = some o→upd H' D (.lst ys) b = some o:=fun b o n e=>by rw [Yq n]; exact e
 refine ⟨R.len,fun i t e=>?_,R.emp,R.nd,R.dj,R.dx,fun a z=>?_,fun b o e n=>?_,fun b e=>?_,R.new,R.io⟩
 ·obtain ⟨v,e1,o⟩:=R.own i t e
  refine ⟨v,e1,o.frame (fun a zs l q=>⟨l,?_⟩) (fun a zs q=>kp a _ (fun z=>?_) q) fun a m zs q=>kp a _ (fun z=>nf ⟨i,z ▸ m⟩) q⟩
  ·have na:a ≠ D:=fun z=>l.2.1 (z ▸ hx)
   rcases q with q | ⟨u,q⟩
   ·exact .inl (kp a _ na q)
   ·exact .inr ⟨u,kp a _ na q⟩
  ·exact ImO.nl q (z ▸ hD)
 ·by_cases e:a = D
  ·subst e; rw [Y5]; intro q; cases q
  ·rw [Yq e]; exact R.xa a z
 ·refine kp b o (fun z=>?_) (R.fr b o e n)
  rw [z,h0] at e; cases e
 ·refine R.al b ?_
  by_cases q:b = D
  ·subst q; rw [Y5] at e; cases e
  ·rwa [Yq q] at e
theorem Owns.poke {L:Addr→Prop} {xs ys zs:List V} {rs:List OT} {as:List Addr} (o:Owns G H' L zs rs as) (hD:H' D = Option.some (HO.lst xs)) (hL:¬ L D) (hn:D ∉ as):Owns G (upd H' D (.lst ys)) L zs rs as:=by
 refine o.frame (fun a zs l q=>⟨l,?_⟩) (fun a zs q=>?_) fun a m zs q=>?_
 ·have na:a ≠ D:=fun z=>hL (z ▸ l)
  rcases q with q | ⟨u,q⟩
  ·exact .inl (by rw [Yq na]; exact q)
  ·exact .inr ⟨u,by rw [Yq na]; exact q⟩
 ·rw [Yq (fun z=>ImO.nl q (z ▸ hD))]; exact q
 ·have na:a ≠ D:=fun z=>hn (by rw [← z]; exact m)
  rw [Yq na]; exact q
theorem Owns.snoc {L:Addr→Prop} {xs:List V} {rs:List OT} {as bs:List Addr} {x:V} {r:OT} (h:Owns G H' L xs rs as) (k:Own G H' L x r bs):Owns G H' L (xs ++ [x]) (rs ++ [r]) (as ++ bs) :=
 Owns.rec (motive_1:=fun _ _ _ _=>True) (motive_2:=fun xs rs as _=>Owns G H' L (xs ++ [x]) (rs ++ [r]) (as ++ bs)) (fun _=>trivial) (fun _ _ _=>trivial) (fun _ _ _=>trivial) (fun _ _ _=>trivial) (by have:=Owns.cons k .nil; rwa [List.append_nil] at this) (fun k _ _ ih=>by rw [List.append_assoc]; exact .cons k ih) h
end
structure Zwb (C:MC G) (H1:Hp) (fp1:Fp) (ex:Addr→Prop) (n:Nat) (caps:List Nat) (σ0:St) (D:Addr) (pb:Bool) (H':Hp) (σ':St) (δ':Zr) (fp':Fp) (ys:List V) (rs:List OT) (new:List Addr):Prop where
 keep:∀ b o,H1 b = some o→(pb = true∨¬ Foot (Zau n caps fp1) b)→H' b = some o
 al:∀ b,H' b = none→H1 b = none
 dat:H' D = some (.lst ys)
 rel:Rel (Zti C H1 fp1 σ0) (Zct n caps) H' σ' δ' fp' (exu (Zgc ex D fp1 (Zau n caps fp1)) new)
 grow:∀ a,Foot fp' a→Foot (Zau n caps fp1) a∨H1 a = none
 own:Owns G H' (fun a=>true = true→Lf (Zti C H1 fp1 σ0) fp' (exu (Zgc ex D fp1 (Zau n caps fp1)) new) a) ys rs new
 nd:new.Nodup
 fresh:∀ a ∈ new,H1 a = none∧a ≠ D
section
variable {io:List Nat} {p c pt pe ci:Bool} {g:MGt} {mt:MTt} {me:MEt} {own:List Str} {caps:List Nat}
theorem Zl6 {C:MC G} {H1:Hp} {σ:St} {δ1:Zr} {fp1:Fp} {ex:Addr→Prop} {J:It} {ds:List PyData} {D:Addr} {Qf:Hp→Prop} (I:Nat→List OT→Zr→Prop) (R1:Rel C io H1 σ δ1 fp1 ex)
  (it:∀ H':Hp,(∀ b o,H1 b = some o→((pt && pe) = true∨¬ Foot (Zau own.length caps fp1) b)→H' b = some o)→∀ i:Nat,(∀ d,ds[i]? = some d→J.go i H'∧∀ x H'',J.yld i H' x H''→Same H' H''∧Da G H'' (fun a=>ci = true→(Lf C fp1 ex a∧H1 a ≠ none)) x d)∧(ds[i]? = none→J.stop i H'))
  (nd:caps.Nodup) (hD:H1 D = none) (hz:ds.length ≤ sizeLine) (h0:I 0 [] (blk own.length caps δ1))
  (turn:∀ (i:Nat) (d:PyData) (rs:List OT) (δ':Zr),ds[i]? = some d→I i rs δ'→g d δ' fun δ2=>mt δ2 fun b δ3=>if b = true then me δ3 fun r δ4=>I (i + 1) (rs ++ [r]) δ4 else I (i + 1) rs δ3)
  (fin:∀ H' σ' δ' fp' ys rs new,Zwb C H1 fp1 ex own.length caps (Zan own caps σ) D (pt && pe) H' σ' δ' fp' ys rs new→I ds.length rs δ'→Qf H') :
  Zy1 J (gM G (Zct own.length caps) ci g) (ttM G (Zct own.length caps) pt mt) (tM G (Zct own.length caps) pe true me) (Zan own caps σ) D Qf H1:=by
 have hx:Zgc ex D fp1 (Zau own.length caps fp1) D:=.inr (.inl rfl)
 refine ⟨fun i n σ' H'=>n = ds.length - i∧i ≤ ds.length∧∃ rs ys new δ' fp',Zwb C H1 fp1 ex own.length caps (Zan own caps σ) D (pt && pe) H' σ' δ' fp' ys rs new∧ys.length ≤ i∧I i rs δ',⟨ds.length,rfl,Nat.zero_le _,[],[],[],_,_,⟨fun b o e _=>Y9 hD _ _ _ e,(Y9 hD _).al,Y5,?_,fun a z=>.inl z,.nil,.nil,fun a m=>(nomatch m)⟩,Nat.le_refl _,h0⟩,?_⟩
 ·exact (R1.block nd hD).drop fun a z=>Zd6.mp z
 rintro i n σ2 H2 ⟨rfl,hle,rs,ys,new,δ2,fp2,B,hl,i2⟩
 have subB:∀ b,Foot (Zau own.length caps fp1) b→Foot fp1 b:=fun b q92=>by
  obtain ⟨k,z⟩:=q92
  obtain ⟨i,_,_,z⟩:=Zc9 z
  exact ⟨i,z⟩
 have itk:=it H2 B.keep i
 by_cases hlt:i < ds.length
 case neg =>
  have e:i = ds.length:=by omega
  subst e
  exact .inl ⟨itk.2 (by simp),fin H2 σ2 δ2 fp2 ys rs new B i2⟩
 have hd:ds[i]? = some ds[i]:=List.getElem?_eq_getElem hlt
 obtain ⟨go,yl⟩:=itk.1 _ hd
 refine .inr ⟨go,fun x H3 hy=>?_⟩
 obtain ⟨s3,q3⟩:=yl x H3 hy
 have R3:=B.rel.mk0 s3
 have D3:H3 D = some (.lst ys):=s3 _ _ B.dat
 -- the item,clean in the block
 have q3':Da G H3 (fun a=>ci = true→Lf (Zti C H1 fp1 (Zan own caps σ)) fp2 (exu (Zgc ex D fp1 (Zau own.length caps fp1)) new) a) x ds[i]:=by
  refine q3.wide fun a l _ z=>?_
  obtain ⟨⟨l1,l2,l3⟩,l4⟩:=l z
  refine ⟨fun w=>?_,fun w=>?_,.inl ⟨l3,l1⟩⟩
  ·rcases B.grow a w with w | w
   ·exact l1 (subB a w)
   ·exact l4 w
  ·rcases w with (w | w | w) | w
   ·exact l2 w
   ·subst w; exact l4 hD
   ·exact l1 w.1
   ·exact l4 (B.fresh a w).1
 refine ⟨_,δ2,fp2,_,_,_,R3,q3',turn i _ rs δ2 hd i2,fun σ4 δ4 fp4 R4 k4 h4=>?_⟩
 refine ⟨_,δ4,fp4,_,_,R4,h4,fun H5 b δ5 fp5 R5 S5 h5=>?_⟩
 -- the state behind the test
 have keep5:∀ b o,H1 b = some o→((pt && pe) = true∨¬ Foot (Zau own.length caps fp1) b)→H5 b = some o:=fun b o e q=>by
  refine S5.keep b o (s3 _ _ (B.keep b o e q)) ?_
  rcases q with q | q
  ·rw [Bool.and_eq_true] at q; exact .inl q.1
  ·refine .inr fun z=>?_
   rcases k4.grow b z with z | z
   ·rcases B.grow b z with z | z
    ·exact q z
    ·rw [e] at z; cases z
   ·rw [s3 _ _ (B.keep b o e (.inr q))] at z; cases z
 have al5:∀ b,H5 b = none→H1 b = none:=fun b e=>B.al b (s3.al b (S5.al b e))
 have grow4:∀ a,Foot fp4 a→Foot (Zau own.length caps fp1) a∨H1 a = none:=fun a z=>by
  rcases k4.grow a z with z | z
  ·exact B.grow a z
  ·exact .inr (B.al a (s3.al a z))
 have grow5:∀ a,Foot fp5 a→Foot (Zau own.length caps fp1) a∨H1 a = none:=fun a z=>by
  rcases S5.grow a z with z | z
  ·exact grow4 a z
  ·exact .inr (B.al a (s3.al a z))
 have D5:H5 D = some (.lst ys):=S5.keep D _ D3 (.inr fun ⟨k,z⟩=>R4.dx k D z (.inl hx))
 have own3:=B.own.same s3
 -- the items so far behind the target and the test
 have own4:Owns G H3 (fun a=>true = true→Lf (Zti C H1 fp1 (Zan own caps σ)) fp4 (exu (Zgc ex D fp1 (Zau own.length caps fp1)) new) a) ys rs new:=by
  refine own3.wide fun a l q z=>?_
  obtain ⟨l1,l2,l3⟩:=l z
  exact ⟨fun w=>(k4.grow a w).elim l1 q,l2,l3⟩
 have own5:=R4.owns_step (ex':=exu (Zgc ex D fp1 (Zau own.length caps fp1)) new) S5 (c:=true) (.inr rfl) (fun a z=>.inl z) (fun a m=>.inr m) own4
 dsimp only at h5 ⊢
 cases b with
 | false =>
  rw [if_neg Bool.false_ne_true] at h5 ⊢
  exact ⟨ds.length - (i + 1),by omega,rfl,hlt,rs,ys,new,δ5,fp5,⟨keep5,al5,D5,R5,grow5,own5,B.nd,B.fresh⟩,by omega,h5⟩
 | true =>
  rw [if_pos rfl] at h5 ⊢
  refine ⟨_,δ5,fp5,_,_,R5,h5,fun H6 v r δ6 fp6 nr r6 h6=>?_⟩
  have D6:H6 D = some (.lst ys):=r6.stp.keep D _ D5 (.inr fun ⟨k,z⟩=>R5.dx k D z (.inl hx))
  have hDnr:D ∉ nr:=fun z=>by
   have:=r6.fresh D z
   rw [D5] at this; cases this
  have own6:=R5.owns_step (ex':=exu (exu (Zgc ex D fp1 (Zau own.length caps fp1)) new) nr) r6.stp (c:=true) (.inr rfl) (fun a z=>z.imp id fun z=>r6.fresh a z) (fun a m=>.inr m) own5
  have eqx:∀ a,exu (Zgc ex D fp1 (Zau own.length caps fp1)) (new ++ nr) a→exu (exu (Zgc ex D fp1 (Zau own.length caps fp1)) new) nr a:=fun a z=>by
   rcases z with z | z
   ·exact .inl (.inl z)
   ·rcases List.mem_append.mp z with z | z
    ·exact .inl (.inr z)
    ·exact .inr z
  have lw:∀ a,(true = true→Lf (Zti C H1 fp1 (Zan own caps σ)) fp6 (exu (exu (Zgc ex D fp1 (Zau own.length caps fp1)) new) nr) a)→H6 a ≠ none→(true = true→Lf (Zti C H1 fp1 (Zan own caps σ)) fp6 (exu (Zgc ex D fp1 (Zau own.length caps fp1)) (new ++ nr)) a) :=
   fun a l _ z=>⟨(l z).1,fun w=>(l z).2.1 (eqx a w),(l z).2.2⟩
  have ownA:=(own6.snoc r6.own).wide lw
  refine ⟨ys,D6,by omega,ds.length - (i + 1),by omega,rfl,hlt,rs ++ [r],ys ++ [v],new ++ nr,δ6,fp6,⟨fun b o e q=>?_,fun b e=>?_,Y5,?_,fun a z=>?_,?_,?_,fun a m=>?_⟩,by rw [List.length_append]; show ys.length + 1 ≤ i + 1; omega,h6⟩
  ·have nD:b ≠ D:=fun z=>by rw [z,hD] at e; cases e
   rw [Yq nD]
   refine r6.stp.keep b o (keep5 b o e q) ?_
   rcases q with q | q
   ·rw [Bool.and_eq_true] at q; exact .inl q.2
   ·refine .inr fun z=>?_
    rcases grow5 b z with z | z
    ·exact q z
    ·rw [e] at z; cases z
  ·by_cases q:b = D
   ·subst q; rw [Y5] at e; cases e
   ·rw [Yq q] at e
    exact al5 b (r6.stp.al b e)
  ·exact (r6.rel.drop eqx).poke (.inl hx) D6 hD
  ·rcases r6.stp.grow a z with z | z
   ·exact grow5 a z
   ·exact .inr (al5 a z)
  ·exact ownA.poke D6 (fun z=>(z rfl).2.1 (.inl hx)) (fun m=>by
    rcases List.mem_append.mp m with m | m
    ·exact (B.fresh D m).2 rfl
    ·exact hDnr m)
  ·refine List.nodup_append.mpr ⟨B.nd,r6.nd,fun a m b m' z=>?_⟩
   subst z
   obtain ⟨xs,e⟩:=own5.some a m
   rw [r6.fresh a m'] at e; cases e
  ·rcases List.mem_append.mp m with m | m
   ·exact B.fresh a m
   ·exact ⟨al5 a (r6.fresh a m),fun z=>hDnr (z ▸ m)⟩
end
end L2
namespace L2
open PySem PySem.Spec PyProof.Rows
variable {G:PySem.W.Frag}
section
variable {X:Cx} {io:List Nat} {p p' c pt pe ci:Bool} {g:MGt} {mt:MTt} {me m:MEt} {mi:MIt} {own:List Str} {caps:List Nat} {e:Expr}
noncomputable def Z20 (m:MEt):MEt:=fun δ K=>m δ fun r δ'=>Zc5 r.data = true∧K (.fz r.data) δ'
theorem Zor (h:ME X io p c e m):ME X io p true e (Z20 m):=by
 obtain ⟨_,A,s⟩:=h
 exact ⟨_,A,fun C H σ δ fp ex K Q R h k=>s C H σ δ fp ex _ _ R h fun H' v r δ' fp' new r1 h1=>k H' v _ δ' fp' [] (r1.fzs R h1.1) h1.2⟩
noncomputable def Z3q (n:Nat) (caps:List Nat) (ds:List PyData) (g:MGt) (mt:MTt) (me:MEt) (δ1:Zr) (K:OT→Zr→Prop):Prop:=ds.length ≤ sizeLine∧∃ I:Nat→List OT→Zr→Prop,I 0 [] (blk n caps δ1) ∧
 (∀ (i:Nat) (d:PyData) (rs:List OT) (δ':Zr),ds[i]? = some d→I i rs δ'→g d δ' fun δ2=>mt δ2 fun b δ3=>if b = true then me δ3 fun r δ4=>I (i + 1) (rs ++ [r]) δ4 else I (i + 1) rs δ3) ∧
 ∀ rs δ',I ds.length rs δ'→K (.nd rs) δ1
noncomputable def Zk3 (n:Nat) (caps:List Nat) (mi:MIt) (g:MGt) (mt:MTt) (me:MEt):MEt:=fun δ K=>mi δ fun ds δ1=>Z3q n caps ds g mt me δ1 K
theorem Zw5 {wi:TI} (si:SI G io p ci wi mi) (nd:caps.Nodup) (hp:(pt && pe) = true) :
  SE G io p true (Zt6 own caps wi (gM G (Zct own.length caps) ci g) (ttM G (Zct own.length caps) pt mt) (tM G (Zct own.length caps) pe true me)) (Zk3 own.length caps mi g mt me):=by
 intro C H σ δ fp ex K Q R h k
 refine si C H σ δ fp ex _ _ R h fun J H1 ds δ1 fp1 R1 S1 it h1 D hD=>?_
 obtain ⟨hz,I,h0,turn,fin⟩:=h1
 refine Zl6 I R1 (fun H' kp=>it H' fun b o e _=>kp b o e (.inl hp)) nd hD hz h0 turn fun H' σ' δ' fp' ys rs new B i'=>?_
 have s:Same H1 H':=fun b o e=>B.keep b o e (.inl hp)
 refine k H' (.ref D) (.nd rs) δ1 fp1 (D :: new) (RE.tree R R1 S1 s (fun a m=>?_) (List.nodup_cons.mpr ⟨fun m=>(B.fresh D m).2 rfl,B.nd⟩) (.nd B.dat (B.own.wide fun a l _=>?_))) (fin rs δ' i')
 ·rcases List.mem_cons.mp m with rfl | m
  ·exact hD
  ·exact (B.fresh a m).1
 ·refine ⟨?_,fun m=>?_⟩
  ·rcases Zvw (fun a z=>.inl (.inl z)) (l rfl) with z | z
   ·exact .inl fun _=>z
   ·exact .inr z
  ·rcases List.mem_cons.mp m with z | z
   ·exact (l rfl).2.1 (.inl (.inr (.inl z)))
   ·exact (l rfl).2.1 (.inr z)
noncomputable def Zkq (caps:List Nat) (o:Nat) (δ:Zr):Bool:=caps.all fun i=>i == o || match δ[i]? with | some (some (.nd _))=>false | some (some (.tp _))=>false | some (some (.dc _ _ _))=>false | _=>true
noncomputable def Zyh (n:Nat) (caps:List Nat) (o q:Nat) (ds:List PyData) (g:MGt) (mt:MTt) (me:MEt) (δ1:Zr) (K:OT→Zr→Prop):Prop:=ds.length ≤ sizeLine∧Zkq caps o δ1 = true∧∃ I:Nat→List OT→Zr→Prop,I 0 [] (blk n caps δ1) ∧
 (∀ (i:Nat) (d:PyData) (rs:List OT) (δ':Zr),ds[i]? = some d→I i rs δ'→g d δ' fun δ2=>mt δ2 fun b δ3=>if b = true then me δ3 fun r δ4=>I (i + 1) (rs ++ [r]) δ4 else I (i + 1) rs δ3) ∧
 ∀ rs δ',I ds.length rs δ'→match δ1[o]?,δ'[q]? with | some (some _),some (some t)=>K (.nd rs) (δ1.set o (some t)) | _,_=>False
noncomputable def Znp (n:Nat) (caps:List Nat) (o q:Nat) (mi:MIt) (g:MGt) (mt:MTt) (me:MEt):MEt:=fun δ K=>mi δ fun ds δ1=>Zyh n caps o q ds g mt me δ1 K
theorem Zk9 {C:MC G} {H:Hp} {σ:St} {δ:Zr} {fp:Fp} {ex:Addr→Prop} {o:Nat} (R:Rel C io H σ δ fp ex) (h:Zkq caps o δ = true) {k:Nat} {a:Addr} {n:Nat} (m:a ∈ Zau n caps fp k):a ∈ fp o:=by
 obtain ⟨i,_,e,m⟩:=Zc9 m
 have:=List.all_eq_true.mp h i (List.mem_of_getElem? e)
 rw [Bool.or_eq_true] at this
 rcases this with z | z
 ·rw [beq_iff_eq] at z; subst z; exact m
 ·by_cases q:∃ t,δ[i]? = some (some t)
  ·obtain ⟨t,q⟩:=q
   obtain ⟨v,_,ow⟩:=R.own i t q
   rw [q] at z
   cases t with
   | nd ts=>cases z
   | tp ts=>cases z
   | dc _ _ _=>cases z
   | fz d =>
    generalize fp i = as at ow m
    cases ow
    exact nomatch m
  ·rw [R.emp i fun t w=>q ⟨t,w⟩] at m
   exact nomatch m
theorem Z2l {wi:TI} {o q:Nat} (si:SI G io p true wi mi) (nd:caps.Nodup) (ho:caps[q - own.length]? = some o) (hq:own.length ≤ q) :
  SE G io false true (Zt6 own caps wi (gM G (Zct own.length caps) true g) (ttM G (Zct own.length caps) pt mt) (tM G (Zct own.length caps) pe true me)) (Znp own.length caps o q mi g mt me):=by
 intro C H σ δ fp ex K Q R h k
 refine si C H σ δ fp ex _ _ R h fun J H1 ds δ1 fp1 R1 S1 it h1 D hD=>?_
 obtain ⟨hz,hcap,I,h0,turn,fin⟩:=h1
 refine Zl6 I R1 (fun H' kp=>it H' fun b o e q=>kp b o e (q.elim (fun z=>nomatch z) fun q=>.inr fun z=>q (by obtain ⟨k,z⟩:=z; obtain ⟨j,_,_,z⟩:=Zc9 z; exact ⟨j,z⟩))) nd hD hz h0 turn fun H' σ' δ' fp' ys rs new B i'=>?_
 have h2:=fin rs δ' i'
 split at h2
 case h_2=>exact h2.elim
 rename_i t0 t' e0 e'
 obtain ⟨v0,ev,_⟩:=R1.own o t0 e0
 obtain ⟨v1,ev1,o1⟩:=B.rel.own q t' e'
 have hql:q - own.length < caps.length:=(List.getElem?_eq_some_iff.mp ho).1
 have hio:=B.rel.io q (List.mem_map.mpr ⟨q - own.length,by simpa using hql,by omega⟩)
 have hs:(Zan own caps σ)[q]? = some (some v0):=by
  unfold Zan
  rw [List.getElem?_append_right (by simpa using hq),List.length_map,List.getElem?_map,ho]
  simp [ev]
 have:v1 = v0:=by
  rw [ev1] at hio
  have hio':some (some v1) = (Zan own caps σ)[q]?:=hio
  rw [hs] at hio'
  cases hio'; rfl
 subst this
 have lw:∀ a,Lf (Zti C H1 fp1 (Zan own caps σ)) fp' (exu (Zgc ex D fp1 (Zau own.length caps fp1)) new) a→H' a ≠ none→Lf C (fpu fp1 o (fp' q)) (exu ex (D :: new)) a:=fun a l _=>by
  have nD:a ∉ D :: new:=fun m=>by
   rcases List.mem_cons.mp m with z | z
   ·exact l.2.1 (.inl (.inr (.inl z)))
   ·exact l.2.1 (.inr z)
  have nq:a ∉ fp' q:=fun z=>l.1 ⟨q,z⟩
  rcases Zvw (C:=C) (fp:=fp1) (ex:=ex) (fun a z=>.inl (.inl z)) l with z | z
  ·exact ⟨fun w=>by
    rcases w.of_u with w | ⟨j,_,w⟩
    ·exact nq w
    ·exact z.1 ⟨j,w⟩,fun w=>w.elim z.2.1 nD,z.2.2⟩
  ·have:=R1.newOk z
   exact ⟨fun w=>by
    rcases w.of_u with w | ⟨j,_,w⟩
    ·exact nq w
    ·exact this.1 ⟨j,w⟩,fun w=>w.elim this.2.1 nD,.inr this.2.2⟩
 obtain ⟨R2,S2⟩:=R1.change (new:=D :: new) (t':=t') e0 ev (fun b ob eb nb=>B.keep b ob eb (.inr fun ⟨k,z⟩=>nb (Zk9 R1 hcap z))) B.al (o1.wide lw) (B.rel.nd q)
  (fun a m=>by
   rcases B.grow a ⟨q,m⟩ with ⟨k,z⟩ | z
   ·exact .inl (Zk9 R1 hcap z)
   ·exact .inr z)
  (fun a m=>by
   rcases List.mem_cons.mp m with rfl | m
   ·refine ⟨hD,fun z=>?_,fun z=>B.rel.dx q _ z (.inl (.inr (.inl rfl)))⟩
    rw [B.dat] at z; cases z
   ·refine ⟨(B.fresh a m).1,fun z=>?_,fun z=>B.rel.dx q _ z (.inr m)⟩
    obtain ⟨xs,e⟩:=B.own.some a m
    rw [z] at e; cases e)
 refine k H' (.ref D) (.nd rs) _ _ (D :: new) ⟨R2,(S1.trans S2).cast (fun z=>nomatch z),.nd B.dat (B.own.wide fun a l q _=>lw a (l rfl) q),List.nodup_cons.mpr ⟨fun m=>(B.fresh D m).2 rfl,B.nd⟩,fun a m=>?_⟩ h2
 rcases List.mem_cons.mp m with rfl | m
 ·exact S1.al _ hD
 ·exact S1.al _ (B.fresh a m).1
variable {N':List Str} {sc:Scope} {tg elt iter:Expr} {ifs:List Expr} {pos:Pos}
theorem Zbs (S:CompScope X own caps N' sc) (hc:X.calm = true) (nd:caps.Nodup) (hi:MI X io p ci tg iter mi)
  (hg:∀ C cells s₂ H₂ fp,MG (Jm X N' sc C cells s₂ H₂ fp) (Zct own.length caps) ci tg g) (ht:∀ C cells s₂ H₂ fp,MIfs (Jm X N' sc C cells s₂ H₂ fp) (Zct own.length caps) pt ifs mt) (he:∀ C cells s₂ H₂ fp,ME (Jm X N' sc C cells s₂ H₂ fp) (Zct own.length caps) pe true elt me)
  (hp:(pt && pe) = true:=by rfl) (hs:∀ x,foldedSetIterable iter X.env x = pure x:=by intro _; rfl):ME X io p true (.ListComp elt [⟨tg,iter,ifs,0⟩] sc pos) (Zk3 own.length caps mi g mt me):=by
 obtain ⟨_,A,si⟩:=hi
 exact ⟨_,Zqe S hc A (fun C cells s₂ H₂ fp=>(hg C cells s₂ H₂ fp).canon) (fun C cells s₂ H₂ fp=>(ht C cells s₂ H₂ fp).canon) (fun C cells s₂ H₂ fp=>(he C cells s₂ H₂ fp).canon) hs,Zw5 si nd hp⟩
theorem Zyn {o q:Nat} (S:CompScope X own caps N' sc) (hc:X.calm = true) (nd:caps.Nodup) (ho:caps[q - own.length]? = some o) (hq:own.length ≤ q) (hi:MI X io p true tg iter mi)
  (hg:∀ C cells s₂ H₂ fp,MG (Jm X N' sc C cells s₂ H₂ fp) (Zct own.length caps) true tg g) (ht:∀ C cells s₂ H₂ fp,MIfs (Jm X N' sc C cells s₂ H₂ fp) (Zct own.length caps) pt ifs mt) (he:∀ C cells s₂ H₂ fp,ME (Jm X N' sc C cells s₂ H₂ fp) (Zct own.length caps) pe true elt me)
  (hs:∀ x,foldedSetIterable iter X.env x = pure x:=by intro _; rfl):ME X io false true (.ListComp elt [⟨tg,iter,ifs,0⟩] sc pos) (Znp own.length caps o q mi g mt me):=by
 obtain ⟨_,A,si⟩:=hi
 exact ⟨_,Zqe S hc A (fun C cells s₂ H₂ fp=>(hg C cells s₂ H₂ fp).canon) (fun C cells s₂ H₂ fp=>(ht C cells s₂ H₂ fp).canon) (fun C cells s₂ H₂ fp=>(he C cells s₂ H₂ fp).canon) hs,Z2l si nd ho hq⟩
section
variable {i:Nat} {y:Str} {py spos:Pos}
theorem Zpl (own':Bool) (hN:X.N.Nodup) (hy:X.N[i]? = some y) (hx:Loc X.env.scope y) (S:CompScope X own caps N' sc) (hc:X.calm = true) (nd:caps.Nodup) (hi:MI X io p ci tg iter mi)
  (hg:∀ C cells s₂ H₂ fp,MG (Jm X N' sc C cells s₂ H₂ fp) (Zct own.length caps) ci tg g) (ht:∀ C cells s₂ H₂ fp,MIfs (Jm X N' sc C cells s₂ H₂ fp) (Zct own.length caps) pt ifs mt) (he:∀ C cells s₂ H₂ fp,ME (Jm X N' sc C cells s₂ H₂ fp) (Zct own.length caps) pe true elt me)
  (hp:(pt && pe) = true:=by rfl) (hio:i ∉ io:=by decide)
  (hsw:swapsWith (.ListComp elt [⟨tg,iter,ifs,0⟩] sc pos) (some (.Name y py)) spos.line X.env = pure true:=by rfl)
  (hs:∀ x,foldedSetIterable iter X.env x = pure x:=by intro _; rfl) (hf:X.fn y = true∨X.env.scope.names.lookup y = some .local:=by first | exact .inl rfl | exact .inr rfl | assumption) :
  MS X io (.Assign [.Name y py] (.ListComp elt [⟨tg,iter,ifs,0⟩] sc pos) spos) (if own' = true then Zr0 i (Zk3 own.length caps mi g mt me) else Z1z i (Zk3 own.length caps mi g mt me)):=by
 obtain ⟨_,A,si⟩:=hi
 refine ⟨_,Zpn (g:=gM X.K (Zct own.length caps) ci g) (tt:=ttM X.K (Zct own.length caps) pt mt) (te:=tM X.K (Zct own.length caps) pe true me) hN hy hx S hc A (fun C cells s₂ H₂ fp=>(hg C cells s₂ H₂ fp).canon) (fun C cells s₂ H₂ fp=>(ht C cells s₂ H₂ fp).canon) (fun C cells s₂ H₂ fp=>(he C cells s₂ H₂ fp).canon) hsw hs hf,?_⟩
 cases own'
 ·exact Z7w (Zw5 si nd hp) hio
 ·exact Z0j (Zw5 si nd hp) hio
end
end
end L2
namespace L2
open PySem PySem.Spec PyProof.Rows
variable {G:PySem.W.Frag}
section
variable {X:Cx} {pins:List (Addr × Obj)} {σ:St} {H:Hp} {s:Shared} {l:Addr} {xs:List V}
noncomputable def Z2h (K:PySem.W.Frag):R2:=fun x y H Q=>∃ l b xs zs,x = .ref l∧y = .ref b∧SqL K H l xs∧SqL K H b zs∧xs.length + zs.length ≤ sizeLine∧∀ p,H p = none→Q (.ref p) (upd H p (.lst (xs ++ zs)))
theorem Inv.lstQ {K:PySem.W.Frag} (hK:X.K = K) (I:Inv X pins σ H s) (hH:SqL K H l xs):∃ (its:List Value) (n:Nat),Vals xs its∧xs.length = its.length∧∃ o,s.heap.get? l = some o∧o.cls = .type "list" ∧ o.dict = none∧o.data = .seq its.toArray n:=by
 subst hK
 obtain ⟨its,r,⟨o,n,e,h1,h2,h3⟩,_⟩:=I.list hH
 exact ⟨its,n,r,r.length,o,e,h1,h2,h3⟩
theorem Zfk {K:PySem.W.Frag} (hK:X.K = K):OpR X (binaryOp .Add) (Z2h K):=by
 intro pins s σ H x y v u Q I rx ry h
 obtain ⟨l,b,xs,zs,rfl,rfl,hH,hB,hz,q⟩:=h
 cases rx
 cases ry
 obtain ⟨its,n,r,hl,⟨cls,dd,data,sl⟩,ho,hc,_,hd⟩:=I.lstQ hK hH
 obtain ⟨its2,n2,r2,hl2,⟨cls2,dd2,data2,sl2⟩,ho2,hc2,_,hd2⟩:=I.lstQ hK hB
 simp only at hc hd hc2 hd2
 subst hc hd hc2 hd2
 have ea:its.toArray ++ its2.toArray = (its ++ its2).toArray:=by simp
 refine concat_meets ⟨_,ho,rfl⟩ ⟨_,ho2,rfl⟩ noFill_list_add seq_list_add PySem.F.slot_list_add PySem.F.entry_list_add (PySem.F.args_list_add_2 _ _) (list_addW l b its.toArray its2.toArray n n2 dd dd2 sl sl2 (by simp only [List.size_toArray]; omega)) ⟨ho,ho2,?_⟩
 rw [ea]
 exact ⟨.ref _,_,I.lnew (t':=s.toks) (r.append r2) (by rw [List.length_append]; omega),rfl,q _ I.fresh⟩
end
noncomputable def asI (d:PyData) (k:Int→Prop):Prop:=match d with | .int i=>k i | _=>False
noncomputable def asL (d:PyData) (k:List PyData→Prop):Prop:=match d with | .list ds=>k ds | _=>False
section
variable {H:Hp} {L:Addr→Prop} {v:V} {d:PyData}
theorem Da.intInv {k:Int→Prop} (q:Da G H L v d) (h:asI d k):∃ i,v = .int i∧k i:=by
 cases q with
 | int b=>exact ⟨b,rfl,h⟩
 | _=>exact h.elim
theorem Da.lstInv {k:List PyData→Prop} (q:Da G H L v d) (h:asL d k):∃ a xs ds,v = .ref a∧SqL G H a xs∧Das G H L xs ds∧k ds:=by
 cases q with
 | lst l e r=>exact ⟨_,_,_,rfl,.inl e,r,h⟩
 | scr s=>exact ⟨_,_,_,rfl,s.sq,.ints _,h⟩
 | _=>exact h.elim
end
noncomputable def d2I (C:Int→Int→Prop) (g:Int→Int→PyData):PyData→PyData→(PyData→Prop)→Prop:=fun d e k=>asI d fun i=>asI e fun j=>C i j∧k (g i j)
noncomputable def Zun (g:Int→Int→PyData):PyData→PyData→(PyData→Prop)→Prop:=fun d e k=>asI d fun i=>asI e fun j=>k (g i j)
theorem Zh8 {C:Int→Int→Prop} {f:Int→Int→Int}:P2s G (rI C fun i j=>.int (f i j)) (d2I C fun i j=>.int (f i j)):=fun H L x y d e k Q hx hy h kk=>by
 obtain ⟨i,rfl,h⟩:=hx.intInv h
 obtain ⟨j,rfl,h⟩:=hy.intInv h
 exact ⟨i,j,rfl,rfl,h.1,kk _ _ (.int _) h.2⟩
structure MulOk (i j:Int):Prop where
 ok:IntMulOk i j
structure Z7f (i j:Int):Prop where
 ok:DivOk i j
structure Z4f (i j:Int):Prop where
 ok:Z0e i j
theorem Ze7 {f:Int→Int→Int}:P2s G (rI IntMulOk fun i j=>.int (f i j)) (d2I MulOk fun i j=>.int (f i j)):=fun H L x y d e k Q hx hy h kk=>by
 obtain ⟨i,rfl,h⟩:=hx.intInv h
 obtain ⟨j,rfl,h⟩:=hy.intInv h
 exact ⟨i,j,rfl,rfl,h.1.ok,kk _ _ (.int _) h.2⟩
theorem Zgu {f:Int→Int→Int}:P2s G (rI DivOk fun i j=>.int (f i j)) (d2I Z7f fun i j=>.int (f i j)):=fun H L x y d e k Q hx hy h kk=>by
 obtain ⟨i,rfl,h⟩:=hx.intInv h
 obtain ⟨j,rfl,h⟩:=hy.intInv h
 exact ⟨i,j,rfl,rfl,h.1.ok,kk _ _ (.int _) h.2⟩
theorem Zdu {f:Int→Int→Int}:P2s G (rI Z0e fun i j=>.int (f i j)) (d2I Z4f fun i j=>.int (f i j)):=fun H L x y d e k Q hx hy h kk=>by
 obtain ⟨i,rfl,h⟩:=hx.intInv h
 obtain ⟨j,rfl,h⟩:=hy.intInv h
 exact ⟨i,j,rfl,rfl,h.1.ok,kk _ _ (.int _) h.2⟩
theorem Ye {f:Int→Int→Int}:P2s G (rI0 fun i j=>.int (f i j)) (Zun fun i j=>.int (f i j)):=fun H L x y d e k Q hx hy h kk=>by
 obtain ⟨i,rfl,h⟩:=hx.intInv h
 obtain ⟨j,rfl,h⟩:=hy.intInv h
 exact ⟨i,j,rfl,rfl,kk _ _ (.int _) h⟩
theorem Zgt {f:Int→Int→Bool}:P2s G (rI0 fun i j=>.bl (f i j)) (Zun fun i j=>.bool (f i j)):=fun H L x y d e k Q hx hy h kk=>by
 obtain ⟨i,rfl,h⟩:=hx.intInv h
 obtain ⟨j,rfl,h⟩:=hy.intInv h
 exact ⟨i,j,rfl,rfl,kk _ _ (.bl _) h⟩
section
variable {X:Cx}
noncomputable def Z7r (K:PySem.W.Frag):R2:=fun x y H Q=>∃ (L L':Addr→Prop) (d e:PyData),Da K H L x d∧Da K H L' y e∧Shp d∧Shp e∧Q (.bl (PyData.eqv d e)) H
noncomputable def Z7a (K:PySem.W.Frag):R2:=fun x y H Q=>∃ (L L':Addr→Prop) (d e:PyData),Da K H L x d∧Da K H L' y e∧Shp d∧Shp e∧Q (.bl (!PyData.eqv d e)) H
theorem Zd4 (hu:X.A.units + 64 < cLine):OpR X (compareOp .Eq) (Z7r X.K):=by
 intro pins s σ H x y v u Q I rx ry h
 obtain ⟨L,L',d,e,h1,h2,s1,s2,q⟩:=h
 obtain ⟨as,k1⟩:=h1.reads rfl I rx (SeqAt.canLay_of_shaped s1)
 obtain ⟨bs,k2⟩:=h2.reads rfl I ry (SeqAt.canLay_of_shaped s2)
 exact eq_dataH k1 k2 s1 s2 hu ⟨.bl _,H,I,rfl,q⟩
theorem Zed (hu:X.A.units + 64 < cLine):OpR X (compareOp .NotEq) (Z7a X.K):=by
 intro pins s σ H x y v u Q I rx ry h
 obtain ⟨L,L',d,e,h1,h2,s1,s2,q⟩:=h
 obtain ⟨as,k1⟩:=h1.reads rfl I rx (SeqAt.canLay_of_shaped s1)
 obtain ⟨bs,k2⟩:=h2.reads rfl I ry (SeqAt.canLay_of_shaped s2)
 exact ne_dataH k1 k2 s1 s2 hu ⟨.bl _,H,I,rfl,q⟩
end
structure Z3h (d:PyData):Prop where
 ok:Shp d
noncomputable def dEq:PyData→PyData→(PyData→Prop)→Prop:=fun d e k=>Z3h d∧Z3h e∧k (.bool (PyData.eqv d e))
noncomputable def dNe:PyData→PyData→(PyData→Prop)→Prop:=fun d e k=>Z3h d∧Z3h e∧k (.bool (!PyData.eqv d e))
theorem Zgk:P2s G (Z7r G) dEq:=fun H L x y d e k Q hx hy h kk=>⟨L,L,d,e,hx,hy,h.1.ok,h.2.1.ok,kk _ _ (.bl _) h.2.2⟩
theorem Zg0:P2s G (Z7a G) dNe:=fun H L x y d e k Q hx hy h kk=>⟨L,L,d,e,hx,hy,h.1.ok,h.2.1.ok,kk _ _ (.bl _) h.2.2⟩
noncomputable def Zfm:PyData→Bool
 | .none=>true
 | _=>false
theorem Da.isNone {H:Hp} {L:Addr→Prop} {v:V} {d:PyData} (h:Da G H L v d):decide (v = .non) = Zfm d:=by
 cases h <;> rfl
noncomputable def Z7d:PyData→PyData→(PyData→Prop)→Prop:=fun d e k=>e = .none∧k (.bool (Zfm d))
noncomputable def Z2v:PyData→PyData→(PyData→Prop)→Prop:=fun d e k=>e = .none∧k (.bool (!Zfm d))
theorem Znn:P2s G (fun x y H Q=>y = .non∧Q (.bl (decide (x = .non))) H) Z7d:=fun H L x y d e k Q hx hy h kk=>by
 obtain ⟨rfl,h⟩:=h
 cases hy
 exact ⟨rfl,by rw [hx.isNone]; exact kk _ _ (.bl _) h⟩
theorem Zr8:P2s G (fun x y H Q=>y = .non∧Q (.bl (!decide (x = .non))) H) Z2v:=fun H L x y d e k Q hx hy h kk=>by
 obtain ⟨rfl,h⟩:=h
 cases hy
 exact ⟨rfl,by rw [hx.isNone]; exact kk _ _ (.bl _) h⟩
noncomputable def ixD (d e:PyData):Option PyData:=match d,e with
 | .list ds,.int i=>atI ds i
 | .tuple ds,.int i=>atI ds i
 | _,_=>none
noncomputable def dIx:PyData→PyData→(OT→Prop)→Prop:=fun d e k=>match ixD d e with | some x=>k (.fz x) | none=>False
theorem Das.atI {H:Hp} {L:Addr→Prop} {xs:List V} {ds:List PyData} {i:Int} {d:PyData} (h:Das G H L xs ds) (e:L2.atI ds i = some d):∃ x,L2.atI xs i = some x∧Da G H L x d:=by
 unfold L2.atI at *
 rw [h.length]
 cases q:ixN ds.length i with
 | none=>rw [q] at e; cases e
 | some j =>
  rw [q] at e
  exact h.get e
theorem Yy:P2 G (rIx G) dIx:=fun H L x y d e k Q hx hy h kk=>by
 unfold dIx at h
 split at h
 case h_2=>exact h.elim
 rename_i z ez
 have fin:∀ v,Da G H L v z→Q v H:=fun v q=>kk H v (.fz z) [] (Same.refl _) (.fz (q.wide fun a l _=>⟨.inl l,fun m=>nomatch m⟩)) .nil (fun a m=>nomatch m) h
 cases hx with
 | lst l e1 r =>
  cases hy with
  | int i =>
   obtain ⟨v,e2,q⟩:=r.atI (show L2.atI _ i = some z from ez)
   exact .inl ⟨_,_,i,v,rfl,rfl,.inl e1,e2,fin v q⟩
  | _=>cases ez
 | tup e1 r =>
  cases hy with
  | int i =>
   obtain ⟨v,e2,q⟩:=r.atI (show L2.atI _ i = some z from ez)
   exact .inr (.inl ⟨_,_,i,v,rfl,rfl,.inl (.inl e1),e2,fin v q⟩)
  | _=>cases ez
 | scr ks =>
  cases hy with
  | int i =>
   obtain ⟨v,e2,q⟩:=(Das.ints (G:=G) (H:=H) (L:=L) _).atI (show L2.atI _ i = some z from ez)
   exact .inl ⟨_,_,i,v,rfl,rfl,ks.sq,e2,fin v q⟩
  | _=>cases ez
 | _=>cases ez
theorem Own.list {H:Hp} {L:Addr→Prop} {p:Addr} {xs:List V} {ds:List PyData} (hp:H p = none) (h:Das G H L xs ds):Own G (upd H p (.lst xs)) (fun a=>(L a∨H a = none)∧a ∉ [p]) (.ref p) (.nd (ds.map OT.fz)) [p] :=
 .nd Y5 (((h.wide fun a l q=>⟨.inl l,fun m=>q (by rw [List.mem_singleton.mp m]; exact hp)⟩).same (Y9 hp _)).owns)
theorem Zfq {H:Hp} {p:Addr} (hp:H p = none):∀ a ∈ [p],H a = none:=fun a m=>by rw [List.mem_singleton.mp m]; exact hp
theorem Zhz (p:Addr):[p].Nodup:=List.nodup_cons.mpr ⟨fun m=>(nomatch m),.nil⟩
noncomputable def dCat:PyData→PyData→(OT→Prop)→Prop:=fun d e k=>asL d fun ds=>asL e fun es=>ds.length + es.length ≤ sizeLine∧k (.nd ((ds ++ es).map OT.fz))
theorem Zhj:P2 G (Z2h G) dCat:=fun H L x y d e k Q hx hy h kk=>by
 obtain ⟨a,xs,ds,rfl,e1,r1,h⟩:=hx.lstInv h
 obtain ⟨b,ys,es,rfl,e2,r2,h⟩:=hy.lstInv h
 exact ⟨a,b,xs,ys,rfl,rfl,e1,e2,by rw [r1.length,r2.length]; exact h.1,fun p hp=>kk _ _ _ [p] (Y9 hp _) (Own.list hp (r1.append r2)) (Zhz p) (Zfq hp) h.2⟩
noncomputable def n1 (k:PyData→Prop) (ds:List PyData):Prop:=match ds with | [d]=>k d | _=>False
noncomputable def n2 (k:PyData→PyData→Prop) (ds:List PyData):Prop:=match ds with | [d,e]=>k d e | _=>False
theorem Das.one {H:Hp} {L:Addr→Prop} {vs:List V} {ds:List PyData} {k:PyData→Prop} (q:Das G H L vs ds) (h:n1 k ds):∃ v d,vs = [v]∧ds = [d]∧Da G H L v d∧k d:=by
 cases q with
 | nil=>exact h.elim
 | cons q r =>
  cases r with
  | nil=>exact ⟨_,_,rfl,rfl,q,h⟩
  | cons _ _=>exact h.elim
theorem Das.two {H:Hp} {L:Addr→Prop} {vs:List V} {ds:List PyData} {k:PyData→PyData→Prop} (q:Das G H L vs ds) (h:n2 k ds):∃ v u d e,vs = [v,u]∧ds = [d,e]∧Da G H L v d∧Da G H L u e∧k d e:=by
 cases q with
 | nil=>exact h.elim
 | cons q r =>
  cases r with
  | nil=>exact h.elim
  | cons q' r' =>
   cases r' with
   | nil=>exact ⟨_,_,_,_,rfl,rfl,q,q',h⟩
   | cons _ _=>exact h.elim
noncomputable def Zt5:PyData→Option Nat
 | .list ds=>some ds.length
 | .tuple ds=>some ds.length
 | _=>none
noncomputable def Z61:List PyData→(PyData→Prop)→Prop:=fun ds k=>n1 (fun d=>match Zt5 d with | some n=>k (.int n) | none=>False) ds
theorem Zbx:PNs G (Z67 G) Z61:=fun H L xs ds k Q hx h kk=>by
 obtain ⟨v,d,rfl,rfl,q,h⟩:=hx.one h
 cases q with
 | lst l e r=>exact ⟨_,_,rfl,.inl (.inl e),by rw [r.length]; exact kk _ _ (.int _) h⟩
 | tup e r=>exact ⟨_,_,rfl,.inr (.inl (.inl e)),by rw [r.length]; exact kk _ _ (.int _) h⟩
 | scr ks=>exact ⟨_,_,rfl,.inl ks.sq,by rw [(Das.ints (G:=G) (H:=H) (L:=L) _).length]; exact kk _ _ (.int _) h⟩
 | _=>exact h.elim
noncomputable def Z7u:List PyData→(PyData→Prop)→Prop:=fun ds k=>n1 (fun d=>asI d fun i=>k (.int (if i < 0 then -i else i))) ds
theorem Zf8:PNs G (fun xs H Q=>∃ i,xs = [.int i]∧Q (.int (if i < 0 then -i else i)) H) Z7u:=fun H L xs ds k Q hx h kk=>by
 obtain ⟨v,d,rfl,rfl,q,h⟩:=hx.one h
 obtain ⟨i,rfl,h⟩:=q.intInv h
 exact ⟨i,rfl,kk _ _ (.int _) h⟩
noncomputable def Z7p:List PyData→(PyData→Prop)→Prop:=fun ds k=>n2 (fun d e=>asI d fun i=>asI e fun j=>k (.int (if j < i then j else i))) ds
theorem Zw8:PNs G (fun xs H Q=>∃ i j,xs = [.int i,.int j]∧Q (.int (if j < i then j else i)) H) Z7p:=fun H L xs ds k Q hx h kk=>by
 obtain ⟨v,u,d,e,rfl,rfl,q,q',h⟩:=hx.two h
 obtain ⟨i,rfl,h⟩:=q.intInv h
 obtain ⟨j,rfl,h⟩:=q'.intInv h
 exact ⟨i,j,rfl,kk _ _ (.int _) h⟩
noncomputable def Z69:List PyData→(PyData→Prop)→Prop:=fun ds k=>n1 (fun d=>match d with | .int i=>k (.int i) | .bool b=>k (.int (if b then 1 else 0)) | _=>False) ds
theorem Zv8:PNs G (fun xs H Q=>(∃ i,xs = [.int i]∧Q (.int i) H)∨∃ k,xs = [.bl k]∧Q (.int (if k then 1 else 0)) H) Z69:=fun H L xs ds k Q hx h kk=>by
 obtain ⟨v,d,rfl,rfl,q,h⟩:=hx.one h
 cases q with
 | int i=>exact .inl ⟨i,rfl,kk _ _ (.int _) h⟩
 | bl b=>exact .inr ⟨b,rfl,kk _ _ (.int _) h⟩
 | _=>exact h.elim
noncomputable def Zrf:PyData→Option (List PyData)
 | .list ds=>some ds
 | .tuple ds=>some ds
 | _=>none
noncomputable def Z1w:List PyData→(OT→Prop)→Prop:=fun ds k=>n1 (fun d=>match Zrf d with | some es=>k (.nd (es.map OT.fz)) | none=>False) ds
theorem Zw0:PN G (Zta G) Z1w:=fun H L xs ds k Q hx h kk=>by
 obtain ⟨v,d,rfl,rfl,q,h⟩:=hx.one h
 cases q with
 | lst l e r=>exact ⟨_,_,rfl,.inl (.inl e),fun p hp=>kk _ _ _ [p] (Y9 hp _) (Own.list hp r) (Zhz p) (Zfq hp) h⟩
 | tup e r=>exact ⟨_,_,rfl,.inr (.inl (.inl e)),fun p hp=>kk _ _ _ [p] (Y9 hp _) (Own.list hp r) (Zhz p) (Zfq hp) h⟩
 | scr ks=>exact ⟨_,_,rfl,.inl ks.sq,fun p hp=>kk _ _ _ [p] (Y9 hp _) (Own.list hp (Das.ints _)) (Zhz p) (Zfq hp) h⟩
 | _=>exact h.elim
section
variable {X:Cx} {io:List Nat} {p c:Bool} {a:Expr} {ma:MEt} {pos:Pos}
noncomputable def Z7t (m:MEt):MEt:=fun δ K=>m δ fun r δ'=>asI r.data fun i=>K (.fz (.int (-i))) δ'
theorem Zzl (ha:ME X io p c a ma):ME X io p true (.UnaryOp .USub a pos) (Z7t ma):=by
 obtain ⟨_,A,s⟩:=ha
 exact ⟨_,Z55 Z0r A,fun C H σ δ fp ex K Q R h k=>s C H σ δ fp ex _ _ R h fun H' v r δ' fp' new r1 h1=>by
  obtain ⟨i,rfl,h1⟩:=(r1.da R).intInv h1
  exact ⟨i,rfl,k H' _ _ δ' fp' [] (.fz r1.base r1.stp (.int _)) h1⟩⟩
noncomputable def Zp5 (T:String):PyData→Bool
 | .none=>false
 | .bool _=>T == "bool" || T == "int"
 | .int _=>T == "int"
 | .str _=>T == "str"
 | .list _=>T == "list"
 | .tuple _=>T == "tuple"
 | .dict _=>false
noncomputable def Z7l (T:String) (m:MEt):MEt:=fun δ K=>m δ fun r δ'=>Zii r.data = false∧K (.fz (.bool (Zp5 T r.data))) δ'
end
end L2
namespace L2
open PySem PySem.Spec PyProof.Rows
section
variable {prog:Program} {w:World} {A:Around} {E:Value→Shared→Prop} {h:Heap} {g:Array GenState} {d:Drawn} {t:Nat} {os:OsState} {a C:Addr} {o:Obj} {K:PySem.W.Frag}
theorem Zz1 (M:Model) (hx:h.get? a = some o) (hc:o.cls = .ref C):PySem.W.Looks M h (typeOf (.ref a)) (.ref C):=hc ▸ (PySem.W.Looks.ld hx).andThen .now
theorem Zur {R:Result→Shared→Prop} (X:K.In h) (Z:Zi6 K C) (hx:h.get? a = some o) (hc:o.cls = .ref C) (hq:R (.ok (.ret (.ref C))) ⟨h,g,d,t,os⟩) :
  codeAny (model prog w) A (.call (.builtin "getset_descriptor.__get__") ⟨[.builtin "object.__class__", .ref a,.ref C],[]⟩) R ⟨h,g,d,t,os⟩:=by
 have L1:PySem.W.Looks (model prog w) h (isSubtype (.ref C) (.type (".".intercalate ("object.__class__".cutAt '.').dropLast))) true:=by
  rw [F.owner_object_class]
  exact PySem.W.looks_subIn X Z.isO
 have T5:(⟨h,g,d,t,os⟩:Shared).TypeIs (.builtin "object.__class__") "getset_descriptor" := F.typeOf_object_class
 refine codeAny_call_builtin F.slot_gs_get.plain F.entry_gs_get (F.slot_gs_get.check _ _ _ _ _ _ _ _ T5 (F.args_gs_get _ _ _) ?_)
 repeat (any_goals (first | assumption | (with_reducible refine wpAny_loadPart_at hx ?_; rw [hc]) | (with_reducible refine wpAny_bind (PySem.W.Looks.at L1 ?_)) | (with_reducible refine PySem.W.Looks.at L1 ?_) | wp_step))
 refine ⟨Code.quiet_builtin _ (by decide +kernel),codeAny_builtin F.entry_object_class ?_⟩
 repeat (any_goals (first | assumption | (with_reducible refine wpAny_loadPart_at hx ?_; rw [hc]) | wp_step))
theorem Zpm {tk:Tok} {Q:Fin→Shared→Prop} (X:K.In h) (Z:Zi6 K C) (hx:h.get? a = some o) (hc:o.cls = .ref C) (hq:Q (.done (.ret (.ref C))) ⟨h,g,d,t,os⟩) :
  wpAny (model prog w) A (Builtin.«object.__getattribute__» ⟨[.ref a,.str "__class__" tk],[]⟩) Q E ⟨h,g,d,t,os⟩:=by
 have T5:(⟨h,g,d,t,os⟩:Shared).TypeIs (.builtin "object.__class__") "getset_descriptor" := F.typeOf_object_class
 have g5:=F.typeOf_object_class
 have g6:=F.slot_gs_get.lookup
 have g7:=F.slot_gs_set.lookup
 have L4:=PySem.W.looks_findIn (M:=model prog w) X Z.cl
 repeat (any_goals (first | assumption | (with_reducible refine wpAny_loadPart_at hx ?_; rw [hc]) | (with_reducible refine wpAny_bind (PySem.W.Looks.at L4 ?_)) | (with_reducible refine PySem.W.Looks.at L4 ?_) | wp_step))
 refine Zur X Z hx hc ?_
 repeat (any_goals (first | assumption | wp_step))
theorem Zpb {M:Model} {nameV:Value} {Q:Unit→Shared→Prop} (X:K.In h) (Z:Zi6 K C) (hx:h.get? a = some o) (hc:o.cls = .ref C) (hq:Q () ⟨h,g,d,t,os⟩) :
  wpAny M A (checkBuiltinCall "BaseException.__getattribute__" ⟨[.ref a,nameV],[]⟩) Q E ⟨h,g,d,t,os⟩:=by
 have e1:builtinKind "BaseException.__getattribute__" = some .slot:=by decide +kernel
 have e2:splitId "BaseException.__getattribute__" = some ("BaseException", "__getattribute__"):=by decide +kernel
 have L1:=PySem.W.looks_subIn (M:=M) X Z.isB
 have e3:=F.args_bexc_ga (.ref a) nameV
 simp only [checkBuiltinCall,e1,e2]
 refine wpAny_bind ?_
 unfold isInstance
 repeat (first | (with_reducible refine wpAny_loadPart_at hx ?_; rw [hc]) | (with_reducible refine wpAny_bind (PySem.W.Looks.at L1 ?_)) | (with_reducible refine PySem.W.Looks.at L1 ?_) | wp_step)
 exact hq
theorem Zqq {tk:Tok} {R:Result→Shared→Prop} (X:K.In h) (Z:Zi6 K C) (hx:h.get? a = some o) (hc:o.cls = .ref C) (hq:R (.ok (.ret (.ref C))) ⟨h,g,d,t,os⟩) :
  codeAny (model prog w) A (.call (.builtin "BaseException.__getattribute__") ⟨[.ref a,.str "__class__" tk],[]⟩) R ⟨h,g,d,t,os⟩ :=
 codeAny_call_builtin F.excAttr_ValueError.ga.plain F.entry_bexc_ga (Zpb X Z hx hc (Zpm X Z hx hc hq))
theorem Zzw {tk:Tok} {fill expr:Bool} {Q:Value→Shared→Prop} (X:K.In h) (Z:Zi6 K C) (hx:h.get? a = some o) (hc:o.cls = .ref C) (hq:Q (.ref C) ⟨h,g,d,t,os⟩) :
  wpAny (model prog w) A (getAttrBy (.ref a) (.str "__class__" tk) fill expr) Q E ⟨h,g,d,t,os⟩:=by
 have f3:=F.excAttr_ValueError.ga.bind (.ref a)
 have y0:(expr && onTheHeap (Value.builtin "BaseException.__getattribute__")) = false:=by cases expr <;> rfl
 have y2:(Value.builtin "BaseException.__getattribute__" == Value.builtin "object.__getattribute__") = false:=by decide +kernel
 have y1:(onTheHeap (Value.ref C) && Value.builtin "BaseException.__getattribute__" == Value.builtin "object.__getattribute__") = false:=by rw [y2]; rfl
 have L2:=PySem.W.looks_findIn (M:=model prog w) X Z.ga
 have L3:=PySem.W.looks_findIn (M:=model prog w) X Z.gt
 repeat (any_goals (first | assumption | (with_reducible refine wpAny_loadPart_at hx ?_; rw [hc]) | (with_reducible refine PySem.W.Looks.at L2 ?_) | (with_reducible refine PySem.W.Looks.at L3 ?_) | (with_reducible refine wpAny_bind (PySem.W.Looks.at L2 ?_)) | (with_reducible refine wpAny_bind (PySem.W.Looks.at L3 ?_)) | wp_step))
 refine Zqq X Z hx hc ?_
 repeat (any_goals (first | assumption | wp_step))
theorem Zsu {Q:Option Value→Shared→Prop} (X:K.In h) (Z:Zi6 K C) (hx:h.get? a = some o) (hc:o.cls = .ref C) (hq:Q (some (.ref C)) ⟨h,g,d,t + 1,os⟩) :
  wpAny (model prog w) A (getAttr? (.ref a) "__class__") Q E ⟨h,g,d,t,os⟩:=by
 unfold getAttr? getAttrBy?
 repeat (any_goals (first | assumption | with_reducible apply Zzw X Z hx hc | wp_step))
end
theorem Zut {K:PySem.W.Frag} {a C:Addr} (Z:Zi6 K C):PySem.W.KitX K (.ref a) (.ref C) (fun h=>∃ o,h.get? a = some o∧o.cls = .ref C) where
 ty:=fun M h _ p=>let ⟨_,hx,hc⟩:=p; Zz1 M hx hc
 it:=fun M h X _=>by
  have z:=Z.isC
  unfold PySem.W.clsIn at z
  split at z
  ·rename_i ho
   intro A' Q' E' s' k q
   unfold isType loadHead
   exact wpAny_bind (wpAny_loadPart (k _ _ (X _ _ ho)) (wpAny_pure q))
  ·cases z
 ne:=fun h tp dd its n sl X htp=>by
  have z:=Z.isC
  refine Bool.eq_false_iff.mpr fun q=>?_
  have e:C = tp:=Value.ref.inj (beq_iff_eq.mp q)
  subst e
  unfold PySem.W.clsIn at z
  split at z
  ·rename_i ho
   have z:=(X _ _ ho).symm.trans htp
   cases z
  ·cases z
 ca:=fun {_ _ _ _ _ s} X p k=>by
  obtain ⟨h,g,d,t,os⟩:=s
  obtain ⟨_,hx,hc⟩:=p
  exact Zsu X Z hx hc k
end L2
namespace L2
open PySem PySem.Spec PyProof.Rows
variable {G:PySem.W.Frag}
noncomputable def tyD:PyData→String
 | .none => "NoneType"
 | .bool _ => "bool"
 | .int _ => "int"
 | .str _ => "str"
 | .list _ => "list"
 | .tuple _ => "tuple"
 | .dict _ => "dict"
theorem Zv6 {K:PySem.W.Frag} {T:String} {d:PyData} (h:T = "int" ∨ T = "bool" ∨ T = "str" ∨ T = "list" ∨ T = "tuple") (hd:∀ kvs,d ≠ .dict kvs):PySem.W.kitOne K (.type (tyD d)) (.type T) = some (Zp5 T d):=by
 rcases h with rfl | rfl | rfl | rfl | rfl <;> cases d <;> first | rfl | (exact absurd rfl (hd _)) | (unfold PySem.W.kitOne PySem.W.kitCls; rfl) | (simp only [tyD,Zp5]; decide +kernel)
noncomputable def Z56 (G:PySem.W.Frag):List V→Hp→VK→Prop:=fun xs H Q=>∃ (x:V) (T:String) (L:Addr→Prop) (d:PyData),xs = [x,.ty T]∧Da G H L x d∧Zii d = false∧(T = "int" ∨ T = "bool" ∨ T = "str" ∨ T = "list" ∨ T = "tuple")∧Q (.bl (Zp5 T d)) H
theorem Zqz {X:Cx} (hK:X.K = G):Zd9 X (.builtin "isinstance") (Z56 G):=by
 subst hK
 intro pins s σ H xs us Q I r h
 obtain ⟨x,T,L,d,rfl,q,hf,hT,h⟩:=h
 obtain ⟨u,w',rfl,r1,r2⟩:=vals2 r
 cases (show w' = Value.type T from r2)
 have fin:∀ tk:Nat,EP X pins σ Q (.bool (Zp5 T d)) { s with toks:=tk }:=fun tk=>⟨.bl _,H,I.tok tk,rfl,h⟩
 cases q with
 | non=>exact Zco I r1 .non (Zv6 (d:=.none) hT fun _ z=>by cases z) fin
 | bl b=>exact Zco I r1 (.bl b) (Zv6 (d:=.bool b) hT fun _ z=>by cases z) fin
 | int b=>exact Zco I r1 (.int b) (Zv6 (d:=.int b) hT fun _ z=>by cases z) fin
 | str b=>exact Zco I r1 (.str b) (Zv6 (d:=.str b) hT fun _ z=>by cases z) fin
 | lst l e qs =>
  rename_i ds
  rcases e with e | ⟨o,e⟩
  ·exact Zco I r1 (.lst e) (Zv6 (d:=.list ds) hT fun _ z=>by cases z) fin
  ·exact Zco I r1 (.frz e) (Zv6 (d:=.list ds) hT fun _ z=>by cases z) fin
 | tup e qs =>
  rename_i ds
  exact Zco I r1 (.tup e) (Zv6 (d:=.tuple ds) hT fun _ z=>by cases z) fin
 | scr ks =>
  rename_i a ns
  cases (show u = Value.ref a from r1)
  obtain ⟨its,vs,⟨o,n,ho,hc,hd,hs⟩,_⟩:=I.list (ks.sq (H:=H))
  exact PySem.W.kia_one PySem.W.kitx_list I.kIn ⟨o,ho,hc⟩ (Zv6 (d:=.list (ns.map PyData.int)) hT fun _ z=>by cases z) (fun z=>nomatch z) fin
 | exc Z hn e =>
  rename_i a C x
  cases (show u = Value.ref a from r1)
  obtain ⟨⟨o,vs,ho,hc,_⟩,_,_⟩:=(show ObjOk X.prog X.w H s.heap a (.ext (ExO C a)) from I.hok a _ e)
  refine PySem.W.kia_one (Zut Z) I.kIn ⟨o,ho,hc⟩ (b:=Zp5 T (exD x)) ?_ (fun z=>nomatch z) fin
  rcases hT with rfl | rfl | rfl | rfl | rfl
  ·exact Z.k1
  ·exact Z.k2
  ·exact Z.k3
  ·exact Z.k4
  ·exact Z.k5
 | fn _=>cases hf
 | dic _ _ _ _=>unfold dcD Zii at hf; cases hf
section
variable {X:Cx} {io:List Nat} {p c p' c':Bool} {a b e:Expr} {ma m:MEt} {pos pp p2:Pos} {K:PySem.W.Frag}
theorem Zuk {T:Str} {T':String} (hT:T' = "int" ∨ T' = "bool" ∨ T' = "str" ∨ T' = "list" ∨ T' = "tuple") (hg:Gl X "isinstance") (hm:X.mg "isinstance" = none) (hv:bootBuiltins "isinstance" = some (.builtin "isinstance"))
  (hg2:Gl X T) (hm2:X.mg T = none) (hv2:bootBuiltins T = some (.type T')) (ha:ME X io p c a ma) (hn:T ≠ "__name__" := by decide) (hd:(T == ("__debug__" : Str)) = false:=by decide)
  (he:starEach [a,.Name T p2] X.env = (false,eval a X.env) :: starEach [.Name T p2] X.env:=by rfl) (he2:starEach [.Name T p2] X.env = (false,eval (.Name T p2) X.env) :: starEach [] X.env:=by rfl) (hpl:(backTo pos (starEach [.Name T p2] X.env)).any (·.1) = false:=by rfl) :
  ME X io p true (.Call (.Name "isinstance" pp) [a,.Name T p2] [] pos) (Z7l T' ma):=by
 obtain ⟨_,A,s⟩:=ha
 refine ⟨_,Zg7 (Zqz rfl) hg hm hv (Zev A (Zev (Zzu (v:=.ty T') hg2 hm2 hv2 rfl hn hd) Ziu he2) he) (by decide) (by decide) he hpl,?_⟩
 intro C H σ δ fp ex K' Q R h k
 refine s C H σ δ fp ex _ _ R h fun H' v r δ' fp' new r1 h1=>?_
 exact ⟨v,T',_,_,rfl,r1.da R,h1.1,hT,k H' _ _ δ' fp' [] (.fz r1.base r1.stp (.bl _)) h1.2⟩
noncomputable abbrev MOt:=Zr→(Option Int→Zr→Prop)→Prop
noncomputable def MO (X:Cx) (io:List Nat) (p:Bool) (e:Option Expr) (m:MOt):Prop:=∃ t,PO X e t∧∀ (C:MC X.K) (H:Hp) (σ:St) (δ:Zr) (fp:Fp) (ex:Addr→Prop) (K:Option Int→Zr→Prop) (Q:Option Int→Hp→Prop),Rel C io H σ δ fp ex→m δ K →
 (∀ H' b δ' fp',Rel C io H' σ δ' fp' ex→Stp p H δ fp H' δ' fp'→K b δ'→Q b H')→t σ H Q
noncomputable def Zro:MOt:=fun δ K=>K none δ
noncomputable def Z0z (m:MEt):MOt:=fun δ K=>m δ fun r δ'=>asI r.data fun i=>K (some i) δ'
theorem Zy9:MO X io true none Zro:=⟨_,Zz5,fun C H σ δ fp ex K Q R h k=>k H none δ fp R (.refl _ _ _ _) h⟩
theorem Zyu (h:ME X io p c e m):MO X io p (some e) (Z0z m):=by
 obtain ⟨_,A,s⟩:=h
 exact ⟨_,Zzh A,fun C H σ δ fp ex K Q R h k=>s C H σ δ fp ex _ _ R h fun H' v r δ' fp' new r1 h1=>by
  obtain ⟨i,rfl,h1⟩:=(r1.da R).intInv h1
  exact ⟨i,rfl,k H' _ δ' fp' r1.base r1.stp h1⟩⟩
noncomputable def cutD (ds:List PyData) (lo hi:Option Int):List PyData:=(ds.drop (HT.sIx ds.length 0 lo)).take (HT.sIx ds.length ds.length hi - HT.sIx ds.length 0 lo)
theorem Das.cut {H:Hp} {L:Addr→Prop} {xs:List V} {ds:List PyData} (h:Das G H L xs ds) (lo hi:Option Int):Das G H L (Z0a xs lo hi) (cutD ds lo hi):=by
 unfold Z0a cutD
 rw [h.length]
 exact (h.drop _).take _
noncomputable def mSl (m:MEt) (ml mh:MOt):MEt:=fun δ K=>m δ fun r δ1=>ml δ1 fun lo δ2=>mh δ2 fun hi δ3=>asL r.data fun ds=>K (.nd ((cutD ds lo hi).map OT.fz)) δ3
theorem Z42 {lo hi:Option Expr} {ml mh:MOt} (ha:ME X io true c a ma) (hl:MO X io true lo ml) (hh:MO X io true hi mh):ME X io true c (.Subscript a (.Slice lo hi none p2) pos) (mSl ma ml mh):=by
 obtain ⟨_,A,s⟩:=ha
 obtain ⟨_,B,sl⟩:=hl
 obtain ⟨_,D,sh⟩:=hh
 refine ⟨_,Zu8 (Zt4 rfl) A B D,?_⟩
 intro C H σ δ fp ex K' Q R h k
 refine s C H σ δ fp ex _ _ R h fun H1 v r δ1 fp1 new r1 h1=>?_
 refine sl C H1 σ δ1 fp1 ex _ _ r1.base h1 fun H2 l δ2 fp2 R2 S2 h2=>?_
 refine sh C H2 σ δ2 fp2 ex _ _ R2 h2 fun H3 u δ3 fp3 R3 S3 h3=>?_
 have s2:Same H1 H2:=fun b o e=>S2.keep b o e (.inl rfl)
 have s3:Same H2 H3:=fun b o e=>S3.keep b o e (.inl rfl)
 obtain ⟨e1,e2⟩:=r1.stp.env rfl
 obtain ⟨e3,e4⟩:=S2.env rfl
 obtain ⟨e5,e6⟩:=S3.env rfl
 have q:=((r1.da R).same s2).same s3
 obtain ⟨a',xs,ds,rfl,e,qs,h3⟩:=q.lstInv h3
 refine ⟨a',xs,rfl,e,fun p hp=>?_⟩
 have S:=(r1.stp.trans S2).trans S3
 refine k _ _ _ δ3 fp3 [p] (RE.tree R R3 S (Y9 hp _) (Zfq hp) (Zhz p) (Own.list hp ((qs.cut l u).wide fun a l _=>?_))) h3
 rw [e6,e4]
 exact l
theorem Owns.set {H:Hp} {L:Addr→Prop} {x:V} {r:OT} (hr:Own G H L x r []):∀ {xs:List V} {ts:List OT} {as:List Addr} (j:Nat),Owns G H L xs ts as→∃ bs,Owns G H L (xs.set j x) (ts.set j r) bs∧bs.Sublist as
 | _,_,_,_,.nil=>⟨[],.nil,.refl _⟩
 | _,_,_,0,.cons k t=>⟨_,.cons hr t,by simp⟩
 | _,_,_,j + 1,.cons (as:=as) k t=>by
  obtain ⟨bs,o,s⟩:=Owns.set hr j t
  exact ⟨as ++ bs,.cons k o,List.Sublist.append_left s as⟩
theorem Owns.get {H:Hp} {L:Addr→Prop}:∀ {xs:List V} {ts:List OT} {as:List Addr} {j:Nat} {t:OT},Owns G H L xs ts as→ts[j]? = Option.some t→∃ x bs,xs[j]? = Option.some x∧Own G H L x t bs∧bs.Sublist as
 | _,_,_,_,_,.nil,e=>by simp at e
 | _,_,_,0,_,.cons k _,e=>by simp at e; subst e; exact ⟨_,_,rfl,k,List.sublist_append_left _ _⟩
 | _,_,_,j + 1,t,.cons _ r,e=>by
  obtain ⟨x,bs,h1,h2,h3⟩:=Owns.get (j:=j) (t:=t) r (by simpa using e)
  exact ⟨x,bs,by simpa using h1,h2,h3.trans (List.sublist_append_right _ _)⟩
theorem Rel.top {C:MC G} {H:Hp} {σ:St} {δ:Zr} {fp:Fp} {ex:Addr→Prop} {i:Nat} {ts ts':List OT} {a':Addr} {xs ys:List V} {bs bs':List Addr} (R:Rel C io H σ δ fp ex) (hi:δ[i]? = some (some (.nd ts))) (hv:σ[i]? = some (some (.ref a')))
  (hf:fp i = a' :: bs) (hx:H a' = some (.lst xs)) (o:Owns G H (Lf C fp ex) ys ts' bs') (hs:bs'.Sublist bs) :
  Rel C io (upd H a' (.lst ys)) σ (δ.set i (some (.nd ts'))) (fpu fp i (a' :: bs')) ex∧Stp false H δ fp (upd H a' (.lst ys)) (δ.set i (some (.nd ts'))) (fpu fp i (a' :: bs')):=by
 have nd:=R.nd i
 rw [hf] at nd
 have hn:=List.nodup_cons.mp nd
 have hm:a' ∈ fp i:=by rw [hf]; exact .head _
 have ne':∀ a,¬ Foot fp a→a ≠ a':=fun a h z=>h ⟨i,by rw [z]; exact hm⟩
 have kp:∀ b o,H b = some o→b ≠ a'→upd H a' (.lst ys) b = some o:=fun b o e n=>by rw [Yq n]; exact e
 have sub:∀ a,a ∈ a' :: bs'→a ∈ fp i:=fun a m=>by
  rw [hf]
  rcases List.mem_cons.mp m with rfl | m
  ·exact .head _
  ·exact .tail _ (hs.subset m)
 have o':Owns G (upd H a' (.lst ys)) (Lf C (fpu fp i (a' :: bs')) (exu ex [])) ys ts' bs':=by
  have f0:∀ a,¬ Foot fp a→¬ Foot (fpu fp i (a' :: bs')) a:=fun a h z=>by
   rcases z.of_u with z | ⟨j,_,z⟩
   ·exact h ⟨i,sub a z⟩
   ·exact h ⟨j,z⟩
  have f1:∀ a (zs:MuO),Lf C fp ex a→Rd H a zs.ho→Lf C (fpu fp i (a' :: bs')) (exu ex []) a∧Rd (upd H a' (.lst ys)) a zs.ho:=fun a zs l q=>by
   refine ⟨⟨f0 a l.1,fun z=>l.2.1 (Zd6.mp z),l.2.2⟩,?_⟩
   rcases q with q | ⟨u,q⟩
   ·exact .inl (kp a _ q (ne' a l.1))
   ·exact .inr ⟨u,kp a _ q (ne' a l.1)⟩
  have f2:∀ a (zs:ImO),H a = some zs.ho→upd H a' (.lst ys) a = some zs.ho:=fun a zs q=>kp a _ q fun z=>ImO.nl q (z ▸ hx)
  exact o.frame f1 f2 fun a m zs q=>kp a _ q fun z=>hn.1 (hs.subset (z ▸ m))
 have key:=R.change (new:=[]) (as':=a' :: bs') (t':=.nd ts') (H':=upd H a' (.lst ys)) hi hv (fun b o e nb=>kp b o e fun z=>nb (by rw [z]; exact hm)) (fun b e=>by
   by_cases q:b = a'
   ·subst q; rw [Y5] at e; cases e
   ·rwa [Yq q] at e) (.nd Y5 o') (List.nodup_cons.mpr ⟨fun m=>hn.1 (hs.subset m),hn.2.sublist hs⟩) (fun a m=>.inl (sub a m)) (fun a m=>nomatch m)
 exact ⟨key.1.drop fun a z=>.inl z,key.2⟩
end
end L2
namespace L2
open PySem PySem.Spec PyProof.Rows
variable {G:PySem.W.Frag}
section
variable {X:Cx} {io:List Nat} {p c p' c':Bool} {a b e:Expr} {ma m mi mj:MEt} {pos pp p2 apos cpos px:Pos} {K:PySem.W.Frag} {i:Nat} {x:Str}
theorem Rel.ownNd {C:MC G} {H:Hp} {σ:St} {δ:Zr} {fp:Fp} {ex:Addr→Prop} {ts:List OT} (R:Rel C io H σ δ fp ex) (hi:δ[i]? = some (some (.nd ts))) :
  ∃ a' xs bs,σ[i]? = some (some (.ref a'))∧H a' = some (.lst xs)∧Owns G H (Lf C fp ex) xs ts bs∧fp i = a' :: bs:=by
 obtain ⟨v,e,o⟩:=R.own i _ hi
 generalize hf:fp i = as at o
 cases o with
 | nd h r=>exact ⟨_,_,_,e,h,r,rfl⟩
noncomputable def Zjh (i:Nat) (m:MEt):MSt:=fun D δ=>match δ[i]? with
 | some (some (.nd _))=>m δ fun r δ1=>match δ1[i]? with
  | some (some (.nd ts))=>ts.length < sizeLine∧D.nx (δ1.set i (some (.nd (ts ++ [.fz r.data]))))
  | _=>False
 | _=>False
theorem Zf3 (i:Nat) (he:ME X io p true e m) (hN:X.N[i]? = some x:=by rfl) (hv:Vis X.env.scope x:=by first | exact Or.inl rfl | exact Or.inr (Or.inl rfl) | exact Or.inr (Or.inr rfl)) (hd:(x == ("__debug__" : Str)) = false:=by decide)
  (hcd:(x == ("__classdict__" : Str)) = false:=by decide)
  (hbase:attributeBase (.Name x px) "append" X.env (eval (.Name x px) X.env) = eval (.Name x px) X.env:=by rfl)
  (hfew:((backTo cpos (starEach [e] X.env)).all (fun x=>!x.1) && (backToKw cpos (keywordEach [] X.env)).all (fun x=>x.1.isSome)
   && decide ([e].length + ([]:List Keyword).length + (if ([]:List Keyword).isEmpty then 0 else 1) < 30)) = true:=by rfl)
  (hline:(apos.endLine == cpos.line) = true:=by rfl) (hs:starEach [e] X.env = (false,eval e X.env) :: starEach [] X.env:=by rfl) (hplain:(backTo cpos (starEach [] X.env)).any (·.1) = false:=by rfl)
  (hsw:swapsWith (.Call (.Attribute (.Name x px) "append" apos) [e] [] cpos) none pos.line X.env = pure false:=by rfl) :
  MS X io (.Expr (.Call (.Attribute (.Name x px) "append" apos) [e] [] cpos) pos) (Zjh i m):=by
 obtain ⟨_,A,s⟩:=he
 refine ⟨_,Zji (Zzf PySem.F.plainAttrs_list PySem.F.slot_list_append PySem.F.type_list_append Zln (pv i hN hv hd hcd) (Zev A Ziu hs) hbase hfew hline hs hplain) hsw,fun C H σ δ fp ex D D' R h E=>?_⟩
 unfold Zjh at h
 split at h
 case h_2=>exact h.elim
 rename_i ts0 hi0
 obtain ⟨a',xs0,bs0,hv0,hx0,_,_⟩:=R.ownNd hi0
 refine ⟨_,hv0,.inl ⟨rfl,xs0,.inl (.inl hx0)⟩,?_⟩
 refine s C H σ δ fp ex _ _ R h fun H1 v r δ1 fp1 new r1 h1=>?_
 split at h1
 case h_2=>exact h1.elim
 rename_i ts1 hi1
 have R1:=r1.base
 obtain ⟨a1,xs1,bs1,hv1,hx1,o1,hf1⟩:=R1.ownNd hi1
 rw [hv0] at hv1
 cases hv1
 have q:=(r1.da R).wide (L':=Lf C fp1 ex) fun a l _=>l rfl
 refine ⟨a',xs1,v,rfl,rfl,hx1,by rw [o1.length]; exact h1.1,?_⟩
 have o2:=o1.snoc (.fz q)
 obtain ⟨R2,S2⟩:=R1.top hi1 hv0 hf1 hx1 o2 (by simp)
 exact E.nx _ σ _ _ R2 (r1.stp.kp.trans S2.kp) h1.2
noncomputable def Z7v (i:Nat) (m mi:MEt):MSt:=fun D δ=>m δ fun r δ1=>match δ1[i]? with
 | some (some (.nd ts))=>mi δ1 fun n _=>asI n.data fun k=>match ixN ts.length k with
  | some j=>D.nx (δ1.set i (some (.nd (ts.set j (.fz r.data)))))
  | none=>False
 | _=>False
noncomputable def Z1m (i:Nat) (m mi mj:MEt):MSt:=fun D δ=>m δ fun r δ1=>match δ1[i]? with
 | some (some (.nd ts))=>mi δ1 fun n _=>asI n.data fun k=>match ixN ts.length k with
  | some j=>match ts[j]? with
   | some (.nd us)=>mj δ1 fun n' _=>asI n'.data fun k'=>match ixN us.length k' with
    | some j'=>D.nx (δ1.set i (some (.nd (ts.set j (.nd (us.set j' (.fz r.data)))))))
    | none=>False
   | _=>False
  | none=>False
 | _=>False
theorem SE.pureAfter {t:TE} {C:MC G} {H:Hp} {σ:St} {δ:Zr} {fp:Fp} {ex:Addr→Prop} {K':OT→Zr→Prop} {Q:VK} (s:SE G io true c t m) (R:Rel C io H σ δ fp ex) (h:m δ K') (k:∀ H' v r,Rel C io H' σ δ fp ex→Same H H'→Da G H' (fun a=>c = true→Lf C fp ex a) v r.data→K' r δ→Q v H'):t σ H Q :=
 s C H σ δ fp ex _ _ R h fun H1 v r δ1 fp1 new r1 h1=>by
  obtain ⟨e1,e2⟩:=r1.stp.env rfl
  have q:=r1.da R
  have R1:=r1.base
  rw [e1] at R1 h1
  rw [e2] at R1 q
  exact k H1 v r R1 (fun b o e=>r1.stp.keep b o e (.inl rfl)) q h1
theorem Zwk (i:Nat) (he:ME X io p true e m) (hj:ME X io true c a mi) (hN:X.N[i]? = some x:=by rfl) (hv:Vis X.env.scope x:=by first | exact Or.inl rfl | exact Or.inr (Or.inl rfl) | exact Or.inr (Or.inr rfl)) (hd:(x == ("__debug__" : Str)) = false:=by decide)
  (hcd:(x == ("__classdict__" : Str)) = false:=by decide)
  (hpg:∀ {to ti:TE},PE X (.Name x px) to→PE X a ti→PG X (.Subscript (.Name x px) a pp) (Z5o to ti Zzn):=by intro _ _ A B; exact Zwo A B set_list)
  (hs:swapsWithSole [.Subscript (.Name x px) a pp] e pos.line X.env = pure false:=by rfl) (hw:swappedStores [.Subscript (.Name x px) a pp] e X.env = pure none:=by rfl)
  (h1:(assignEach [.Subscript (.Name x px) a pp] X.env).map (·.2) = [assign (.Subscript (.Name x px) a pp) X.env]:=by rfl):MS X io (.Assign [.Subscript (.Name x px) a pp] e pos) (Z7v i m mi):=by
 obtain ⟨_,A,s⟩:=he
 obtain ⟨_,B,sj⟩:=hj
 refine ⟨_,Zvs A (hpg (pv i hN hv hd hcd) B) hs hw h1,fun C H σ δ fp ex D D' R h E=>?_⟩
 refine s C H σ δ fp ex _ _ R h fun H1 v r δ1 fp1 new r1 h1=>?_
 have R1:=r1.base
 have q:=(r1.da R).wide (L':=Lf C fp1 ex) fun a l _=>l rfl
 split at h1
 case h_2=>exact h1.elim
 rename_i ts hi
 obtain ⟨a',_,_,hv0,_⟩:=R1.ownNd hi
 refine ⟨_,hv0,?_⟩
 refine sj.pureAfter R1 h1 fun H2 w n R2 s2 q2 h2=>?_
 obtain ⟨k,rfl,h2⟩:=q2.intInv h2
 split at h2
 case h_2=>exact h2.elim
 rename_i j hj
 obtain ⟨a2,xs,bs,hv2,hx,o,hf⟩:=R2.ownNd hi
 rw [hv0] at hv2
 cases hv2
 obtain ⟨bs',o',hs'⟩:=Owns.set (.fz (q.same s2)) j o
 refine ⟨a',xs,k,j,rfl,rfl,hx,by rw [o.length]; exact hj,?_⟩
 obtain ⟨R3,S3⟩:=R2.top hi hv0 hf hx o' hs'
 exact E.nx _ σ _ _ R3 (r1.stp.kp.trans (Kp.trans ⟨fun b o e _=>s2 _ _ e,fun z=>(nomatch z),fun a z=>.inl z,s2.al⟩ S3.kp)) h2
theorem Owns.deep {H:Hp} {L:Addr→Prop} {b':Addr} {ws ws':List V} {us us':List OT} (hb:H b' = Option.some (HO.lst ws)) (hL:¬ L b') (hc:∀ cs,Owns G H L ws us cs→∃ cs',Owns G H L ws' us' cs'∧cs'.Sublist cs) :
  ∀ {xs:List V} {ts:List OT} {as:List Addr} {j:Nat},Owns G H L xs ts as→as.Nodup→xs[j]? = Option.some (.ref b')→ts[j]? = Option.some (.nd us)→∃ as',Owns G (upd H b' (.lst ws')) L xs (ts.set j (.nd us')) as'∧as'.Sublist as∧b' ∈ as
 | _,_,_,_,.nil,_,e,_=>by simp at e
 | _,_,_,0,.cons (as:=as) (bs:=bs) k t,nd,e,e'=>by
  simp at e e'
  subst e e'
  have nd':=List.nodup_append.mp nd
  have kp:∀ a o,a ≠ b'→H a = Option.some o→upd H b' (.lst ws') a = Option.some o:=fun a o n q=>by rw [Yq n]; exact q
  have f1:∀ a (zs:MuO),L a→Rd H a zs.ho→L a∧Rd (upd H b' (.lst ws')) a zs.ho:=fun a zs l q=>⟨l,by
   have na:a ≠ b':=fun z=>hL (z ▸ l)
   rcases q with q | ⟨u,q⟩
   ·exact .inl (kp a _ na q)
   ·exact .inr ⟨u,kp a _ na q⟩⟩
  have f2:∀ a (zs:ImO),H a = Option.some zs.ho→upd H b' (.lst ws') a = Option.some zs.ho:=fun a zs q=>kp a _ (fun z=>ImO.nl q (z ▸ hb)) q
  cases k with
  | nd h r =>
   rename_i xs0 as0
   rw [hb] at h
   cases h
   have nd2:=List.nodup_cons.mp nd'.1
   obtain ⟨cs',o',s'⟩:=hc _ r
   refine ⟨b' :: cs' ++ bs,.cons (.nd Y5 (o'.frame f1 f2 fun a m zs q=>kp a _ (fun z=>nd2.1 (s'.subset (z ▸ m))) q)) (t.frame f1 f2 fun a m zs q=>kp a _ (fun z=>nd'.2.2 b' (.head _) a m z.symm) q),List.Sublist.append_right (List.Sublist.cons₂ _ s') bs,List.mem_append_left _ (.head _)⟩
 | _,_,_,j + 1,.cons (as:=as) (bs:=bs) k t,nd,e,e'=>by
  have nd':=List.nodup_append.mp nd
  obtain ⟨as',o,s,m⟩:=Owns.deep hb hL hc (j:=j) t nd'.2.1 (by simpa using e) (by simpa using e')
  have nb:b' ∉ as:=fun z=>nd'.2.2 b' z b' m rfl
  refine ⟨as ++ as',.cons ?_ o,List.Sublist.append_left s as,List.mem_append_right _ m⟩
  have kp:∀ a o,a ≠ b'→H a = Option.some o→upd H b' (.lst ws') a = Option.some o:=fun a o n q=>by rw [Yq n]; exact q
  refine k.frame (fun a zs l q=>⟨l,?_⟩) (fun a zs q=>kp a _ (fun z=>ImO.nl q (z ▸ hb)) q) fun a m' zs q=>kp a _ (fun z=>nb (z ▸ m')) q
  have na:a ≠ b':=fun z=>hL (z ▸ l)
  rcases q with q | ⟨u,q⟩
  ·exact .inl (kp a _ na q)
  ·exact .inr ⟨u,kp a _ na q⟩
theorem Zd7 (i:Nat) (he:ME X io p true e m) (hj:ME X io true c a mi) (hk:ME X io true c' b mj) (hPa:Zms a) (hN:X.N[i]? = some x:=by rfl) (hv:Vis X.env.scope x:=by first | exact Or.inl rfl | exact Or.inr (Or.inl rfl) | exact Or.inr (Or.inr rfl)) (hd:(x == ("__debug__" : Str)) = false:=by decide)
  (hcd:(x == ("__classdict__" : Str)) = false:=by decide)
  (hpg:∀ {to ti:TE},PE X (.Subscript (.Name x px) a pp) to→PE X b ti→PG X (.Subscript (.Subscript (.Name x px) a pp) b p2) (Z5o to ti Zzn):=by intro _ _ A B; exact Zwo A B set_list)
  (hs:swapsWithSole [.Subscript (.Subscript (.Name x px) a pp) b p2] e pos.line X.env = pure false:=by rfl) (hw:swappedStores [.Subscript (.Subscript (.Name x px) a pp) b p2] e X.env = pure none:=by rfl)
  (h1:(assignEach [.Subscript (.Subscript (.Name x px) a pp) b p2] X.env).map (·.2) = [assign (.Subscript (.Subscript (.Name x px) a pp) b p2) X.env]:=by rfl) :
  MS X io (.Assign [.Subscript (.Subscript (.Name x px) a pp) b p2] e pos) (Z1m i m mi mj):=by
 obtain ⟨_,A,s⟩:=he
 obtain ⟨_,B,sj⟩:=hj
 obtain ⟨_,B2,sk⟩:=hk
 refine ⟨_,Zvs A (hpg (Z3n (Ztm rfl) (pv i hN hv hd hcd) B hPa) B2) hs hw h1,fun C H σ δ fp ex D D' R h E=>?_⟩
 refine s C H σ δ fp ex _ _ R h fun H1 v r δ1 fp1 new r1 h1=>?_
 have R1:=r1.base
 have q:=(r1.da R).wide (L':=Lf C fp1 ex) fun a l _=>l rfl
 split at h1
 case h_2=>exact h1.elim
 rename_i ts hi
 obtain ⟨a',_,_,hv0,_⟩:=R1.ownNd hi
 refine ⟨_,hv0,?_⟩
 refine sj.pureAfter R1 h1 fun H2 w n R2 s2 q2 h2=>?_
 obtain ⟨k,rfl,h2⟩:=q2.intInv h2
 split at h2
 case h_2=>exact h2.elim
 rename_i j hj
 split at h2
 case h_2=>exact h2.elim
 rename_i us hus
 -- the row
 obtain ⟨a2,xs2,bs2,hv2,hx2,o2,hf2⟩:=R2.ownNd hi
 rw [hv0] at hv2
 cases hv2
 obtain ⟨xr,cr,hxr,orow,_⟩:=o2.get hus
 obtain ⟨b',rfl⟩:∃ b',xr = V.ref b':=by
  cases orow with
  | nd h r=>exact ⟨_,rfl⟩
 refine ⟨a',xs2,k,V.ref b',rfl,rfl,.inl (.inl hx2),?_,?_⟩
 ·unfold atI
  rw [o2.length,hj]
  exact hxr
 refine sk.pureAfter R2 h2 fun H3 w' n' R3 s3 q3 h3=>?_
 obtain ⟨k',rfl,h3⟩:=q3.intInv h3
 split at h3
 case h_2=>exact h3.elim
 rename_i j' hj'
 obtain ⟨a3,xs3,bs3,hv3,hx3,o3,hf3⟩:=R3.ownNd hi
 rw [hv0] at hv3
 cases hv3
 have exs:xs3 = xs2:=by
  have:=s3 _ _ hx2
  rw [hx3] at this
  cases this; rfl
 subst exs
 obtain ⟨xr3,cr3,hxr3,orow3,hsub3⟩:=o3.get hus
 rw [hxr] at hxr3
 cases hxr3
 have nd3:=R3.nd i
 rw [hf3] at nd3
 have hn3:=List.nodup_cons.mp nd3
 cases orow3 with
 | nd hb r3 =>
  rename_i ws3 bs4
  have hbm:b' ∈ bs3:=hsub3.subset (.head _)
  have hbf:b' ∈ fp1 i:=by rw [hf3]; exact .tail _ hbm
  have hLb:¬ Lf C fp1 ex b':=fun l=>l.1 ⟨i,hbf⟩
  obtain ⟨as',oo,ss,_⟩:=Owns.deep (ws':=ws3.set j' v) (us':=us.set j' (.fz r.data)) hb hLb (fun cs hcs=>Owns.set (.fz ((q.same s2).same s3)) j' hcs) o3 hn3.2 hxr hus
  refine ⟨b',ws3,k',j',rfl,rfl,hb,by rw [r3.length]; exact hj',?_⟩
  have hba:a' ≠ b':=fun z=>hn3.1 (z ▸ hbm)
  -- the change
  have sub:∀ a,a ∈ a' :: as'→a ∈ fp1 i:=fun a m=>by
   rw [hf3]
   rcases List.mem_cons.mp m with rfl | m
   ·exact .head _
   ·exact .tail _ (ss.subset m)
  have kp:∀ b o,H3 b = some o→b ≠ b'→upd H3 b' (.lst (ws3.set j' v)) b = some o:=fun b o e n=>by rw [Yq n]; exact e
  have lw:∀ a,Lf C fp1 ex a→upd H3 b' (.lst (ws3.set j' v)) a ≠ none→Lf C (fpu fp1 i (a' :: as')) (exu ex []) a:=fun a l _=>⟨fun z=>by
   rcases z.of_u with z | ⟨j,_,z⟩
   ·exact l.1 ⟨i,sub a z⟩
   ·exact l.1 ⟨j,z⟩,fun z=>l.2.1 (Zd6.mp z),l.2.2⟩
  obtain ⟨R4,S4⟩:=R3.change (new:=[]) (as':=a' :: as') (t':=.nd (ts.set j (.nd (us.set j' (.fz r.data))))) (H':=upd H3 b' (.lst (ws3.set j' v))) hi hv0 (fun b o e nb=>kp b o e fun z=>nb (by rw [z]; exact hbf)) (fun b e=>by
    by_cases q:b = b'
    ·subst q; rw [Y5] at e; cases e
    ·rwa [Yq q] at e) (.nd (by rw [Yq hba]; exact hx3) (oo.wide lw)) (List.nodup_cons.mpr ⟨fun m=>hn3.1 (ss.subset m),hn3.2.sublist ss⟩) (fun a m=>.inl (sub a m)) (fun a m=>nomatch m)
  have k23:Kp H1 fp1 H3 fp1:=⟨fun b o e _=>s3 _ _ (s2 _ _ e),fun z=>(nomatch z),fun a z=>.inl z,fun b e=>s2.al b (s3.al b e)⟩
  exact E.nx _ σ _ _ (R4.drop fun a z=>.inl z) (r1.stp.kp.trans (k23.trans S4.kp)) h3
end
end L2
namespace L2
open PySem PySem.Spec PyProof.Rows
variable {G:PySem.W.Frag}
section
variable {X:Cx} {io:List Nat} {p c:Bool} {e:Expr} {m:MEt}
theorem Rel.freeze {C:MC G} {H:Hp} {σ:St} {δ:Zr} {fp:Fp} {ex:Addr→Prop} {i:Nat} {t:OT} (R:Rel C io H σ δ fp ex) (hio:i ∉ io) (hi:δ[i]? = some (some t)):Rel C io H σ (δ.set i (some (.fz t.data))) (fpu fp i []) ex:=by
 have hil:i < δ.length:=(List.getElem?_eq_some_iff.mp hi).1
 have sub:∀ j a,a ∈ fpu fp i [] j→j ≠ i∧a ∈ fp j:=fun j a m=>by
  by_cases ej:j = i
  ·subst ej; rw [We] at m; exact nomatch m
  ·rw [Jk ej] at m; exact ⟨ej,m⟩
 have lw:∀ a,Lf C fp ex a→Lf C (fpu fp i []) ex a:=fun a l=>⟨fun ⟨j,z⟩=>l.1 ⟨j,(sub j a z).2⟩,l.2.1,l.2.2⟩
 have ln:∀ a ∈ fp i,Lf C (fpu fp i []) ex a:=fun a m=>⟨fun ⟨j,z⟩=>(sub j a z).1 (R.dj j i a (sub j a z).2 m),R.dx i a m,.inr (by
  rcases R.new i a m with z | z
  ·exact absurd z.1 hio
  ·exact z)⟩
 refine ⟨by rw [List.length_set]; exact R.len,fun j t' e=>?_,fun j h=>?_,fun j=>?_,fun j k a h1 h2=>R.dj j k a (sub j a h1).2 (sub k a h2).2,fun j a h z=>R.dx j a (sub j a h).2 z,R.xa,R.fr,R.al,fun j a h=>R.new j a (sub j a h).2,R.io⟩
 ·by_cases ej:j = i
  ·subst ej
   rw [List.getElem?_set_self hil] at e
   cases e
   obtain ⟨v,e1,o⟩:=R.own j t hi
   exact ⟨v,e1,by rw [We]; exact .fz (o.da (fun a l _=>lw a l) ln)⟩
  ·rw [List.getElem?_set_ne (Ne.symm ej)] at e
   obtain ⟨w,e1,o⟩:=R.own j t' e
   exact ⟨w,e1,by rw [Jk ej]; exact o.wide fun a l _=>lw a l⟩
 ·by_cases ej:j = i
  ·subst ej; rw [We]
  ·rw [Jk ej]
   exact R.emp j fun t' z=>h t' (by rw [List.getElem?_set_ne (Ne.symm ej)]; exact z)
 ·by_cases ej:j = i
  ·subst ej; rw [We]; exact .nil
  ·rw [Jk ej]; exact R.nd j
noncomputable def Zj4 (i:Nat) (u:MSt):MSt:=fun D δ=>match δ[i]? with | some (some t)=>u D (δ.set i (some (.fz t.data))) | _=>False
theorem Zsg {st:Stmt} {u:MSt} (i:Nat) (h:MS X io st u) (hio:i ∉ io:=by decide):MS X io st (Zj4 i u):=by
 obtain ⟨_,A,s⟩:=h
 exact ⟨_,A,fun C H σ δ fp ex D D' R h E=>by
  unfold Zj4 at h
  split at h
  case h_2=>exact h.elim
  rename_i t hi
  refine s C H σ _ _ ex D D' (R.freeze hio hi) h (E.shift ⟨fun b o e _=>e,fun z=>(nomatch z),fun a z=>?_,fun b e=>e⟩)
  rcases z.of_u with z | ⟨j,_,z⟩
  ·exact nomatch z
  ·exact .inl ⟨j,z⟩⟩
end
end L2
namespace L2
open PySem PySem.Spec PyProof.Rows
variable {G:PySem.W.Frag}
noncomputable def Z00 (ds:List PyData) (k:OT→Prop):Prop:=∃ ns:List Int,ds = [.list (ns.map PyData.int)]∧ns.length ≤ 63∧k (.fz (.bool true))
theorem Z0o {H:Hp} {a:Addr} {ns:List Int} {E:XK} (hl:ns.length ≤ 63) (h:SqL G H a (ns.map V.int)):spD G Z00 [.ref a] H (fun v _=>v = .bl true) E:=by
 refine ⟨fun _=>True,[.list (ns.map PyData.int)],fun r=>r = .fz (.bool true),.cons ?_ .nil,⟨ns,rfl,hl,rfl⟩,fun r v H' new kr s o _ _=>?_⟩
 ·rcases h with h | h
  ·exact .lst trivial h (.ints ns)
  ·exact .scr h
 ·subst kr
  cases o with
  | fz q=>cases q; rfl
section
variable {P:Program} {w:World} {mg:Str→Option Value} {base:Heap} {CX:CXT} {n:Nat} {f:Addr} {fd:FuncData} {ps:List Str}
theorem Da.ints_sq {H:Hp} {L:Addr→Prop} {v:V} {ns:List Int} (h:Da G H L v (.list (ns.map PyData.int))):∃ a,v = .ref a∧SqL G H a (ns.map V.int):=by
 generalize e:PyData.list (ns.map PyData.int) = d at h
 cases h with
 | lst l e1 r =>
  cases e
  rw [r.int_inv] at e1
  exact ⟨_,rfl,.inl e1⟩
 | scr k =>
  rename_i a ms
  have e':=PyData.list.inj e
  have:ns = ms:=(List.map_inj_right (fun _ _ h=>by cases h; rfl)).mp e'
  subst this
  exact ⟨_,rfl,k.sq⟩
 | _=>cases e
end
end L2
namespace L2
open PySem PySem.Spec PyProof.Rows
@[simp] theorem Zfz:OT.datas [] = []:=rfl
@[simp] theorem Zfb (t:OT) (ts:List OT):OT.datas (t :: ts) = t.data :: OT.datas ts:=rfl
theorem Zla {α:Type} {xs:List α} {i:Int} (h0:0 ≤ i):atI xs i = xs[i.toNat]?:=by
 unfold atI ixN
 rw [if_pos h0]
 split
 ·rfl
 ·rename_i h
  symm
  exact List.getElem?_eq_none_iff.mpr (by omega)
theorem Zn3 {α:Type} {xs:List α} {i:Nat}:atI xs (i:Int) = xs[i]?:=by
 rw [Zla (by omega),Int.toNat_natCast]
@[simp] theorem Z8x {α:Type} (x:α) (xs:List α):atI (x :: xs) 0 = some x:=by
 rw [Zla (by decide)]; rfl
@[simp] theorem Z81 {α:Type} (x y:α) (xs:List α):atI (x :: y :: xs) 1 = some y:=by
 rw [Zla (by decide)]; rfl
@[simp] theorem Z8z {α:Type} (x y z:α) (xs:List α):atI (x :: y :: z :: xs) 2 = some z:=by
 rw [Zla (by decide)]; rfl
@[simp] theorem Z4m (ds:List PyData) (i:Int):ixD (.list ds) (.int i) = atI ds i:=rfl
@[simp] theorem Z4y (ds:List PyData) (i:Int):ixD (.tuple ds) (.int i) = atI ds i:=rfl
@[simp] theorem Z1d (ds:List PyData):Zt5 (.list ds) = some ds.length:=rfl
@[simp] theorem Z4o (ds:List PyData):Zt5 (.tuple ds) = some ds.length:=rfl
noncomputable def Zlt (r:List Rat):PyData:=.list (r.map frD)
noncomputable def tbD (T:List (List Rat)):PyData:=.list (T.map Zlt)
noncomputable def Z58 (r:List Rat):OT:=.nd (r.map fun q=>.fz (frD q))
noncomputable def tbT (T:List (List Rat)):OT:=.nd (T.map Z58)
@[simp] theorem Zst (r:List Rat):(Z58 r).data = Zlt r:=by
 unfold Z58 Zlt
 rw [OT.data_nd,List.map_map]
 rfl
@[simp] theorem Z4g (T:List (List Rat)):(tbT T).data = tbD T:=by
 unfold tbT tbD
 rw [OT.data_nd,List.map_map]
 exact congrArg PyData.list (List.map_congr_left fun r _=>Zst r)
noncomputable def dd (T:List (List Rat)) (i j:Nat):Rat:=(T.getD i []).getD j 0
@[simp] theorem Z5l (T:List (List Rat)):Zt5 (tbD T) = some T.length:=by unfold tbD Zt5; simp
@[simp] theorem Z4p (r:List Rat):Zt5 (Zlt r) = some r.length:=by unfold Zlt Zt5; simp
@[simp] theorem Z5v (q:Rat):Zc5 (frD q) = true:=by unfold frD fr; simp [Zc5,Zkw]
end L2
namespace L2
open PySem PySem.Spec PyProof.Rows
end L2
namespace L2
open PySem PySem.Spec PyProof.Rows
end L2
namespace L2
open PySem PySem.Spec PyProof.Rows
end L2
namespace L2
open PySem PySem.Spec PyProof.Rows
end L2
namespace L2
open PySem PySem.Spec PyProof.Rows
end L2
namespace L2
open PySem PySem.Spec PyProof.Rows
theorem Zqc {n a:Nat} (h:a < n):ixN n (a:Int) = some a:=by
 unfold ixN
 rw [if_pos (by omega),if_pos (by omega)]; simp
end L2
namespace L2
open PySem PySem.Spec PyProof.Rows
end L2
namespace L2
open PySem PySem.Spec PyProof.Rows
end L2
namespace L2
open PySem PySem.Spec PyProof.Rows
theorem Zk6:∀ (r:List Rat),Ju (r.map frD) = true
 | []=>rfl
 | q :: r=>by
  show Ju (frD q :: r.map frD) = true
  rw [Ju,Zk6 r]; rfl
theorem Zkx:∀ (T:List (List Rat)),Ju (T.map Zlt) = true
 | []=>rfl
 | r :: T=>by
  show Ju (Zlt r :: T.map Zlt) = true
  rw [Ju,Zkx T,Bool.and_true]
  unfold Zlt
  rw [Jo]
  exact Zk6 r
theorem Zve (T:List (List Rat)):Jo (tbD T) = true:=by
 unfold tbD
 rw [Jo]
 exact Zkx T
theorem Ztp {d:PyData} (h:Jo d = true):PyData.eqv d d = true:=Zv5 h h rfl
end L2
namespace L2
open PySem PySem.Spec PyProof.Rows
structure Sh (n:Nat) (d:PyData):Prop where
 lay:PyData.canLay0 d = true
 dep:PyData.depth d ≤ n
theorem Sh.shp {n:Nat} {d:PyData} (h:Sh n d) (hn:n ≤ 64:=by decide):Z3h d:=⟨by
 show (PyData.canLay0 d && decide (PyData.depth d ≤ 64)) = true
 rw [h.lay,decide_eq_true (Nat.le_trans h.dep hn)]; rfl⟩
theorem Zkp {n:Nat}:∀ {ds:List PyData},(∀ d ∈ ds,Sh n d)→PyData.canLayAll0 ds = true∧PyData.depthAll ds ≤ n
 | [],_=>⟨by rw [PyData.canLayAll0],by rw [PyData.depthAll]; exact Nat.zero_le _⟩
 | d :: ds,h=>by
  obtain ⟨h1,h2⟩:=Zkp fun e m=>h e (.tail _ m)
  have h3:=h d (.head _)
  refine ⟨by rw [PyData.canLayAll0,h3.lay,h1]; rfl,?_⟩
  rw [PyData.depthAll]
  exact Nat.max_le.mpr ⟨h3.dep,h2⟩
theorem Zmy {n:Nat} {ds:List PyData} (h:∀ d ∈ ds,Sh n d):Sh (n + 1) (.list ds) :=
 ⟨by rw [PyData.canLay0]; exact (Zkp h).1,by rw [PyData.depth]; exact Nat.succ_le_succ (Zkp h).2⟩
theorem Znv {n:Nat} {ds:List PyData} (h:∀ d ∈ ds,Sh n d):Sh (n + 1) (.tuple ds) :=
 ⟨by rw [PyData.canLay0]; exact (Zkp h).1,by rw [PyData.depth]; exact Nat.succ_le_succ (Zkp h).2⟩
theorem Zn6 (i:Int):Sh 0 (.int i):=⟨rfl,Nat.le_of_eq rfl⟩
theorem Z4x (q:Rat):Sh 1 (frD q):=Znv fun d m=>by
 simp at m
 rcases m with rfl | rfl <;> exact Zn6 _
theorem Z1h (r:List Rat):Sh 2 (Zlt r):=Zmy fun d m=>by
 obtain ⟨q,_,rfl⟩:=List.mem_map.mp m
 exact Z4x q
theorem Z6p (T:List (List Rat)):Sh 3 (tbD T):=Zmy fun d m=>by
 obtain ⟨q,_,rfl⟩:=List.mem_map.mp m
 exact Z1h q
end L2
namespace L2
open PySem PySem.Spec PyProof.Rows
section
variable {X:Cx} {pins:List (Addr × Obj)} {σ:St} {H:Hp} {s:Shared}
theorem Inv.turnTup {h':Heap} {ch:List Addr} {T:Addr} {xs:List V} {its:List Value} (I:Inv X pins σ H s) (f:∀ b ∈ ch,Zju X pins H b) (k:∀ b o,b ∉ ch→s.heap.get? b = some o→h'.get? b = some o)
  (th:∀ b ∈ ch,∃ o,h'.get? b = some o) (hT:s.heap.objs.size ≤ T) (hz:xs.length ≤ sizeLine) (r:Vals xs its) (ht:IsTup h' T its.toArray):Inv X pins σ (upd H T (.tup xs)) { s with heap:=h' }:=by
 have hn:H T = none:=I.hok.fresh hT
 have nch:∀ b u,H b = some u→b ∉ ch:=fun b u e z=>by rw [(f b z).1] at e; cases e
 have new:ObjOk X.prog X.w (upd H T (.tup xs)) h' T (.tup xs):=⟨hz,its,r,ht⟩
 refine I.call (ch:=ch) (g':=s.gens) (d':=s.drawn) (t':=s.toks) ⟨fun b o e _ _ hc=>k b o hc e,fun b o e _ _ hc=>⟨o.slots,k b o hc e⟩,fun b o e n _=>?_,fun b o e hc=>?_,fun b ys e=>?_,fun b o u e=>?_,fun b ps e=>?_⟩ (fun b u e=>?_) I.bare (fun b hb=>?_)
 ·rw [Yq (fun z=>by rw [z] at e; exact absurd (Heap.lt_size e) (Nat.not_lt.mpr hT))]; exact n
 ·exact ⟨o,k b o hc e⟩
 ·rw [Yq (Ja e hn)]; exact e
 ·rw [Yq (Ja e hn)]; exact e
 ·exact ⟨#[],by rw [Yq (Ja e hn),e]; simp⟩
 ·by_cases hb:b = T
  ·subst hb; rw [Y5] at e; cases e; exact new
  ·rw [Yq hb] at e
   refine (I.hok b u e).stay (fun c v hc q=>k c v ?_ q) (fun c q=>by rw [Yq (Ja q hn)]; exact q) fun c ys q=>by rw [Yq (Ja q hn)]; exact q
   rcases hc with rfl | hc
   ·exact nch _ _ e
   ·exact nch _ _ hc
 ·obtain ⟨f0,f1,f2,f3,f4,f5⟩:=f b hb
  exact ⟨f3,f1,f4,f5⟩
theorem Inv.turnAll {h':Heap} {ch:List Addr} (I:Inv X pins σ H s) (f:∀ b ∈ ch,Zju X pins H b) (k:∀ b o,b ∉ ch→s.heap.get? b = some o→h'.get? b = some o):Inv X pins σ H { s with heap:=h' }:=by
 have nch:∀ b u,H b = some u→b ∉ ch:=fun b u e z=>by rw [(f b z).1] at e; cases e
 refine I.call (ch:=ch) (g':=s.gens) (d':=s.drawn) (t':=s.toks) ⟨fun b o e _ _ hc=>k b o hc e,fun b o e _ _ hc=>⟨o.slots,k b o hc e⟩,fun b o e n _=>n,fun b o e hc=>⟨o,k b o hc e⟩,fun b ys e=>e,fun b o u e=>e,fun b ps e=>⟨#[],by rw [e]; simp⟩⟩ (fun b u e=>?_) I.bare (fun b hb=>?_)
 ·refine (I.hok b u e).stay (fun c v hc q=>k c v ?_ q) (fun c q=>q) fun c ys q=>q
  rcases hc with rfl | hc
  ·exact nch _ _ e
  ·exact nch _ _ hc
 ·obtain ⟨f0,f1,f2,f3,f4,f5⟩:=f b hb
  exact ⟨f3,f1,f4,f5⟩
end
end L2
namespace L2
open PySem PySem.Spec PyProof.Rows
variable {G:PySem.W.Frag}
section
variable {X:Cx} {io:List Nat} {p c:Bool} {e a b tg:Expr} {m:MEt} {mr:MAt}
theorem Rel.keptList {C:MC G} {H:Hp} {σ:St} {δ:Zr} {fp:Fp} {ex:Addr→Prop} {v:V} {ds:List PyData} (R:Rel C io H σ δ fp ex) (q:Da G H (fun a=>c = true→Lf C fp ex a) v (.list ds)) :
  ∃ a xs,v = .ref a∧∀ H':Hp,(∀ b o,H b = some o→(c = false∨¬ Foot fp b)→H' b = some o)→SqL G H' a xs∧Das G H' (fun a=>c = true→(Lf C fp ex a∧H a ≠ none)) xs ds:=by
 generalize hd:PyData.list ds = d at q
 cases q with
 | lst l e r =>
  cases hd
  rename_i a0 xs0
  refine ⟨a0,xs0,rfl,fun H' kp=>?_⟩
  obtain ⟨f1,f2⟩:=R.kept kp
  exact ⟨.inl (f1 _ (.lst _) l e).2,r.frame f1 f2⟩
 | scr k =>
  rename_i a ns
  have:=PyData.list.inj hd
  subst this
  exact ⟨a,_,rfl,fun H' _=>⟨k.sq,.ints ns⟩⟩
 | _=>cases hd
noncomputable def Zp6 (as bs:List PyData):List PyData:=(as.zip bs).map fun x=>.tuple [x.1,x.2]
theorem Ztr {as bs:List PyData} {i:Nat} {d:PyData} (h:(Zp6 as bs)[i]? = some d):∃ x y,as[i]? = some x∧bs[i]? = some y∧d = .tuple [x,y]:=by
 unfold Zp6 at h
 rw [List.getElem?_map] at h
 cases e:(as.zip bs)[i]? with
 | none=>rw [e] at h; cases h
 | some z =>
  rw [e] at h
  cases h
  obtain ⟨h1,h2⟩:=List.getElem?_zip_eq_some.mp e
  exact ⟨z.1,z.2,h1,h2,rfl⟩
theorem Zs4 {as bs:List PyData} {i:Nat} (h:(Zp6 as bs)[i]? = none):as.length ≤ i∨bs.length ≤ i:=by
 unfold Zp6 at h
 have:=List.getElem?_eq_none_iff.mp h
 simp at this
 omega
@[simp] theorem Zx5 (as bs:List PyData):(Zp6 as bs).length = min as.length bs.length:=by simp [Zp6]
end
end L2
namespace L2
open PySem PySem.Spec PyProof.Rows
variable {G:PySem.W.Frag}
section
variable {X:Cx} {io:List Nat} {c1 c2 c3:Bool} {a b e:Expr} {ma mb mc:MEt} {pos:Pos} {f g:Int→Int→Bool}
noncomputable def Zou (f g:Int→Int→Bool) (ma mb mc:MEt):MEt:=fun δ K=>ma δ fun x δ1=>mb δ1 fun y δ2=>asI x.data fun i=>asI y.data fun j=>if f i j = true then mc δ2 fun z δ3=>asI z.data fun k=>K (.fz (.bool (g j k))) δ3 else K (.fz (.bool false)) δ2
theorem Z2y {ta tb tc:TE} (ha:SE G io true c1 ta ma) (hb:SE G io true c2 tb mb) (hc:SE G io true c3 tc mc):SE G io true true (Zwh (rI0 fun i j=>.bl (f i j)) (rI0 fun i j=>.bl (g i j)) ta tb tc) (Zou f g ma mb mc):=by
 intro C H σ δ fp ex K Q R h k
 refine ha.pureAfter R h fun H1 x u R1 s1 q1 h1=>?_
 refine hb.pureAfter R1 h1 fun H2 y v R2 s2 q2 h2=>?_
 obtain ⟨i,rfl,h2⟩:=q1.intInv h2
 obtain ⟨j,rfl,h2⟩:=q2.intInv h2
 refine ⟨i,j,rfl,rfl,f i j,rfl,?_⟩
 by_cases hf:f i j = true
 ·rw [if_pos hf] at h2 ⊢
  refine hc.pureAfter R2 h2 fun H3 z w R3 s3 q3 h3=>?_
  obtain ⟨l,rfl,h3⟩:=q3.intInv h3
  have s13:Same H H3:=(s1.trans s2).trans s3
  exact ⟨j,l,rfl,rfl,k H3 _ _ δ fp [] (.fz R3 (.same s13 s13.al) (.bl _)) h3⟩
 ·rw [if_neg hf] at h2 ⊢
  have s12:Same H H2:=s1.trans s2
  exact k H2 _ _ δ fp [] (.fz R2 (.same s12 s12.al) (.bl _)) h2
theorem Zxb {op op':CmpOp} (ho:OpR X (compareOp op) (rI0 fun i j=>.bl (f i j))) (ho':OpR X (compareOp op') (rI0 fun i j=>.bl (g i j))) (ha:ME X io true c1 a ma) (hb:ME X io true c2 b mb) (hc:ME X io true c3 e mc)
  (hm:lastMarks [op,op'] [b,e] = false:=by with_unfolding_all rfl):ME X io true true (.Compare a [op,op'] [b,e] pos) (Zou f g ma mb mc):=by
 obtain ⟨_,A,sa⟩:=ha
 obtain ⟨_,B,sb⟩:=hb
 obtain ⟨_,D,sc⟩:=hc
 exact ⟨_,Zvc ho ho' A B D hm,Z2y sa sb sc⟩
end
section
variable {X:Cx} {io:List Nat} {p c:Bool} {a b e:Expr} {ma mb m:MEt} {pos pl:Pos}
end
end L2
namespace L2
open PySem PySem.Spec PyProof.Rows
variable {G:PySem.W.Frag}
section
variable {X:Cx}
noncomputable def Zwx:List V→Hp→VK→Prop:=fun vs H Q=>∃ j:Int,vs = [.int j]∧∀ r,H r = none→Q (.ref r) (upd H r (.rng 0 j))
theorem Zq4:Zd9 X (.type "range") Zwx:=by
 intro pins s σ H vs us Q I r h
 obtain ⟨j,rfl,q⟩:=h
 obtain ⟨u,rfl,t,rfl⟩:=vals1 r
 refine call_range_1 ?_
 exact ⟨.ref s.heap.objs.size,_,I.laid (o:=.rng 0 j) (fun b o e=>Heap.get?_push_of_some _ e) (Nat.le_refl _) ⟨_,_,_,Heap.get?_push_size _ rfl⟩,rfl,q _ I.fresh⟩
noncomputable def Zuw (lo:Int) (n:Nat):List V:=(List.range n).map fun (i:Nat)=>V.int (lo + (i:Int))
noncomputable def Zu1:List V→Hp→VK→Prop:=fun vs H Q=>∃ r lo hi,vs = [.ref r]∧H r = some (.rng lo hi)∧(-(2 ^ 62) ≤ lo∧lo < 2 ^ 62∧-(2 ^ 62) ≤ hi∧hi < 2 ^ 62)∧(hi - lo).toNat ≤ sizeLine∧∀ l,H l = none→Q (.ref l) (upd H l (.lst (Zuw lo (hi - lo).toNat)))
theorem Zlk (lo:Int) (n:Nat):Zuw lo (n + 1) = .int lo :: Zuw (lo + 1) n:=by
 unfold Zuw
 rw [List.range_succ_eq_map,List.map_cons,List.map_map]
 congr 1
 ·simp
 ·refine List.map_congr_left fun i _=>?_
  show V.int (lo + ((i + 1:Nat):Int)) = V.int (lo + 1 + (i:Int))
  congr 1
  omega
theorem Zof:∀ (acc:List Value) (lo:Int),(∀ (i:Nat) (v:Value),acc[i]? = some v→∃ t,v = Value.int (lo + i) t)→Vals (Zuw lo acc.length) acc
 | [],_,_=>.nil
 | v :: acc,lo,h=>by
  rw [List.length_cons,Zlk]
  obtain ⟨t,e⟩:=h 0 v rfl
  refine .cons ⟨t,by rw [e]; simp⟩ (Zof acc (lo + 1) fun i w hw=>?_)
  obtain ⟨t',e'⟩:=h (i + 1) w (by simpa using hw)
  refine ⟨t',?_⟩
  rw [e']
  congr 1
  omega
theorem Zi7 (hc:X.calm = true):Zd9 X (.type "list") Zu1:=by
 intro pins s σ H vs us Q I r h
 obtain ⟨a,lo,hi,rfl,e,hb,hz,q⟩:=h
 obtain ⟨u,rfl,ru⟩:=vals1 r
 cases (show u = Value.ref a from ru)
 obtain ⟨t,u',v,e1⟩:=(show ObjOk X.prog X.w H s.heap a (.rng lo hi) from I.hok a _ e)
 refine call_list_range (n:=(hi - lo).toNat) (I.ok.hd hc) e1 ?_ ?_ hz fun h' tk acc c' hk hS hacc=>?_
 ·exact small_one hb.1 hb.2.1 hb.2.2.1 hb.2.2.2
 ·rw [rangeSize_one]; split <;> omega
 ·refine ⟨.ref s.heap.objs.size,_,I.laid (o:=.lst (Zuw lo (hi - lo).toNat)) (t':=tk) hk (Nat.le_refl _) ⟨?_,acc.toList,c',?_,by simpa using hS⟩,rfl,q _ I.fresh⟩
  ·simp [Zuw]; omega
  ·have:=Zof acc.toList lo fun i v hv=>by
    obtain ⟨t,e⟩:=hacc.2 i v (by simpa using hv)
    exact ⟨t,by rw [e,Int.mul_one]⟩
   rwa [show acc.toList.length = (hi - lo).toNat by simpa using hacc.1] at this
end
end L2
namespace L2
open PySem PySem.Spec PyProof.Rows PySem.SeqAt
variable {G:PySem.W.Frag}
theorem Zrg (lo:Int) (n:Nat):Zc4 lo (n + 1) = .int lo :: Zc4 (lo + 1) n:=by
 unfold Zc4
 rw [List.range_succ_eq_map,List.map_cons,List.map_map]
 congr 1
 ·simp
 ·refine List.map_congr_left fun i _=>?_
  show PyData.int (lo + ((i + 1:Nat):Int)) = PyData.int (lo + 1 + (i:Int))
  congr 1
  omega
theorem Das.rng {H:Hp} {L:Addr→Prop}:∀ (n:Nat) (lo:Int),Das G H L (Zuw lo n) (Zc4 lo n)
 | 0,_=>.nil
 | n + 1,lo=>by
  rw [Zlk,Zrg]
  exact .cons (.int _) (Das.rng n _)
section
variable {X:Cx} {io:List Nat} {p c:Bool} {a b e:Expr} {ma mb m:MEt} {mr:MAt} {pos pos' pl pr:Pos}
noncomputable def Z77 (mr:MAt):MEt:=fun δ K=>mr δ fun rs δ'=>n1 (fun d=>asI d fun j=>(-(2 ^ 62) ≤ j∧j < 2 ^ 62∧j.toNat ≤ sizeLine)∧K (.nd ((Zc4 0 j.toNat).map OT.fz)) δ') (OT.datas rs)
theorem Z29 {C:MC G} {H H1:Hp} {σ:St} {δ δ1:Zr} {fp fp1:Fp} {ex:Addr→Prop} {r l:Addr} {lo hi:Int} {n:Nat} (R:Rel C io H σ δ fp ex) (R1:Rel C io H1 σ δ1 fp1 ex) (S:Stp p H δ fp H1 δ1 fp1) (hr:H1 r = none)
  (hl:upd H1 r (.rng lo hi) l = none):RE C io p true H σ δ fp ex (upd (upd H1 r (.rng lo hi)) l (.lst (Zuw lo n))) (.ref l) (.nd ((Zc4 lo n).map OT.fz)) δ1 fp1 [l]:=by
 have s1:=Y9 hr (.rng lo hi)
 have S':Stp p H δ fp (upd H1 r (.rng lo hi)) δ1 fp1:=by
  have:=S.trans (p':=true) (Stp.same (p:=true) (δ:=δ1) (fp:=fp1) s1 s1.al)
  rwa [Bool.and_true] at this
 exact RE.tree R (R1.mk0 s1) S' (Y9 hl _) (Zfq hl) (Zhz l) (Own.list hl (Das.rng n lo))
theorem Zsf (hc:X.calm = true) (hgl:Gl X "list") (hml:X.mg "list" = none) (hvl:bootBuiltins "list" = some (.type "list")) (hg:Gl X "range") (hm:X.mg "range" = none) (hv:bootBuiltins "range" = some (.type "range")) (ha:MA X io p c [a] mr)
  (he:starEach [a] X.env = (false,eval a X.env) :: starEach [] X.env:=by rfl) (hpl:(backTo pos' (starEach [] X.env)).any (·.1) = false:=by rfl)
  (he':starEach [.Call (.Name "range" pr) [a] [] pos'] X.env = (false,eval (.Call (.Name "range" pr) [a] [] pos') X.env) :: starEach [] X.env:=by rfl) (hpl':(backTo pos (starEach [] X.env)).any (·.1) = false:=by rfl) :
  ME X io p true (.Call (.Name "list" pl) [.Call (.Name "range" pr) [a] [] pos'] [] pos) (Z77 mr):=by
 obtain ⟨_,A,s⟩:=ha
 refine ⟨_,Ze3 (Zi7 hc) hgl hml hvl (Zev (Ze3 Zq4 hg hm hv A (he:=he) (hpl:=hpl)) Ziu he') (he:=he') (hpl:=hpl'),fun C H σ δ fp ex K Q R h kk=>s C H σ δ fp ex _ _ R h fun H1 vs rs δ1 fp1 new r1 h1=>?_⟩
 obtain ⟨v,d,rfl,e2,q,h2⟩:=(r1.das R).one h1
 obtain ⟨j,rfl,h2⟩:=q.intInv h2
 refine ⟨j,rfl,fun r hr=>⟨r,0,j,rfl,Y5,⟨by decide,by decide,h2.1.1,h2.1.2.1⟩,by rw [Int.sub_zero]; exact h2.1.2.2,fun l hl=>?_⟩⟩
 rw [Int.sub_zero]
 exact kk _ _ _ δ1 fp1 [l] (Z29 R r1.base r1.stp hr hl) h2.2
end
noncomputable def Zqn (ns:List Int):Nat:=(ns.foldl step_dedup []).length
theorem Zle:∀ (ns acc:List Int),(acc ++ ns).Nodup→ns.foldl step_dedup acc = acc ++ ns
 | [],acc,_=>by simp
 | n :: ns,acc,h=>by
  have hn:n ∉ acc:=fun m=>(List.nodup_append.mp h).2.2 n m n (.head _) rfl
  have:step_dedup acc n = acc ++ [n]:=by
   unfold step_dedup
   rw [if_neg]
   intro z
   obtain ⟨x,hx,e⟩:=List.any_eq_true.mp z
   have:=eq_of_beq e
   subst this
   exact hn hx
  rw [List.foldl_cons,this,Zle ns (acc ++ [n]) (by rwa [List.append_assoc])]
  simp
theorem Zpa {ns:List Int} (h:ns.Nodup):Zqn ns = ns.length:=by
 unfold Zqn
 rw [Zle ns [] (by simpa using h)]
 simp
theorem map_getD {ns:List Int}:(List.range ns.length).map (fun i=>ns.getD i 0) = ns:=by
 refine List.ext_getElem? fun i=>?_
 rw [List.getElem?_map]
 by_cases h:i < ns.length
 ·rw [List.getElem?_range h,Option.map_some,List.getD_eq_getElem?_getD,List.getElem?_eq_getElem h,Option.getD_some]
 ·rw [List.getElem?_eq_none (by simpa using h),List.getElem?_eq_none (by simpa using h)]; rfl
theorem Zoa:∀ {ns:List Int} {its:List Value},Vals (ns.map V.int) its→IntsAre its ns
 | [],_,.nil=>.nil
 | n :: ns,_,.cons r rs=>by
  obtain ⟨t,e⟩:=(show ∃ t,_ = Value.int n t from r)
  rw [e]
  exact .cons n t (Zoa rs)
section
variable {X:Cx} {io:List Nat} {p c:Bool} {a b e:Expr} {ma mb m:MEt} {mr:MAt} {pos pos' pl pr:Pos}
noncomputable def Z48 (K:PySem.W.Frag):List V→Hp→VK→Prop:=fun xs H Q=>∃ (a:Addr) (ns:List Int),xs = [.ref a]∧SqL K H a (ns.map V.int)∧ns.length + 1 < scanBound∧∀ (l:Addr) (S:Int→Bool),H l = none→Q (.ref l) (upd H l (.set S (Zqn ns)))
theorem Zrz {K:PySem.W.Frag} (hK:X.K = K) (hc:X.calm = true):Zd9 X (.type "set") (Z48 K):=by
 subst hK
 intro pins s σ H xs us Q I r h
 obtain ⟨a,ns,rfl,hs,hb,q⟩:=h
 obtain ⟨u,rfl,ru⟩:=vals1 r
 cases (show u = Value.ref a from ru)
 obtain ⟨its,rv,pl,hz⟩:=I.list hs
 have hi:=Zoa rv
 have hl:=hi.length
 refine call_set_list (items:=its.toArray) (ns:=ns) (I.ok.hd hc) pl.isList (by simpa using hi) (by simp; omega) fun h' tk hS hk=>?_
 have hfm:(firstMet (fun i=>ns.getD i 0) its.toArray.size).length = Zqn ns:=by
  unfold firstMet Zqn
  rw [show its.toArray.size = ns.length by simp [hl],map_getD]
 refine ⟨.ref s.heap.objs.size,_,I.laid (o:=.set (fun k'=>(firstMet (fun i=>ns.getD i 0) its.toArray.size).any fun x=>x == k') (Zqn ns)) (t':=tk) (fun b o e=>hk b o (Heap.lt_size e) e) (Nat.le_refl _) ?_,rfl,q _ _ I.fresh⟩
 ·rw [← hfm]; exact hS
noncomputable def Zx9:List V→Hp→VK→Prop:=fun xs H Q=>∃ (a:Addr) (S:Int→Bool) (n:Nat),xs = [.ref a]∧H a = some (.set S n)∧Q (.int n) H
theorem Zm6:Zd9 X (.builtin "len") Zx9:=by
 intro pins s σ H xs us Q I r h
 obtain ⟨a,S,n,rfl,e,q⟩:=h
 obtain ⟨u,rfl,ru⟩:=vals1 r
 cases (show u = Value.ref a from ru)
 obtain ⟨o,es,ep,t,ho,hx,hd,_,_,hz,hf,hn⟩:=(show ObjOk X.prog X.w H s.heap a (.set S n) from I.hok a _ e)
 subst hn
 have:es.size < 4096:=hz
 exact call_len_set ho hx hd hf (by omega) ⟨.int es.size,H,I.kept (h':=s.heap) (fun b o e=>e),⟨_,rfl⟩,q⟩
noncomputable def Zsb (mr:MAt):MEt:=fun δ K=>mr δ fun rs δ'=>n1 (fun d=>∃ ns:List Int,d = .list (ns.map PyData.int)∧ns.length < 4095∧K (.fz (.int (Zqn ns))) δ') (OT.datas rs)
theorem Zuu (hc:X.calm = true) (hgl:Gl X "len") (hml:X.mg "len" = none) (hvl:bootBuiltins "len" = some (.builtin "len")) (hg:Gl X "set") (hm:X.mg "set" = none) (hv:bootBuiltins "set" = some (.type "set")) (ha:MA X io p c [a] mr)
  (he:starEach [a] X.env = (false,eval a X.env) :: starEach [] X.env:=by rfl) (hpl:(backTo pos' (starEach [] X.env)).any (·.1) = false:=by rfl)
  (he':starEach [.Call (.Name "set" pr) [a] [] pos'] X.env = (false,eval (.Call (.Name "set" pr) [a] [] pos') X.env) :: starEach [] X.env:=by rfl) (hpl':(backTo pos (starEach [] X.env)).any (·.1) = false:=by rfl) :
  ME X io p true (.Call (.Name "len" pl) [.Call (.Name "set" pr) [a] [] pos'] [] pos) (Zsb mr):=by
 obtain ⟨_,A,s⟩:=ha
 refine ⟨_,Zg7 Zm6 hgl hml hvl (Zev (Ze3 (Zrz rfl hc) hg hm hv A (he:=he) (hpl:=hpl)) Ziu he') (he:=he') (hpl:=hpl'),fun C H σ δ fp ex K Q R h kk=>s C H σ δ fp ex _ _ R h fun H1 vs rs δ1 fp1 new r1 h1=>?_⟩
 obtain ⟨v,d,rfl,e2,q,ns,e,hb,h2⟩:=(r1.das R).one h1
 subst e
 obtain ⟨a,rfl,hs⟩:=q.ints_sq
 refine ⟨a,ns,rfl,hs,by show _ < 4096; omega,fun l S hl=>⟨l,S,_,rfl,Y5,?_⟩⟩
 have s1:=Y9 hl (.set S (Zqn ns))
 have S':Stp p H δ fp (upd H1 l (.set S (Zqn ns))) δ1 fp1:=by
  have:=r1.stp.trans (p':=true) (Stp.same (p:=true) (δ:=δ1) (fp:=fp1) s1 s1.al)
  rwa [Bool.and_true] at this
 exact kk _ _ _ δ1 fp1 [] (.fz (r1.base.mk0 s1) S' (.int _)) h2
end
end L2
namespace L2
open PySem PySem.Spec PyProof.Rows
section
variable {X:Cx} {io:List Nat} {p p' c:Bool} {a b e:Expr} {ma mb m:MEt} {pos p2:Pos}
end
end L2
namespace L2
open PySem PySem.Spec PyProof.Rows
theorem ObjOk.is {P:Program} {w:World} {H:Hp} {h:Heap} {a:Addr} {o:HO} (x:ObjOk P w H h a o):∃ u,h.get? a = some u:=by
 cases o with
 | lst xs=>obtain ⟨_,_,_,_,e⟩:=x; exact ⟨_,e⟩
 | tup xs=>obtain ⟨_,_,_,ob,e,_⟩:=x; exact ⟨_,e⟩
 | dK kvs=>obtain ⟨_,_,_,_,o,_,_,e,_⟩:=x; exact ⟨_,e⟩
 | dT kvs=>obtain ⟨_,_,_,_,o,_,_,e,_⟩:=x; exact ⟨_,e⟩
 | set S n=>obtain ⟨o,_,_,_,e,_⟩:=x; exact ⟨_,e⟩
 | ins C dx fs=>obtain ⟨_,_,_,e,_⟩:=x; exact ⟨_,e⟩
 | own y=>obtain ⟨_,e⟩:=x; exact ⟨_,e⟩
 | xd fs=>obtain ⟨_,⟨_,_,_,e,_⟩,_⟩:=x; exact ⟨_,e⟩
 | rng lo hi=>obtain ⟨_,_,_,e⟩:=x; exact ⟨_,e⟩
 | frz ob u=>obtain ⟨e,_⟩:=x; exact ⟨_,e⟩
 | tbl ps=>exact ⟨_,(show h.get? a = some _ from x)⟩
 | met f y=>exact ⟨_,(show h.get? a = some _ from x)⟩
 | ext φ=>obtain ⟨_,⟨_,e⟩,_⟩:=x; exact ⟨_,e⟩
structure Apart (X:Cx) (pins:List (Addr × Obj)) (H:Hp) (b:Addr):Prop where
 fr:H b = none
 new:X.s₀.heap.get? b = none
 loc:b ≠ X.env.locals
 cel:∀ x c,X.env.cells.lookup x = some c→c ≠ b
 pin:∀ p ∈ X.pn ++ pins,p.1 ≠ b
section
variable {X:Cx} {pins:List (Addr × Obj)} {σ:St} {H H':Hp} {s:Shared} {h':Heap} {b a C:Addr}
theorem Inv.apart (I:Inv X pins σ H s) (hex:X.ex = []) (hb:s.heap.get? b = none) (hH:H' b = none):Apart X pins H' b:=by
 have ne:∀ c o,s.heap.get? c = some o→c ≠ b:=fun c o e z=>by rw [z,hb] at e; cases e
 refine ⟨hH,?_,?_,fun x c e=>?_,fun p hp=>?_⟩
 ·cases q:X.s₀.heap.get? b with
  | none=>rfl
  | some o =>
   obtain ⟨o',e⟩:=I.base.there b o q (by rw [hex]; simp)
   rw [hb] at e; cases e
 ·obtain ⟨m,⟨o,_,_,ho,_⟩,_⟩:=I.loc
  exact (ne _ _ ho).symm
 ·obtain ⟨v,o,ho,_⟩:=I.cell x c e
  exact ne _ _ ho
 ·exact ne _ _ (I.pin p hp).1
theorem Inv.unheld (I:Inv X pins σ H s) (hb:s.heap.get? b = none):H b = none:=by
 cases q:H b with
 | none=>rfl
 | some u =>
  obtain ⟨o,e⟩:=(I.hok b u q).is
  rw [hb] at e; cases e
theorem Inv.nofrs (I:Inv X pins σ H s) (hb:b ≠ X.env.locals) (hf:b ∉ X.fs):b ∉ frs X.stack:=fun z=>(List.mem_cons.mp (I.stkSub b z)).elim hb hf
theorem Inv.flown {t':Nat} (I:Inv X pins σ H s) {ch:List Addr} (hch:∀ b ∈ ch,Apart X pins H b) (keep:∀ b o,b ∉ frs X.stack→b ∉ ch→s.heap.get? b = some o→h'.get? b = some o)
  (slot:∀ b o,b ∈ frs X.stack→s.heap.get? b = some o→∃ sl,h'.get? b = some { o with slots:=sl }):Inv X pins σ H { s with heap:=h',toks:=t' }:=by
 have any:∀ b o,b ∉ ch→s.heap.get? b = some o→∃ sl,h'.get? b = some { o with slots:=sl }:=fun b o n e=>by
  by_cases hb:b ∈ frs X.stack
  ·exact slot b o hb e
  ·exact ⟨o.slots,keep b o hb n e⟩
 have neL:∀ b o,X.s₀.heap.get? b = some o→b ≠ X.env.locals:=fun b o e=>Nat.ne_of_lt (Nat.lt_of_lt_of_le (Heap.lt_size e) I.ok.above)
 have neC:∀ b o,X.s₀.heap.get? b = some o→b ∉ ch:=fun b o e hb=>by
  have:=(hch b hb).new
  rw [this] at e; cases e
 have cellK:∀ x c,X.env.cells.lookup x = some c→∀ v,s.heap.IsCell c v→h'.IsCell c v:=fun x c e v q91=>by
  obtain ⟨o,ho,hd⟩:=q91
  obtain ⟨sl,q⟩:=any c o (fun z=>(hch c z).cel x c e rfl) ho
  exact ⟨_,q,hd⟩
 have nL:X.env.locals ∉ ch:=fun z=>(hch _ z).loc rfl
 refine ⟨I.ok,I.os,I.bare,⟨fun b o e n hb hx=>?_,fun b o e n hb hx=>?_,I.base.free,fun b o e hx=>?_,I.base.tups,I.base.frzs,I.base.tbls⟩,?_,fun x c e=>?_,I.free,I.freeC,fun p hp=>?_,fun b u e=>?_,I.len⟩
 ·exact keep b o (I.nofrs (neL b o e) hb) (neC b o e) (I.base.keep b o e n hb hx)
 ·obtain ⟨sl,e1⟩:=I.base.slot b o e n hb hx
  obtain ⟨sl',e2⟩:=any b _ (neC b o e) e1
  exact ⟨sl',e2⟩
 ·obtain ⟨o',e1⟩:=I.base.there b o e hx
  obtain ⟨sl,e2⟩:=any b o' (neC b o e) e1
  exact ⟨_,e2⟩
 ·obtain ⟨m,⟨o,es,ep,ho,r⟩,hl⟩:=I.loc
  obtain ⟨sl,q⟩:=any _ o nL ho
  refine ⟨m,⟨_,es,ep,q,r⟩,fun i x v e1 e2 e3=>?_⟩
  obtain ⟨u,rv,l⟩:=hl i x v e1 e2 e3
  refine ⟨u,rv,?_⟩
  rcases l with l | ⟨k,c,e,z⟩
  ·exact .inl l
  ·exact .inr ⟨k,c,e,cellK x c e _ z⟩
 ·obtain ⟨v,z⟩:=I.cell x c e
  exact ⟨v,cellK x c e v z⟩
 ·obtain ⟨e,n,ne,nf,d⟩:=I.pin p hp
  exact ⟨keep p.1 p.2 (I.nofrs ne nf) (fun z=>(hch _ z).pin p hp rfl) e,n,ne,nf,d⟩
 ·refine (I.hok b u e).stay (fun c v hc q=>keep c v (fun z=>?_) (fun z=>?_) q) (fun _ q=>q) fun _ _ q=>q
  ·have n:=I.stkFree c z
   rcases hc with rfl | hc
   ·rw [n] at e; cases e
   ·rw [n] at hc; cases hc
  ·have n:=(hch c z).fr
   rcases hc with rfl | hc
   ·rw [n] at e; cases e
   ·rw [n] at hc; cases hc
noncomputable def Fl (ap:Addr→Prop) (C a:Addr) (fl:Value) (h:Heap):Prop:=∃ a0 oe vs T oT ts,h.get? a = some oe∧(oe.cls = .ref C∧vs[0]? = some a0)∧oe.data = .fields vs∧vs[1]? = some (.ref T)∧T ≠ a∧h.get? T = some oT∧oT.data = .fields ts∧ts[3]? = some fl∧ap a∧ap T
noncomputable def Fl0 (ap:Addr→Prop) (C a:Addr) (h:Heap):Prop:=∃ a0 oe vs,h.get? a = some oe∧(oe.cls = .ref C∧vs[0]? = some a0)∧oe.data = .fields vs∧vs[1]? = some .none∧ap a
noncomputable def FlA (ap:Addr→Prop) (fl:Value) (C a:Addr) (h:Heap):Prop:=Fl ap C a .none h∨Fl0 ap C a h∨Fl ap C a fl h
theorem Fl.imp {ap ap':Addr→Prop} {fl:Value} {h:Heap} (f:∀ b,ap b→ap' b) (x:Fl ap C a fl h):Fl ap' C a fl h:=by
 obtain ⟨a0,oe,vs,T,oT,ts,h1,h2,h3,h4,h5,h6,h7,h8,h9,h10⟩:=x
 exact ⟨a0,oe,vs,T,oT,ts,h1,h2,h3,h4,h5,h6,h7,h8,f _ h9,f _ h10⟩
section
variable {M:Model} {A:Around} {E:Value→Shared→Prop} {Q:Unit→Shared→Prop} {ch:List Addr}
theorem Inv.hidFrames (I:Inv X pins σ H s):s.heap.FunFrames (PySem.W.hideAll s.heap (frs X.stack ++ ch)) X.stack :=
 PySem.W.funFrames_hide I.stack fun env he b hb=>List.mem_append_left _ (List.mem_filterMap.mpr ⟨env,he,hb⟩)
theorem Inv.flyTo (I:Inv X pins σ H s) (hch:∀ b ∈ ch,Apart X pins H b) (k1:(PySem.W.hideAll s.heap (frs X.stack ++ ch)).StaysIn h') (k4:∀ b o,s.heap.get? b = some o→(∀ vs,o.data ≠ .fields vs)→∃ sl,h'.get? b = some { o with slots:=sl }) :
  Inv X pins σ H { s with heap:=h' } :=
 I.flown (t':=s.toks) hch (fun b o hf hc e=>k1 b o (PySem.W.hideAll_get _ e fun z=>(List.mem_append.mp z).elim hf hc)) fun b o hb e=>by
  obtain ⟨_,o',ho',hd⟩:=I.stack.mem hb
  rw [e] at ho'; cases ho'
  exact k4 b o e hd
theorem Inv.flyT (I:Inv X pins σ H s) (hex:X.ex = []) (hch:∀ b ∈ ch,Apart X pins H b) {T:Addr} {oT:Obj} {ts:Array Value} (k4:∀ b o,s.heap.get? b = some o→(∀ vs,o.data ≠ .fields vs)→∃ sl,h'.get? b = some { o with slots:=sl })
  (hT:(PySem.W.hideAll s.heap (frs X.stack ++ ch)).get? T = none) (h1:h'.get? T = some oT) (h2:oT.data = .fields ts):Apart X pins H T:=by
 by_cases hc:T ∈ ch
 ·exact hch T hc
 by_cases hf:T ∈ frs X.stack
 ·obtain ⟨_,o',ho',hd⟩:=I.stack.mem hf
  obtain ⟨sl,e⟩:=k4 T o' ho' hd
  rw [h1] at e
  cases e
  exact absurd h2 (hd ts)
 have hn:s.heap.get? T = none:=by
  cases q:s.heap.get? T with
  | none=>rfl
  | some o =>
   have:=PySem.W.hideAll_get (frs X.stack ++ ch) q fun z=>(List.mem_append.mp z).elim hf hc
   rw [hT] at this; cases this
 exact I.apart hex hn (I.unheld hn)
theorem Ztw (I:Inv X pins σ H s) (hex:X.ex = []) (hst:X.stack = X.env :: X.outer) (hf:X.env.frame = some X.env.locals) (hA:A.frames = some X.stack) (F:FlA (Apart X pins H) (rawInt X.env.locals) C a s.heap)
  (h:∀ s',Inv X pins σ H s'→Fl (Apart X pins H) C a (rawInt X.env.locals) s'.heap→Q () s'):wpAny M A (noteFrame (.ref a) X.env) Q E s:=by
 rcases F with F | F | F
 ·obtain ⟨a0,oe,vs,T,oT,ts,eA,cA,dA,v1,nT,eT,dT,t3,pA,pT⟩:=F
  have hch:∀ b ∈ [a,T],Apart X pins H b:=fun b hb=>by
   rcases List.mem_cons.mp hb with rfl | hb
   ·exact pA
   ·rw [List.mem_singleton.mp hb]; exact pT
  have hen:(PySem.W.hideAll s.heap (frs X.stack ++ [a,T])).get? a = none:=PySem.W.hideAll_none _ (List.mem_append_right _ (.head _))
  have hTn:(PySem.W.hideAll s.heap (frs X.stack ++ [a,T])).get? T = none:=PySem.W.hideAll_none _ (List.mem_append_right _ (.tail _ (.head _)))
  have fr:=I.hidFrames (ch:=[a,T])
  refine wpAny_noteFrame_onW (base:=PySem.W.hideAll s.heap (frs X.stack ++ [a,T])) (outer:=X.outer) (hA.trans (by rw [hst])) (hst ▸ fr) hf ⟨oe,vs,T,oT,ts,eA,cA,dA,v1,hTn,nT,eT,dT,t3⟩ (fun b o e=>PySem.W.of_hideAll _ e) hen fun h' hN=>?_
  obtain ⟨k1,_,⟨oe',vs',T',oT',ts',e1,e2,e3,e4,e5,e6,e7,e8,e9⟩,k4⟩:=hN
  exact h _ (I.flyTo hch k1 k4) ⟨a0,oe',vs',T',oT',ts',e1,e2,e3,e4,e6,e7,e8,e9,pA,I.flyT hex hch k4 e5 e7 e8⟩
 ·obtain ⟨a0,oe,vs,eA,cA,dA,v1,pA⟩:=F
  have hch:∀ b ∈ [a],Apart X pins H b:=fun b hb=>by rw [List.mem_singleton.mp hb]; exact pA
  have hen:(PySem.W.hideAll s.heap (frs X.stack ++ [a])).get? a = none:=PySem.W.hideAll_none _ (List.mem_append_right _ (.head _))
  have fr:=I.hidFrames (ch:=[a])
  unfold noteFrame
  simp only [hf]
  refine wpAny_bind (wpAny_field eA dA v1 ?_)
  rw [if_neg (by decide)]
  refine wpAny_entryW (base:=PySem.W.hideAll s.heap (frs X.stack ++ [a])) (outer:=X.outer) (hA.trans (by rw [hst])) (hst ▸ fr) hf eA (fun b o e=>PySem.W.of_hideAll _ e) hen dA (Array.getElem?_eq_some_iff.mp v1).1 cA.2 fun h' hN=>?_
  obtain ⟨k1,_,⟨oe',vs',T',oT',ts',e1,e2,e3,e4,e5,e6,e7,e8,e9⟩,k4⟩:=hN
  exact h _ (I.flyTo hch k1 k4) ⟨a0,oe',vs',T',oT',ts',e1,⟨e2.1.trans cA.1,e2.2⟩,e3,e4,e6,e7,e8,e9,pA,I.flyT hex hch k4 e5 e7 e8⟩
 ·have F':=F
  obtain ⟨a0,oe,vs,T,oT,ts,eA,cA,dA,v1,nT,eT,dT,t3,pA,pT⟩:=F
  unfold noteFrame
  simp only [hf]
  refine wpAny_bind (wpAny_field eA dA v1 ?_)
  rw [if_pos (by rfl)]
  refine wpAny_bind (wpAny_field eT dT t3 ?_)
  rw [if_pos (by simp)]
  exact wpAny_pure (h s I F')
theorem Zt1 (I:Inv X pins σ H s) (hex:X.ex = []) {fl:Value} (F:Fl (Apart X pins H) C a fl s.heap)
  (h:∀ s',Inv X pins σ H s'→Fl (Apart X pins H) C a .none s'.heap→Q () s'):wpAny M A (setFlight (.ref a) none) Q E s:=by
 obtain ⟨a0,oe,vs,T,oT,ts,eA,cA,dA,v1,nT,eT,dT,t3,pA,pT⟩:=F
 have hch:∀ b ∈ [a,T],Apart X pins H b:=fun b hb=>by
  rcases List.mem_cons.mp hb with rfl | hb
  ·exact pA
  ·rw [List.mem_singleton.mp hb]; exact pT
 have hTn:(PySem.W.hideAll s.heap (frs X.stack ++ [a,T])).get? T = none:=PySem.W.hideAll_none _ (List.mem_append_right _ (.tail _ (.head _)))
 refine wpAny_setFlight_noneW (base:=PySem.W.hideAll s.heap (frs X.stack ++ [a,T])) (l:=X.stack) (fun b o e=>PySem.W.of_hideAll _ e) I.hidFrames ⟨oe,vs,T,oT,ts,eA,cA,dA,v1,hTn,nT,eT,dT,t3⟩ fun h' k1 _ k3 k4'=>?_
 have k4:∀ b o,s.heap.get? b = some o→(∀ vs,o.data ≠ .fields vs)→∃ sl,h'.get? b = some { o with slots:=sl }:=fun b o e n=>⟨o.slots,k4' b o e n⟩
 obtain ⟨oe',vs',T',oT',ts',e1,e2,e3,e4,e5,e6,e7,e8,e9⟩:=k3
 exact h _ (I.flyTo hch k1 k4) ⟨a0,oe',vs',T',oT',ts',e1,e2,e3,e4,e6,e7,e8,e9,pA,I.flyT hex hch k4 e5 e7 e8⟩
theorem Zsx (I:Inv X pins σ H s) (hex:X.ex = []) (hst:X.stack = X.env :: X.outer) (hf:X.env.frame = some X.env.locals) (hA:A.frames = some X.stack) (F:FlA (Apart X pins H) (rawInt X.env.locals) C a s.heap)
  (h:∀ s',Inv X pins σ H s'→Fl (Apart X pins H) C a .none s'.heap→Q () s'):wpAny M A (leaving X.env (.ref a)) Q E s:=by
 unfold leaving
 exact wpAny_bind (Ztw I hex hst hf hA F fun s1 I1 F1=>Zt1 I1 hex F1 h)
end
end
end L2
namespace L2
open PySem PySem.Spec PyProof.Rows
noncomputable def Zrp (K:PySem.W.Frag) (C:Addr):Prop:=PySem.W.excIn K C [.type "ValueError", .type "Exception", .type "BaseException", .type "object"] "ValueError.__new__" = true
theorem Zxa {K:PySem.W.Frag} {h:Heap} {C:Addr} {bmB:List Value} {newId:String} (X:K.In h) (q:PySem.W.excIn K C bmB newId = true) :
  ∃ bm N nm qn bs hdct sn sub ab col dd k0 k1 k2 k3 k5 mN,h.get? C = some (excClassObj nm qn C N bs bm hdct sn sub ab col dd k0 k1 k2 k3 k5 newId)∧h.Ns N mN∧mN "__init__" = none∧OwnTail h bmB bm:=by
 unfold PySem.W.excIn at q
 split at q
 case h_2=>cases q
 rename_i dd cd sl ho
 split at q
 case h_2=>cases q
 rename_i C' bm k0 k1 k2 k3 n k5 hm hs
 simp only [Bool.and_eq_true,beq_iff_eq,Bool.not_eq_true'] at q
 obtain ⟨⟨⟨⟨⟨rfl,rfl⟩,e1⟩,e2⟩,e3⟩,e4⟩:=q
 obtain ⟨nm,bs,mro,ns,qn,hd,sn,sub,ab,col,del⟩:=cd
 dsimp only at hm e1 e3 e4
 subst hm e1
 obtain ⟨l⟩:=sl
 have e5:l = [k0,k1,k2,k3,some (.builtin n),k5]:=hs
 subst e5
 exact ⟨bm,ns,nm,qn,bs,hd,sn,sub,ab,col,dd,k0,k1,k2,k3,k5,_,X _ _ ho,.of_isNs (PySem.W.isNs_of_in X e3),PySem.W.nsMap_none_of_in X e3 e4,PySem.W.tail_of_in X e2⟩
noncomputable abbrev MXt:=Zr→(Addr→Zr→Prop)→Prop
noncomputable def XW (X:Cx) (C:MC X.K) (io:List Nat) (pins:List (Addr × Obj)) (ex:Addr→Prop) (H:Hp) (fp:Fp) (k:Addr→Zr→Prop) (e:Value) (s':Shared):Prop :=
 ∃ a cl σ' H' δ' fp',e = .ref a∧Inv X pins σ' H' s'∧FlA (Apart X pins H') (rawInt X.env.locals) cl a s'.heap∧Rel C io H' σ' δ' fp' ex∧Kp H fp H' fp'∧k cl δ'
noncomputable def XS (X:Cx) (io:List Nat) (st:Stmt) (m:MXt):Prop:=∀ (C:MC X.K) (pins:List (Addr × Obj)) (s:Shared) (σ:St) (H:Hp) (δ:Zr) (fp:Fp) (ex:Addr→Prop) (k:Addr→Zr→Prop),Inv X pins σ H s→Rel C io H σ δ fp ex→m δ k →
 wpAny (model X.prog X.w) X.A (exec st X.env) (fun _ _=>False) (XW X C io pins ex H fp k) s
noncomputable def XSs (X:Cx) (io:List Nat) (sts:List Stmt) (m:MXt):Prop:=∀ (C:MC X.K) (pins:List (Addr × Obj)) (s:Shared) (σ:St) (H:Hp) (δ:Zr) (fp:Fp) (ex:Addr→Prop) (k:Addr→Zr→Prop),Inv X pins σ H s→Rel C io H σ δ fp ex→m δ k →
 wpAny (model X.prog X.w) X.A (execs sts X.env) (fun _ _=>False) (XW X C io pins ex H fp k) s
theorem XW.shift {X:Cx} {C:MC X.K} {io:List Nat} {pins:List (Addr × Obj)} {ex:Addr→Prop} {H H1:Hp} {fp fp1:Fp} {k:Addr→Zr→Prop} {e:Value} {s:Shared} (q:Kp H fp H1 fp1) (h:XW X C io pins ex H1 fp1 k e s):XW X C io pins ex H fp k e s:=by
 obtain ⟨a,cl,σ',H',δ',fp',e,I,F,R,K,hk⟩:=h
 exact ⟨a,cl,σ',H',δ',fp',e,I,F,R,q.trans K,hk⟩
noncomputable def Zxc:MXt:=fun _ _=>False
noncomputable def Z6i (u:MSt) (w:MXt):MXt:=fun δ k=>u { nx:=fun δ'=>w δ' k,rt:=fun _ _=>False } δ
noncomputable def Z74 (t:MTt) (u w:MXt):MXt:=fun δ k=>t δ fun b δ'=>if b = true then u δ' k else w δ' k
noncomputable def Zrs (cl:Addr):MXt:=fun δ k=>k cl δ
section
variable {X:Cx} {io:List Nat} {p c:Bool} {e:Expr} {es:List Expr} {mr:MAt} {m:MXt} {pos:Pos} {st:Stmt} {sts a b:List Stmt} {u:MSt} {w v:MXt} {mt:MTt} {i:Nat} {x:Str}
theorem Zsr:XSs X io sts Zxc:=fun _ _ _ _ _ _ _ _ _ _ _ h=>h.elim
theorem Zon (h:XS X io st w):XSs X io (st :: sts) w:=fun C pins s σ H δ fp ex k I R hm=>wpAny_execs_cons (thn (h C pins s σ H δ fp ex k I R hm) fun _ _ z=>z.elim)
theorem Zuz (h:MS X io st u) (g:XSs X io sts w) (hx:X.xe = fun _ _=>False:=by rfl):XSs X io (st :: sts) (Z6i u w):=by
 obtain ⟨t,A,sS⟩:=h
 intro C pins s σ H δ fp ex k I R hm
 refine wpAny_execs_cons (wpAny_mono (A pins s σ H { nx:=fun σ1 H1=>∃ δ1 fp1,Rel C io H1 σ1 δ1 fp1 ex∧Kp H fp H1 fp1∧w δ1 k,rt:=fun _ _=>False } I
  (sS C H σ δ fp ex _ _ R hm ⟨fun H' σ' δ' fp' R' k' h'=>⟨δ',fp',R',k',h'⟩,fun _ _ _ _ _ _ z=>z.elim,fun _ _ _ _ _ _ z=>z.elim,fun _ _ _ _ _ _ _ _ _ _ _ z=>z.elim⟩)) (fun f s1 q=>?_) fun e s1 q=>by rw [hx] at q; exact q.elim)
 cases f with
 | next =>
  obtain ⟨σ1,H1,I1,δ1,fp1,R1,k1,h1⟩:=q
  exact wpAny_mono (g C pins s1 σ1 H1 δ1 fp1 ex k I1 R1 h1) (fun _ _ z=>z) fun e s2 z=>z.shift k1
 | ret v=>obtain ⟨_,_,_,_,_,z⟩:=q; exact z.elim
 | brk=>obtain ⟨_,_,_,z⟩:=q; exact z.elim
 | cont=>obtain ⟨_,_,_,z⟩:=q; exact z.elim
theorem Z3m (ht:MT X io p e mt) (ha:XSs X io a w) (hb:XSs X io b v) (hx:X.xe = fun _ _=>False:=by rfl):XS X io (.If e a b pos) (Z74 mt w v):=by
 obtain ⟨t,A,sT⟩:=ht
 intro C pins s σ H δ fp ex k I R hm
 refine wpAny_If (wpAny_mono (A pins s σ H (fun r H1=>∃ δ1 fp1,Rel C io H1 σ δ1 fp1 ex∧Kp H fp H1 fp1∧if r = true then w δ1 k else v δ1 k) I
  (sT C H σ δ fp ex _ _ R hm fun H' r δ' fp' R' S' h'=>⟨δ',fp',R',S'.kp,h'⟩)) (fun r s1 q=>?_) fun e s1 q=>by rw [hx] at q; exact q.elim)
 obtain ⟨H1,I1,δ1,fp1,R1,k1,h1⟩:=q
 cases r with
 | true=>exact wpAny_mono (ha C pins s1 σ H1 δ1 fp1 ex k I1 R1 h1) (fun _ _ z=>z) fun e s2 z=>z.shift k1
 | false=>exact wpAny_mono (hb C pins s1 σ H1 δ1 fp1 ex k I1 R1 h1) (fun _ _ z=>z) fun e s2 z=>z.shift k1
theorem Zn8 {C:Addr} {x j:Str} {jk:Nat} {np cpos pos kp:Pos} (hex:X.ex = []) (hh:X.A.handled = none) (hg:Gl X x) (hm:X.mg x = some (.ref C)) (q:Zrp X.K C) (hd:(x == ("__debug__" : Str)) = false:=by decide) :
  XS X io (.Raise (some (.Call (.Name x np) [.Constant (.str j) jk kp] [] cpos)) none pos) (Zrs C):=by
 intro M pins s σ H δ fp ex k I R hk
 obtain ⟨tl,N,nm,qn,bs,hdct,sn,sub,ab,col,dd,k0,k1,k2,k3,k5,mN,hC,hN,hni,TL⟩:=Zxa I.ok.mod.kin q
 refine wpAny_Raise_call_subT (C:=C) (nm:=nm) (q:=qn) (N:=N) (bs:=bs) (bm:=tl) (hdct:=hdct) (sn:=sn) (sub:=sub) (ab:=ab) (col:=col) (dd:=dd) (k0:=k0) (k1:=k1) (k2:=k2) (k3:=k3) (k5:=k5)
  PySem.F.excBase_ValueError (mN:=mN) (TL.hasType PySem.F.excBase_ValueError.hasBase) hh rfl hni (Zru I hg hm ⟨rfl,?_⟩ hd)
 refine Calls.evalArgs_plain ?_
 refine Calls.spliced_cons ?_
 show wpAny _ _ (eval (.Constant (.str j) jk kp) X.env) _ _ _
 refine Calls.Constant_str ?_
 refine Calls.spliced_nil ?_
 have I1:=I.tok (s.toks + 1)
 refine ⟨rfl,by show 1 ≤ sizeLine; decide,I1.bk _ _ hC,hN.keeps I1.bk,TL.keeps I1.bk,fun h' e hx=>?_⟩
 obtain ⟨t,e1,_,_⟩:=hx.there
 have I2:=I1.kept (t':=s.toks + 1) hx.keeps
 exact ⟨e,C,σ,H,δ,fp,rfl,I2,.inr (.inl ⟨_,_,_,e1,⟨rfl,rfl⟩,rfl,rfl,I1.apart hex hx.new (I1.unheld hx.new)⟩),R,.refl _ _,hk⟩
end
end L2
namespace L2
open PySem PySem.Spec PyProof.Rows
noncomputable def CX1 (P:Program) (w:World):CXT:=fun outer H s E e s'=>∃ a C H',e = .ref a∧s'.os = s.os∧AllBare s'.gens∧Un (frs outer) [] H H' s.heap s'.heap∧HOk P w H' s'.heap∧Fl (fun b=>H' b = none∧s.heap.get? b = none) C a .none s'.heap∧E (.ref C) none H'
noncomputable def spX (G:PySem.W.Frag) (S:List PyData→Addr→Prop):Sp:=fun vs H Q E=>∃ L ds cl,Das G H L vs ds∧S ds cl∧∀ H',Same H H'→E (.ref cl) none H'
section
variable {P:Program} {w:World} {K:PySem.W.Frag} {mg:Str→Option Value} {base:Heap}
theorem Fun.okX {x qual:Str} {st:Stmt} {f:Addr} {fd:FuncData} {N ps:List Str} {n:Nat} {S:List PyData→Addr→Prop} (F:Fun K x qual st f fd) (Sc:Z3 N ps (Zi st)) (len:∀ ds cl,S ds cl→ds.length = ps.length)
  (hbody:∀ (cdv:Value) (A:Around) (outer:List Env) (s:Shared) (H:Hp) (E:XK),Room n (A.deeper (envOfC qual (Zi st) s.heap.objs.size f cdv)) →
   ∃ m,XSs (Zp7 (CX1 P w) P w K mg base N qual (Zi st) f cdv A outer s H E).nox [] (Z1 st) m∧∀ ds cl,S ds cl→m (Ziq N ds) (fun c _=>c = cl)):FnOk P w K mg base (CX1 P w) (n + 1) f fd ps (spX K S):=by
 obtain ⟨oc,od,kV,doc,pm,an,cdv,ct,osl,rfl,lk,hcd⟩:=F.ex
 refine Z23 lk hcd Sc (fun vs H Q E h=>?_) fun A outer s H vs Q E hr hsp=>?_
 ·obtain ⟨L,ds,cl,h1,h2,_⟩:=h
  rw [h1.length]
  exact len ds cl h2
 obtain ⟨L,ds,cl,h1,h2,h3⟩:=hsp
 obtain ⟨m,hX,q⟩:=hbody cdv A outer s H E hr
 refine ⟨fun _ σ' H'=>σ' = start N vs∧H' = H,fun pins s1 σ1 H1 D I e=>?_,rfl,rfl⟩
 obtain ⟨rfl,rfl⟩:=e
 refine wpAny_mono (hX ⟨H1,fun _=>False,L,start N vs⟩ pins s1 _ _ _ _ _ (fun c _=>c = cl) (I.wish _) (Rel.entry h1) (q ds cl h2)) (fun _ _ z=>z.elim) fun e s' z=>?_
 obtain ⟨a,cl',σ',H',δ',fp',rfl,I',F',R',K',rfl⟩:=z
 exact Zsx I' rfl rfl rfl I'.ok.frames F' fun s'' J FF=>⟨a,cl',H',rfl,J.os,J.bare,J.base,J.hok,FF.imp fun b ap=>⟨ap.fr,ap.new⟩,h3 H' fun b o e=>R'.fr b o e id⟩
end
section
variable {X:Cx} {io:List Nat} {p c:Bool} {e:Expr} {es:List Expr} {mr:MAt} {pos pp:Pos} {k:Nat} {f:Addr} {fd:FuncData} {ps:List Str} {x:Str}
end
section
variable {X:Cx} {pins:List (Addr × Obj)} {σ:St} {H:Hp} {s:Shared} {a C:Addr}
noncomputable abbrev Cx.suite (X:Cx) (a:Addr):Cx:={ X with A:=X.A.mark (some (.ref a)),calm:=false }
end
end L2
namespace L2
open PySem PySem.Spec PyProof.Rows
section
variable {X:Cx} {io:List Nat} {i:Nat} {n y:Str} {Dc:Addr} {b₀:Stmt} {body suite:List Stmt} {pos hpos np:Pos} {u h:MSt} {x:MXt}
end
end L2
namespace L2
open PySem PySem.Spec PyProof.Rows
theorem Zv0 (b:Bool) (k:Bool→Prop):asB (.bool b) k = k b:=rfl
inductive Z4v:V→Value→Prop where
 | own (D:Addr):Z4v (.ref D) (.ref D)
 | ty (T:String):Z4v (.ty T) (.type T)
inductive ClsVs:List V→List Value→Prop where
 | nil:ClsVs [] []
 | cons {v:V} {c:Value} {vs:List V} {cs:List Value}:Z4v v c→ClsVs vs cs→ClsVs (v :: vs) (c :: cs)
theorem ClsVs.length:∀ {vs:List V} {cs:List Value},ClsVs vs cs→vs.length = cs.length
 | _,_,.nil=>rfl
 | _,_,.cons _ t=>by simp [t.length]
section
variable {X:Cx} {io:List Nat} {p c:Bool} {a b:Expr} {ma:MEt} {pos pp p2:Pos}
end
end L2
namespace L2
open PySem PySem.Spec PyProof.Rows PySem.P
section
variable {prog:Program} {w:World} {A:Around} {E:Value→Shared→Prop} {s:Shared} {e t0 C:Addr} {o:Obj} {vs:Array Value} {K:PySem.W.Frag} {m:Str} {tk:Tok}
structure Z8e (s:Shared) (e C t0:Addr) (m:Str) (tk:Tok):Prop where
 ob:∃ o vs,s.heap.get? e = some o∧o.cls = .ref C∧o.data = .fields vs∧vs[0]? = some (.ref t0)
 tx:s.heap.TupAt t0 [.str m tk]
end
section
variable {X:Cx} {C:Addr} {x j:Str} {jk:Nat} {np cpos pos kp p1:Pos}
end
end L2
namespace L2
open PySem PySem.Spec PyProof.Rows
variable {G:PySem.W.Frag}
section
variable {X:Cx} {io:List Nat} {p c:Bool} {e:Expr} {m:MEt} {pos apos cpos px:Pos} {i:Nat} {x:Str}
end
end L2
namespace L2
open PySem PySem.Spec PyProof.Rows
variable {G:PySem.W.Frag}
section
variable {X:Cx} {io:List Nat} {e:Expr} {pos apos cpos px pt pl p2:Pos} {i j:Nat} {x y:Str}
end
section
variable {X:Cx} {io:List Nat} {e:Expr} {i:Nat} {y:Str}
end
end L2
namespace L2
open PySem PySem.Spec PyProof.Rows
section
variable {X:Cx} {pins:List (Addr × Obj)} {σ:St} {H:Hp} {s:Shared} {M:Model} {A:Around} {E:Value→Shared→Prop} {Q:Unit→Shared→Prop} {C a L:Addr} {fl:Value}
end
end L2
namespace L2
open PySem PySem.Spec PyProof.Rows
section
variable {X:Cx} {io:List Nat} {p:Bool} {tg iter:Expr} {body:List Stmt} {mi:MIt} {g:MGt} {u:MSt} {x:MXt} {pos:Pos}
end
end L2
namespace L2
open PySem PySem.Spec PyProof.Rows
noncomputable abbrev FE:=Zr→Option (OT × Zr)
noncomputable abbrev FA:=Zr→Option (List OT × Zr)
noncomputable abbrev FT:=Zr→Option (Bool × Zr)
noncomputable abbrev FI:=Zr→Option (List PyData × Zr)
noncomputable abbrev FO:=Zr→Option (Option Int × Zr)
noncomputable abbrev FG:=PyData→Zr→Option Zr
noncomputable abbrev FGs:=List PyData→Zr→Option Zr
noncomputable def o2 {α:Type} (f:Zr→Option (α × Zr)):Zr→(α→Zr→Prop)→Prop:=fun δ K=>∃ r δ',f δ = some (r,δ')∧K r δ'
noncomputable def oG (g:FG):MGt:=fun d δ k=>∃ δ',g d δ = some δ'∧k δ'
noncomputable def oGs (g:FGs):Zri:=fun d δ k=>∃ δ',g d δ = some δ'∧k δ'
section
variable {X:Cx} {io:List Nat} {p c:Bool} {e tg:Expr} {es:List Expr} {m m':MEt} {mr mr':MAt} {mt mt':MTt} {mi mi':MIt} {g g':MGt} {gs gs':Zri} {mo mo':MOt} {st:Stmt} {sts:List Stmt} {u u':MSt} {eo:Option Expr}
theorem ME.weak (h:ME X io p c e m) (w:∀ δ K,m' δ K→m δ K):ME X io p c e m':=let ⟨t,A,s⟩:=h; ⟨t,A,fun C H σ δ fp ex K Q R h k=>s C H σ δ fp ex K Q R (w δ K h) k⟩
theorem MA.weak (h:MA X io p c es mr) (w:∀ δ K,mr' δ K→mr δ K):MA X io p c es mr':=let ⟨t,A,s⟩:=h; ⟨t,A,fun C H σ δ fp ex K Q R h k=>s C H σ δ fp ex K Q R (w δ K h) k⟩
theorem MT.weak (h:MT X io p e mt) (w:∀ δ K,mt' δ K→mt δ K):MT X io p e mt':=let ⟨t,A,s⟩:=h; ⟨t,A,fun C H σ δ fp ex K Q R h k=>s C H σ δ fp ex K Q R (w δ K h) k⟩
theorem MW.weak (h:MW X io p e mt) (w:∀ δ K,mt' δ K→mt δ K):MW X io p e mt':=let ⟨t,A,s⟩:=h; ⟨t,A,fun C H σ δ fp ex K Q R h k=>s C H σ δ fp ex K Q R (w δ K h) k⟩
theorem MIfs.weak (h:MIfs X io p es mt) (w:∀ δ K,mt' δ K→mt δ K):MIfs X io p es mt':=let ⟨t,A,s⟩:=h; ⟨t,A,fun C H σ δ fp ex K Q R h k=>s C H σ δ fp ex K Q R (w δ K h) k⟩
theorem MI.weak (h:MI X io p c tg e mi) (w:∀ δ K,mi' δ K→mi δ K):MI X io p c tg e mi':=let ⟨t,A,s⟩:=h; ⟨t,A,fun C H σ δ fp ex K Q R h k=>s C H σ δ fp ex K Q R (w δ K h) k⟩
theorem MO.weak (h:MO X io p eo mo) (w:∀ δ K,mo' δ K→mo δ K):MO X io p eo mo':=let ⟨t,A,s⟩:=h; ⟨t,A,fun C H σ δ fp ex K Q R h k=>s C H σ δ fp ex K Q R (w δ K h) k⟩
theorem MG.weak (h:MG X io c tg g) (w:∀ d δ K,g' d δ K→g d δ K):MG X io c tg g':=let ⟨t,A,s⟩:=h; ⟨t,A,fun C H σ δ fp ex v d k Q R q h kk=>s C H σ δ fp ex v d k Q R q (w d δ k h) kk⟩
theorem MGs.weak (h:MGs X io c es gs) (w:∀ d δ K,gs' d δ K→gs d δ K):MGs X io c es gs':=let ⟨t,A,s⟩:=h; ⟨t,A,fun C H σ δ fp ex v d k Q R q h kk=>s C H σ δ fp ex v d k Q R q (w d δ k h) kk⟩
theorem MS.weak (h:MS X io st u) (w:∀ D δ,u' D δ→u D δ):MS X io st u':=let ⟨t,A,s⟩:=h; ⟨t,A,fun C H σ δ fp ex D D' R h E=>s C H σ δ fp ex D D' R (w D δ h) E⟩
theorem MSs.weak (h:MSs X io sts u) (w:∀ D δ,u' D δ→u D δ):MSs X io sts u':=let ⟨t,A,s⟩:=h; ⟨t,A,fun C H σ δ fp ex D D' R h E=>s C H σ δ fp ex D D' R (w D δ h) E⟩
end
noncomputable def Zk (i:Nat):FE:=fun δ=>match δ[i]? with | some (some (.fz d))=>some (.fz d,δ) | _=>none
noncomputable def Zek (i:Nat):FE:=fun δ=>match δ[i]? with | some (some t)=>some (.fz t.data,δ) | _=>none
noncomputable def fC (d:PyData):FE:=fun δ=>some (.fz d,δ)
noncomputable def Zq (g:PyData→PyData→Option PyData) (a b:FE):FE:=fun δ=>(a δ).bind fun p=>(b p.2).bind fun q=>(g p.1.data q.1.data).bind fun d=>some (.fz d,q.2)
noncomputable def Wa (g:PyData→PyData→Option OT) (a b:FE):FE:=fun δ=>(a δ).bind fun p=>(b p.2).bind fun q=>(g p.1.data q.1.data).bind fun d=>some (d,q.2)
noncomputable def fUn (g:PyData→Option PyData) (a:FE):FE:=fun δ=>(a δ).bind fun p=>(g p.1.data).bind fun d=>some (.fz d,p.2)
noncomputable def Z0d (a b:FE):FE:=fun δ=>(a δ).bind fun p=>match p.1.data with | .bool true=>b p.2 | .bool false=>some (.fz (.bool false),p.2) | _=>none
noncomputable def fIf (t:FT) (a b:FE):FE:=fun δ=>(t δ).bind fun p=>if p.1 = true then a p.2 else b p.2
noncomputable def tV (e:FE):FT:=fun δ=>(e δ).bind fun p=>match p.1 with | .fz (.bool b)=>some (b,p.2) | _=>none
noncomputable def tNo (t:FT):FT:=fun δ=>(t δ).bind fun p=>some (!p.1,p.2)
noncomputable def tAn (t u:FT):FT:=fun δ=>(t δ).bind fun p=>if p.1 = true then u p.2 else some (false,p.2)
noncomputable def tO (t u:FT):FT:=fun δ=>(t δ).bind fun p=>if p.1 = true then some (true,p.2) else u p.2
noncomputable def tD (e:FE):FT:=fun δ=>(e δ).bind fun p=>(Z4b p.1.data).bind fun b=>some (b,p.2)
noncomputable def Zy:FA:=fun δ=>some ([],δ)
noncomputable def Ze (e:FE) (a:FA):FA:=fun δ=>(e δ).bind fun p=>(a p.2).bind fun q=>some (p.1 :: q.1,q.2)
noncomputable def Zj8 (a:FA):FE:=fun δ=>(a δ).bind fun p=>if p.1.length ≤ sizeLine then some (.fz (.tuple (OT.datas p.1)),p.2) else none
noncomputable def Zd3 (a:FA):FE:=fun δ=>(a δ).bind fun p=>if p.1.length ≤ sizeLine then some (.nd p.1,p.2) else none
noncomputable def Zht (e:FE):FE:=fun δ=>(e δ).bind fun p=>if Zc5 p.1.data = true then some (.fz p.1.data,p.2) else none
inductive RF where
 | ok (r:OT)
 | exn (c:Str)
 | bad
noncomputable abbrev FD:=List PyData→RF
noncomputable abbrev FIO:=OT→List PyData→Option (OT × OT)
noncomputable def Wc (F:FD) (a:FA):FE:=fun δ=>(a δ).bind fun p=>match F (OT.datas p.1) with | .ok r=>some (r,p.2) | _=>none
noncomputable def Yh (i:Nat) (F:FIO) (a:FA):FE:=fun δ=>match δ[i]? with
 | some (some _)=>(a δ).bind fun p=>match p.2[i]? with
  | some (some t)=>(F t (OT.datas p.1)).bind fun q=>some (q.1,p.2.set i (some q.2))
  | _=>none
 | _=>none
noncomputable def Zdq (g:List PyData→Option PyData) (a:FA):FE:=fun δ=>(a δ).bind fun p=>(g (OT.datas p.1)).bind fun d=>some (.fz d,p.2)
noncomputable def fBl (g:List PyData→Option OT) (a:FA):FE:=fun δ=>(a δ).bind fun p=>(g (OT.datas p.1)).bind fun d=>some (d,p.2)
noncomputable def Zv4 (T:String) (e:FE):FE:=fun δ=>(e δ).bind fun p=>if Zii p.1.data = true then none else some (.fz (.bool (Zp5 T p.1.data)),p.2)
noncomputable def oN:FO:=fun δ=>some (none,δ)
noncomputable def oI (e:FE):FO:=fun δ=>(e δ).bind fun p=>match p.1.data with | .int i=>some (some i,p.2) | _=>none
noncomputable def fSl (e:FE) (lo hi:FO):FE:=fun δ=>(e δ).bind fun p=>(lo p.2).bind fun q=>(hi q.2).bind fun r=>match p.1.data with | .list ds=>some (.nd ((cutD ds q.1 r.1).map OT.fz),r.2) | _=>none
noncomputable def Zlo (f g:Int→Int→Bool) (a b c:FE):FE:=fun δ=>(a δ).bind fun p=>(b p.2).bind fun q=>match p.1.data,q.1.data with
 | .int i,.int j=>if f i j = true then (c q.2).bind fun r=>match r.1.data with | .int k=>some (.fz (.bool (g j k)),r.2) | _=>none else some (.fz (.bool false),q.2)
 | _,_=>none
noncomputable def Zga (e:FE):FI:=fun δ=>(e δ).bind fun p=>match p.1.data with | .list ds=>some (ds,p.2) | _=>none
noncomputable def iTp (e:FE):FI:=fun δ=>(e δ).bind fun p=>match p.1.data with | .tuple ds=>some (ds,p.2) | _=>none
noncomputable def rOk (j:Int):Bool:=decide (-(2 ^ 62) ≤ j) && decide (j < 2 ^ 62)
theorem Zfp {j:Int} (h:rOk j = true):-(2 ^ 62) ≤ j∧j < 2 ^ 62:=by
 unfold rOk at h
 rw [Bool.and_eq_true] at h
 exact ⟨of_decide_eq_true h.1,of_decide_eq_true h.2⟩
theorem Znj {j:Int} (h0:-1000000 ≤ j) (h1:j ≤ 1000000):rOk j = true:=by
 unfold rOk
 rw [decide_eq_true (show -(2 ^ 62) ≤ j by omega),decide_eq_true (show j < 2 ^ 62 by omega)]; rfl
noncomputable def iRa (a:FA):FI:=fun δ=>(a δ).bind fun p=>match OT.datas p.1 with | [.int j]=>if rOk j = true then some (Zc4 0 j.toNat,p.2) else none | _=>none
noncomputable def iRb (a:FA):FI:=fun δ=>(a δ).bind fun p=>match OT.datas p.1 with | [.int i,.int j]=>if (rOk i && rOk j) = true then some (Zc4 i (j - i).toNat,p.2) else none | _=>none
noncomputable def gNm (i:Nat):FG:=fun d δ=>some (δ.set i (some (.fz d)))
noncomputable def Zp3 (i:Nat):FG:=fun d δ=>if Zc5 d = true then some (δ.set i (some (.fz d))) else none
noncomputable def gNl:FGs:=fun ds δ=>match ds with | []=>some δ | _=>none
noncomputable def gCn (g:FG) (gs:FGs):FGs:=fun ds δ=>match ds with | d :: r=>(g d δ).bind (gs r) | []=>none
noncomputable def gTp (n:Nat) (gs:FGs):FG:=fun d δ=>match d with | .tuple ds=>if ds.length = n then gs ds δ else none | _=>none
noncomputable def compLoop (g:FG) (t:FT) (e:FE):List PyData→Zr→Option (List OT × Zr)
 | [],δ=>some ([],δ)
 | d :: ds,δ=>(g d δ).bind fun δ1=>(t δ1).bind fun p=>if p.1 = true then (e p.2).bind fun q=>(compLoop g t e ds q.2).bind fun z=>some (q.1 :: z.1,z.2) else compLoop g t e ds p.2
noncomputable def Jw (n:Nat) (caps:List Nat) (it:FI) (g:FG) (t:FT) (e:FE):FE:=fun δ=>(it δ).bind fun p=>if p.1.length ≤ sizeLine then (compLoop g t e p.1 (blk n caps p.2)).bind fun z=>some (.nd z.1,p.2) else none
noncomputable def Zk4 (n:Nat) (caps:List Nat) (o q:Nat) (it:FI) (g:FG) (t:FT) (e:FE):FE:=fun δ=>(it δ).bind fun p=>if p.1.length ≤ sizeLine∧Zkq caps o p.2 = true then
  (compLoop g t e p.1 (blk n caps p.2)).bind fun z=>match p.2[o]?,z.2[q]? with | some (some _),some (some t)=>some (.nd z.1,p.2.set o (some t)) | _,_=>none
 else none
noncomputable def Zem:FT:=fun δ=>some (true,δ)
inductive RS where
 | nx (δ:Zr)
 | rt (r:OT) (δ:Zr)
 | bk (δ:Zr)
 | ct (δ:Zr)
 | ex (c:Str) (δ:Zr)
 | bad
noncomputable abbrev FS:=Zr→RS
noncomputable def RS.fits (D:Zh2):RS→Prop
 | .nx δ=>D.nx δ
 | .rt r δ=>D.rt r δ
 | .bk δ=>D.bk δ
 | .ct δ=>D.ct δ
 | _=>False
noncomputable def oS (f:FS):MSt:=fun D δ=>(f δ).fits D
noncomputable def xS (K:PySem.W.Frag) (f:FS):MXt:=fun δ k=>∃ c C δ',f δ = .ex c δ'∧ClsAt K c C∧k C δ'
noncomputable def Yj (f g:FS):FS:=fun δ=>match f δ with | .nx δ'=>g δ' | r=>r
noncomputable def fNx:FS:=fun δ=>.nx δ
noncomputable def wE (e:FE) (k:OT→Zr→RS):FS:=fun δ=>match e δ with | some (r,δ')=>k r δ' | none=>.bad
noncomputable def Ztc:OT→Zr→RS:=fun _ δ=>.nx δ
noncomputable def Zar:OT→Zr→RS:=fun r δ=>.rt r δ
noncomputable def Jb (i:Nat):OT→Zr→RS:=fun r δ=>.nx (δ.set i (some (.fz r.data)))
noncomputable def Zdr (i:Nat):OT→Zr→RS:=fun r δ=>.nx (δ.set i (some r))
noncomputable def Zfw (i:Nat):FS:=fun δ=>match δ[i]? with | some (some t)=>.rt t (δ.set i none) | _=>.bad
noncomputable def Zc3 (t:FT) (u w:FS):FS:=fun δ=>match t δ with | some (b,δ')=>if b = true then u δ' else w δ' | none=>.bad
noncomputable def Znq (c:Str):FS:=fun δ=>.ex c δ
noncomputable def Zah (i:Nat) (e:FE):FS:=fun δ=>match δ[i]? with
 | some (some (.nd _))=>wE e (fun r δ1=>match δ1[i]? with
  | some (some (.nd ts))=>if ts.length < sizeLine then .nx (δ1.set i (some (.nd (ts ++ [.fz r.data])))) else .bad
  | _=>.bad) δ
 | _=>.bad
noncomputable def Zzr (i:Nat) (e j:FE):FS:=wE e fun r δ1=>match δ1[i]? with
 | some (some (.nd ts))=>wE j (fun n _=>match n.data with
  | .int k=>match ixN ts.length k with
   | some j=>.nx (δ1.set i (some (.nd (ts.set j (.fz r.data)))))
   | none=>.bad
  | _=>.bad) δ1
 | _=>.bad
noncomputable def Zb3 (i:Nat) (e j j2:FE):FS:=wE e fun r δ1=>match δ1[i]? with
 | some (some (.nd ts))=>wE j (fun n _=>match n.data with
  | .int k=>match ixN ts.length k with
   | some j=>match ts[j]? with
    | some (.nd us)=>wE j2 (fun n' _=>match n'.data with
     | .int k'=>match ixN us.length k' with
      | some j'=>.nx (δ1.set i (some (.nd (ts.set j (.nd (us.set j' (.fz r.data)))))))
      | none=>.bad
     | _=>.bad) δ1
    | _=>.bad
   | none=>.bad
  | _=>.bad) δ1
 | _=>.bad
noncomputable def Zh1 (i:Nat) (u:FS):FS:=fun δ=>match δ[i]? with | some (some t)=>u (δ.set i (some (.fz t.data))) | _=>.bad
noncomputable def forLoop (g:FG) (u:FS):List PyData→Zr→RS
 | [],δ=>.nx δ
 | d :: ds,δ=>match g d δ with
  | none=>.bad
  | some δ1=>match u δ1 with
   | .nx δ2=>forLoop g u ds δ2
   | .ct δ2=>forLoop g u ds δ2
   | .bk δ2=>.nx δ2
   | r=>r
noncomputable def Zaz (it:FI) (g:FG) (u:FS):FS:=fun δ=>match it δ with | some (ds,δ1)=>forLoop g u ds δ1 | none=>.bad
noncomputable def whileLoop (t:FT) (u:FS):Nat→Zr→RS
 | 0,_=>.bad
 | n + 1,δ=>match t δ with
  | none=>.bad
  | some (b,δ1)=>if b = true then match u δ1 with
   | .nx δ2=>whileLoop t u n δ2
   | .ct δ2=>whileLoop t u n δ2
   | .bk δ2=>.nx δ2
   | .rt r δ2=>.rt r δ2
   | _=>.bad
   else .nx δ1
open Classical in
noncomputable def Ziv (t:FT) (u:FS):FS:=fun δ=>if h:∃ n,whileLoop t u n δ ≠ .bad then whileLoop t u (Classical.choose h) δ else .bad
noncomputable def Zep (n:Nat) (ds:List PyData):Zr:=ds.map (fun d=>some (.fz d)) ++ List.replicate (n - ds.length) none
noncomputable def Zjp (n:Nat) (t:OT) (ds:List PyData):Zr:=some t :: (ds.map (fun d=>some (.fz d)) ++ List.replicate (n - (ds.length + 1)) none)
noncomputable def RS.told:RS→RF
 | .nx _=>.ok (.fz .none)
 | .rt r _=>.ok r
 | .ex c _=>.exn c
 | _=>.bad
noncomputable def Zdi (np n:Nat) (S:FS):FD:=fun ds=>if ds.length = np then (S (Zep n ds)).told else .bad
noncomputable def RS.toldI:RS→Option (OT × OT)
 | .nx δ=>match δ[0]? with | some (some t)=>some (.fz .none,t) | _=>none
 | .rt r δ=>match δ[0]? with | some (some t)=>some (r,t) | _=>none
 | _=>none
noncomputable def Zns (np n:Nat) (S:FS):FIO:=fun t ds=>if ds.length + 1 = np then (S (Zjp n t ds)).toldI else none
end L2
namespace L2
open PySem PySem.Spec PyProof.Rows
noncomputable def sD (F:FD):List PyData→(OT→Prop)→Prop:=fun ds k=>∃ r,F ds = .ok r∧k r
noncomputable def sI (F:FIO):OT→List PyData→(OT→OT→Prop)→Prop:=fun t ds k=>∃ r t',F t ds = some (r,t')∧k r t'
noncomputable def sX (K:PySem.W.Frag) (F:FD):List PyData→Addr→Prop:=fun ds cl=>∃ c,F ds = .exn c∧ClsAt K c cl
theorem bs {α β:Type} {x:Option α} {f:α→Option β} {b:β} (h:x.bind f = some b):∃ a,x = some a∧f a = some b:=Option.bind_eq_some_iff.mp h
section
variable {X:Cx} {io:List Nat} {p c:Bool} {e tg:Expr} {es:List Expr} {st:Stmt} {sts:List Stmt} {eo:Option Expr} {fa fb fc:FE} {ra:FA} {ta tb:FT} {i:Nat}
theorem Zb (h:ME X io p c e (Z4e i)):ME X io p c e (o2 (Zk i)):=h.weak fun δ K q91=>by
 obtain ⟨r,δ',h,k⟩:=q91
 unfold Zk at h; unfold Z4e
 split at h
 ·rename_i d hd; (try rw [hd]); cases h; exact k
 ·cases h
theorem Za0 (h:ME X io p c e (Z4q i)):ME X io p c e (o2 (Zek i)):=h.weak fun δ K q92=>by
 obtain ⟨r,δ',h,k⟩:=q92
 unfold Zek at h; unfold Z4q
 split at h
 ·rename_i d hd; (try rw [hd]); cases h; exact k
 ·cases h
theorem Z9 {d:PyData} (h:ME X io p c e (mC d)):ME X io p c e (o2 (fC d)):=h.weak fun δ K ⟨r,δ',h,k⟩=>by cases h; exact k
noncomputable def ByS (g:PyData→PyData→Option PyData) (rp:PyData→PyData→(PyData→Prop)→Prop):Prop:=∀ d e r k,g d e = some r→k r→rp d e k
noncomputable def ByO (g:PyData→PyData→Option OT) (rp:PyData→PyData→(OT→Prop)→Prop):Prop:=∀ d e r k,g d e = some r→k r→rp d e k
theorem Zwg {g rp} (G:ByS g rp) {δ:Zr} {K:OT→Zr→Prop} (h:o2 (Zq g fa fb) δ K):Zmd rp (o2 fa) (o2 fb) δ K:=by
 obtain ⟨r,δ',h,k⟩:=h
 obtain ⟨⟨x,δ1⟩,h1,h⟩:=bs h
 obtain ⟨⟨y,δ2⟩,h2,h⟩:=bs h
 obtain ⟨d,h3,h⟩:=bs h
 cases h
 exact ⟨x,δ1,h1,y,δ2,h2,G _ _ _ _ h3 k⟩
theorem Zt {g rp} (G:ByS g rp) (h:ME X io p c e (Zmd rp (o2 fa) (o2 fb))):ME X io p c e (o2 (Zq g fa fb)):=h.weak fun δ K z=>Zwg G z
theorem Z8d {f:FE} {δ:Zr} {K:Bool→Zr→Prop} (h:o2 (tV f) δ K):o2 f δ (kB K):=by
 obtain ⟨b,δ',h,k⟩:=h
 obtain ⟨⟨x,δ1⟩,h1,h⟩:=bs h
 refine ⟨x,δ1,h1,?_⟩
 unfold kB
 try dsimp only at h ⊢
 split at h
 ·cases h; exact k
 ·cases h
theorem Wm {g rp} (G:ByS g rp) (h:MT X io p e (fun δ K=>Zmd rp (o2 fa) (o2 fb) δ (kB K))):MT X io p e (o2 (tV (Zq g fa fb))):=h.weak fun δ K z=>Zwg G (Z8d z)
theorem Z2 {g rp} (G:ByO g rp) (h:ME X io p c e (Z4j rp (o2 fa) (o2 fb))):ME X io p c e (o2 (Wa g fa fb)):=h.weak fun δ K h=>by
 obtain ⟨r,δ',h,k⟩:=h
 obtain ⟨⟨x,δ1⟩,h1,h⟩:=bs h
 obtain ⟨⟨y,δ2⟩,h2,h⟩:=bs h
 obtain ⟨d,h3,h⟩:=bs h
 cases h
 exact ⟨x,δ1,h1,y,δ2,h2,G _ _ _ _ h3 k⟩
noncomputable def Zwf:PyData→Option PyData | .int i=>some (.int (-i)) | _=>none
noncomputable def Z65:PyData→Option PyData | .bool b=>some (.bool (!b)) | _=>none
theorem Zq6 (h:ME X io p c e (Z7t (o2 fa))):ME X io p c e (o2 (fUn Zwf fa)):=h.weak fun δ K h=>by
 obtain ⟨r,δ',h,k⟩:=h
 obtain ⟨⟨x,δ1⟩,h1,h⟩:=bs h
 obtain ⟨d,h3,h⟩:=bs h
 cases h
 refine ⟨x,δ1,h1,?_⟩
 dsimp only at h3 ⊢
 cases q:x.data <;> rw [q] at h3 <;> cases h3
 exact k
theorem Zzd (h:ME X io p c e (Z15 (o2 fa))):ME X io p c e (o2 (fUn Z65 fa)):=h.weak fun δ K h=>by
 obtain ⟨r,δ',h,k⟩:=h
 obtain ⟨⟨x,δ1⟩,h1,h⟩:=bs h
 obtain ⟨d,h3,h⟩:=bs h
 cases h
 refine ⟨x,δ1,h1,?_⟩
 dsimp only at h3 ⊢
 cases q:x.data <;> rw [q] at h3 <;> cases h3
 exact k
theorem Zqh (h:ME X io p c e (Z0t (o2 fa) (o2 fb))):ME X io p c e (o2 (Z0d fa fb)):=h.weak fun δ K h=>by
 obtain ⟨r,δ',h,k⟩:=h
 obtain ⟨⟨x,δ1⟩,h1,h⟩:=bs h
 refine ⟨x,δ1,h1,?_⟩
 try dsimp only at h ⊢
 split at h
 ·rename_i q; (try rw [q]); rw [Zv0,if_pos rfl]; exact ⟨r,δ',h,k⟩
 ·rename_i q; (try rw [q]); cases h; rw [Zv0,if_neg Bool.false_ne_true]; exact k
 ·cases h
theorem Z1c (h:ME X io p c e (mIf (o2 ta) (o2 fa) (o2 fb))):ME X io p c e (o2 (fIf ta fa fb)):=h.weak fun δ K h=>by
 obtain ⟨r,δ',h,k⟩:=h
 obtain ⟨⟨x,δ1⟩,h1,h⟩:=bs h
 refine ⟨x,δ1,h1,?_⟩
 try dsimp only at h ⊢
 split at h
 ·rename_i q; rw [if_pos q]; exact ⟨r,δ',h,k⟩
 ·rename_i q; rw [if_neg q]; exact ⟨r,δ',h,k⟩
theorem Zee (h:MT X io p e (Z75 (o2 ta))):MT X io p e (o2 (tNo ta)):=h.weak fun δ K h=>by
 obtain ⟨r,δ',h,k⟩:=h
 obtain ⟨⟨x,δ1⟩,h1,h⟩:=bs h
 cases h
 exact ⟨x,δ1,h1,k⟩
theorem Zs7 (h:MW X io p e (Z68 (o2 ta) (o2 tb))):MW X io p e (o2 (tAn ta tb)):=h.weak fun δ K h=>by
 obtain ⟨r,δ',h,k⟩:=h
 obtain ⟨⟨x,δ1⟩,h1,h⟩:=bs h
 refine ⟨x,δ1,h1,?_⟩
 try dsimp only at h ⊢
 split at h
 ·rename_i q; rw [if_pos q]; exact ⟨r,δ',h,k⟩
 ·rename_i q; rw [if_neg q]; cases h; exact k
theorem Zjy (h:MW X io p e (mOr (o2 ta) (o2 tb))):MW X io p e (o2 (tO ta tb)):=h.weak fun δ K h=>by
 obtain ⟨r,δ',h,k⟩:=h
 obtain ⟨⟨x,δ1⟩,h1,h⟩:=bs h
 refine ⟨x,δ1,h1,?_⟩
 try dsimp only at h ⊢
 split at h
 ·rename_i q; rw [if_pos q]; cases h; exact k
 ·rename_i q; rw [if_neg q]; exact ⟨r,δ',h,k⟩
theorem Zdd (h:MT X io p e (Z7z (o2 fa))):MT X io p e (o2 (tD fa)):=h.weak fun δ K h=>by
 obtain ⟨r,δ',h,k⟩:=h
 obtain ⟨⟨x,δ1⟩,h1,h⟩:=bs h
 obtain ⟨d,h3,h⟩:=bs h
 cases h
 refine ⟨x,δ1,h1,?_⟩
 dsimp only at h3 ⊢
 rw [h3]
 exact k
theorem Zf (h:MA X io p c es Z7n):MA X io p c es (o2 Zy):=h.weak fun δ K ⟨r,δ',h,k⟩=>by cases h; exact k
theorem Zyy (h:MA X io p c es (Z3g (o2 fa) (o2 ra))):MA X io p c es (o2 (Ze fa ra)):=h.weak fun δ K h=>by
 obtain ⟨r,δ',h,k⟩:=h
 obtain ⟨⟨x,δ1⟩,h1,h⟩:=bs h
 obtain ⟨⟨y,δ2⟩,h2,h⟩:=bs h
 cases h
 exact ⟨x,δ1,h1,y,δ2,h2,k⟩
theorem Zdy (h:ME X io p c e (Z7y (o2 ra))):ME X io p c e (o2 (Zj8 ra)):=h.weak fun δ K h=>by
 obtain ⟨r,δ',h,k⟩:=h
 obtain ⟨⟨x,δ1⟩,h1,h⟩:=bs h
 refine ⟨x,δ1,h1,?_⟩
 dsimp only at h
 split at h
 ·rename_i q; cases h; exact ⟨q,k⟩
 ·cases h
theorem Wt (h:ME X io p c e (Z7k (o2 ra))):ME X io p c e (o2 (Zd3 ra)):=h.weak fun δ K h=>by
 obtain ⟨r,δ',h,k⟩:=h
 obtain ⟨⟨x,δ1⟩,h1,h⟩:=bs h
 refine ⟨x,δ1,h1,?_⟩
 dsimp only at h
 split at h
 ·rename_i q; cases h; exact ⟨q,k⟩
 ·cases h
theorem Zj7 (h:ME X io p c e (Z20 (o2 fa))):ME X io p c e (o2 (Zht fa)):=h.weak fun δ K h=>by
 obtain ⟨r,δ',h,k⟩:=h
 obtain ⟨⟨x,δ1⟩,h1,h⟩:=bs h
 refine ⟨x,δ1,h1,?_⟩
 dsimp only at h
 split at h
 ·rename_i q; cases h; exact ⟨q,k⟩
 ·cases h
theorem Z6 {F:FD} (h:ME X io p c e (Zxh (sD F) (o2 ra))):ME X io p c e (o2 (Wc F ra)):=h.weak fun δ K h=>by
 obtain ⟨r,δ',h,k⟩:=h
 obtain ⟨⟨x,δ1⟩,h1,h⟩:=bs h
 refine ⟨x,δ1,h1,?_⟩
 dsimp only at h
 split at h
 ·rename_i q; cases h; exact ⟨_,q,k⟩
 ·cases h
theorem Yg {F:FIO} (h:ME X io p c e (Zlv i (sI F) (o2 ra))):ME X io p c e (o2 (Yh i F ra)):=h.weak fun δ K h=>by
 obtain ⟨r,δ',h,k⟩:=h
 unfold Yh at h; unfold Zlv
 split at h
 case h_2=>cases h
 rename_i t0 q0
 (try rw [q0])
 obtain ⟨⟨x,δ1⟩,h1,h⟩:=bs h
 refine ⟨x,δ1,h1,?_⟩
 try dsimp only at h ⊢
 split at h
 case h_2=>cases h
 rename_i t q
 (try rw [q])
 obtain ⟨⟨y,t'⟩,h2,h⟩:=bs h
 cases h
 exact ⟨_,_,h2,k⟩
theorem W2 {g rp} (G:∀ ds r k,g ds = some r→k r→rp ds k) (h:ME X io p c e (Z4r rp (o2 ra))):ME X io p c e (o2 (Zdq g ra)):=h.weak fun δ K h=>by
 obtain ⟨r,δ',h,k⟩:=h
 obtain ⟨⟨x,δ1⟩,h1,h⟩:=bs h
 obtain ⟨d,h3,h⟩:=bs h
 cases h
 exact ⟨x,δ1,h1,G _ _ _ h3 k⟩
theorem Z38 {g rp} (G:∀ ds r k,g ds = some r→k r→rp ds k) (h:ME X io p c e (mBl rp (o2 ra))):ME X io p c e (o2 (fBl g ra)):=h.weak fun δ K h=>by
 obtain ⟨r,δ',h,k⟩:=h
 obtain ⟨⟨x,δ1⟩,h1,h⟩:=bs h
 obtain ⟨d,h3,h⟩:=bs h
 cases h
 exact ⟨x,δ1,h1,G _ _ _ h3 k⟩
theorem Zos {T:String} (h:ME X io p c e (Z7l T (o2 fa))):ME X io p c e (o2 (Zv4 T fa)):=h.weak fun δ K h=>by
 obtain ⟨r,δ',h,k⟩:=h
 obtain ⟨⟨x,δ1⟩,h1,h⟩:=bs h
 by_cases hf:Zii x.data = true
 ·have h':(if Zii x.data = true then none else some (OT.fz (.bool (Zp5 T x.data)),δ1)) = some (r,δ'):=h
  rw [if_pos hf] at h'
  cases h'
 ·have h':(if Zii x.data = true then none else some (OT.fz (.bool (Zp5 T x.data)),δ1)) = some (r,δ'):=h
  rw [if_neg hf] at h'
  injection h' with h'
  injection h' with e1 e2
  subst e1 e2
  exact ⟨x,_,h1,Bool.eq_false_iff.mpr hf,k⟩
theorem Zy7 (h:MO X io p eo Zro):MO X io p eo (o2 oN):=h.weak fun δ K ⟨r,δ',h,k⟩=>by cases h; exact k
theorem Zy5 (h:MO X io p eo (Z0z (o2 fa))):MO X io p eo (o2 (oI fa)):=h.weak fun δ K h=>by
 obtain ⟨r,δ',h,k⟩:=h
 obtain ⟨⟨x,δ1⟩,h1,h⟩:=bs h
 refine ⟨x,δ1,h1,?_⟩
 try dsimp only at h ⊢
 split at h
 ·rename_i q; (try rw [q]); cases h; exact k
 ·cases h
theorem Z5s {lo hi:FO} (h:ME X io p c e (mSl (o2 fa) (o2 lo) (o2 hi))):ME X io p c e (o2 (fSl fa lo hi)):=h.weak fun δ K h=>by
 obtain ⟨r,δ',h,k⟩:=h
 obtain ⟨⟨x,δ1⟩,h1,h⟩:=bs h
 obtain ⟨⟨y,δ2⟩,h2,h⟩:=bs h
 obtain ⟨⟨z,δ3⟩,h3,h⟩:=bs h
 refine ⟨x,δ1,h1,y,δ2,h2,z,δ3,h3,?_⟩
 try dsimp only at h ⊢
 split at h
 ·rename_i q; (try rw [q]); cases h; exact k
 ·cases h
theorem Zzp {f g:Int→Int→Bool} {δ:Zr} {K:OT→Zr→Prop} (h:o2 (Zlo f g fa fb fc) δ K):Zou f g (o2 fa) (o2 fb) (o2 fc) δ K:=by
 obtain ⟨r,δ',h,k⟩:=h
 obtain ⟨⟨x,δ1⟩,h1,h⟩:=bs h
 obtain ⟨⟨y,δ2⟩,h2,h⟩:=bs h
 refine ⟨x,δ1,h1,y,δ2,h2,?_⟩
 try dsimp only at h ⊢
 split at h
 case h_2=>cases h
 rename_i i j q1 q2
 (try rw [q1,q2])
 show (if f i j = true then _ else _)
 split at h
 ·rename_i hf
  rw [if_pos hf]
  obtain ⟨⟨z,δ3⟩,h3,h⟩:=bs h
  refine ⟨z,δ3,h3,?_⟩
  try dsimp only at h ⊢
  split at h
  ·rename_i q; (try rw [q]); cases h; exact k
  ·cases h
 ·rename_i hf
  rw [if_neg hf]
  cases h
  exact k
theorem Ztk {f g:Int→Int→Bool} (h:ME X io p c e (Zou f g (o2 fa) (o2 fb) (o2 fc))):ME X io p c e (o2 (Zlo f g fa fb fc)):=h.weak fun δ K z=>Zzp z
theorem Wy (h:MI X io p c tg e (iL (o2 fa))):MI X io p c tg e (o2 (Zga fa)):=h.weak fun δ K h=>by
 obtain ⟨r,δ',h,k⟩:=h
 obtain ⟨⟨x,δ1⟩,h1,h⟩:=bs h
 refine ⟨x,δ1,h1,?_⟩
 try dsimp only at h ⊢
 split at h
 ·rename_i q; (try rw [q]); cases h; exact k
 ·cases h
theorem Zwd (h:MI X io p c tg e (iT (o2 fa))):MI X io p c tg e (o2 (iTp fa)):=h.weak fun δ K h=>by
 obtain ⟨r,δ',h,k⟩:=h
 obtain ⟨⟨x,δ1⟩,h1,h⟩:=bs h
 refine ⟨x,δ1,h1,?_⟩
 try dsimp only at h ⊢
 split at h
 ·rename_i q; (try rw [q]); cases h; exact k
 ·cases h
theorem Zb1 (h:MI X io p c tg e (iR1 (o2 ra))):MI X io p c tg e (o2 (iRa ra)):=h.weak fun δ K h=>by
 obtain ⟨r,δ',h,k⟩:=h
 obtain ⟨⟨x,δ1⟩,h1,h⟩:=bs h
 refine ⟨x,δ1,h1,?_⟩
 try dsimp only at h ⊢
 split at h
 case h_2=>cases h
 rename_i q
 (try rw [q])
 try dsimp only
 split at h
 ·rename_i b; cases h; exact ⟨Zfp b,k⟩
 ·cases h
theorem Zqd (h:MI X io p c tg e (iR2 (o2 ra))):MI X io p c tg e (o2 (iRb ra)):=h.weak fun δ K h=>by
 obtain ⟨r,δ',h,k⟩:=h
 obtain ⟨⟨x,δ1⟩,h1,h⟩:=bs h
 refine ⟨x,δ1,h1,?_⟩
 try dsimp only at h ⊢
 split at h
 case h_2=>cases h
 rename_i q
 (try rw [q])
 try dsimp only
 split at h
 ·rename_i b
  cases h
  rw [Bool.and_eq_true] at b
  exact ⟨⟨(Zfp b.1).1,(Zfp b.1).2,(Zfp b.2).1,(Zfp b.2).2⟩,k⟩
 ·cases h
theorem Z0 (h:MG X io c tg (dName i)):MG X io c tg (oG (gNm i)):=h.weak fun d δ K ⟨δ',h,k⟩=>by cases h; exact k
theorem Zg2 (h:MG X io c tg (Zv2 i)):MG X io c tg (oG (Zp3 i)):=h.weak fun d δ K q93=>by
 obtain ⟨δ',h,k⟩:=q93
 unfold Zp3 at h
 split at h
 ·rename_i q; cases h; exact ⟨q,k⟩
 ·cases h
theorem Zj0 (h:MGs X io c es Z7s):MGs X io c es (oGs gNl):=h.weak fun d δ K q94=>by
 obtain ⟨δ',h,k⟩:=q94
 unfold gNl at h
 split at h
 ·cases h; exact ⟨rfl,k⟩
 ·cases h
theorem Zb0 {g:FG} {gs:FGs} (h:MGs X io c es (Zw7 (oG g) (oGs gs))):MGs X io c es (oGs (gCn g gs)):=h.weak fun d δ K q95=>by
 obtain ⟨δ',h,k⟩:=q95
 unfold gCn at h
 split at h
 ·obtain ⟨δ1,h1,h⟩:=bs h
  exact ⟨δ1,h1,δ',h,k⟩
 ·cases h
theorem Zop {n:Nat} {gs:FGs} (h:MG X io c tg (dTup n (oGs gs))):MG X io c tg (oG (gTp n gs)):=h.weak fun d δ K q96=>by
 obtain ⟨δ',h,k⟩:=q96
 unfold gTp at h
 split at h
 case h_2=>cases h
 split at h
 ·rename_i q; exact ⟨q,δ',h,k⟩
 ·cases h
theorem Jh (h:MIfs X io p es Z2i):MIfs X io p es (o2 Zem):=h.weak fun δ K ⟨r,δ',h,k⟩=>by cases h; exact k
theorem Zsi {g:FG} {t:FT} {me:FE} {ds:List PyData} {δ0:Zr} {zs:List OT} {δe:Zr} (h:compLoop g t me ds δ0 = some (zs,δe)) :
  ∃ I:Nat→List OT→Zr→Prop,I 0 [] δ0 ∧
 (∀ (i:Nat) (d:PyData) (rs:List OT) (δ':Zr),ds[i]? = some d→I i rs δ'→oG g d δ' fun δ2=>o2 t δ2 fun b δ3=>if b = true then o2 me δ3 fun r δ4=>I (i + 1) (rs ++ [r]) δ4 else I (i + 1) rs δ3) ∧
 ∀ rs δ',I ds.length rs δ'→rs = zs∧δ' = δe:=by
 refine ⟨fun i rs δ'=>∃ ys,rs ++ ys = zs∧compLoop g t me (ds.drop i) δ' = some (ys,δe),⟨zs,rfl,by rw [List.drop_zero]; exact h⟩,?_,?_⟩
 ·rintro i d rs δ' hd ⟨ys,e,hl⟩
  obtain ⟨hi,hdi⟩:=List.getElem?_eq_some_iff.mp hd
  rw [List.drop_eq_getElem_cons hi,hdi] at hl
  unfold compLoop at hl
  obtain ⟨δ1,h1,hl⟩:=bs hl
  obtain ⟨⟨b,δ2⟩,h2,hl⟩:=bs hl
  refine ⟨δ1,h1,b,δ2,h2,?_⟩
  dsimp only at hl
  split at hl
  ·rename_i hb
   rw [if_pos hb]
   obtain ⟨⟨r,δ3⟩,h3,hl⟩:=bs hl
   obtain ⟨⟨ws,δ4⟩,h4,hl⟩:=bs hl
   cases hl
   exact ⟨r,δ3,h3,ws,by rw [List.append_assoc]; exact e,h4⟩
  ·rename_i hb
   rw [if_neg hb]
   exact ⟨ys,e,hl⟩
 ·rintro rs δ' ⟨ys,e,hl⟩
  rw [List.drop_length] at hl
  unfold compLoop at hl
  cases hl
  exact ⟨by rw [← e,List.append_nil],rfl⟩
theorem Zvy {n:Nat} {caps:List Nat} {it:FI} {g:FG} {t:FT} {me:FE} {δ:Zr} {K:OT→Zr→Prop} (h:o2 (Jw n caps it g t me) δ K):Zk3 n caps (o2 it) (oG g) (o2 t) (o2 me) δ K:=by
 obtain ⟨r,δ',h,k⟩:=h
 obtain ⟨⟨ds,δ1⟩,h1,h⟩:=bs h
 refine ⟨ds,δ1,h1,?_⟩
 dsimp only at h
 split at h
 case isFalse=>cases h
 rename_i hz
 obtain ⟨⟨zs,δe⟩,h2,h⟩:=bs h
 cases h
 obtain ⟨I,i0,st,en⟩:=Zsi h2
 refine ⟨hz,I,i0,st,fun rs δ'' q=>?_⟩
 obtain ⟨rfl,rfl⟩:=en rs δ'' q
 exact k
theorem J1 {n:Nat} {caps:List Nat} {it:FI} {g:FG} {t:FT} {me:FE} (h:ME X io p c e (Zk3 n caps (o2 it) (oG g) (o2 t) (o2 me))):ME X io p c e (o2 (Jw n caps it g t me)):=h.weak fun δ K z=>Zvy z
theorem Zyj {n:Nat} {caps:List Nat} {o q:Nat} {it:FI} {g:FG} {t:FT} {me:FE} {δ:Zr} {K:OT→Zr→Prop} (h:o2 (Zk4 n caps o q it g t me) δ K):Znp n caps o q (o2 it) (oG g) (o2 t) (o2 me) δ K:=by
 obtain ⟨r,δ',h,k⟩:=h
 obtain ⟨⟨ds,δ1⟩,h1,h⟩:=bs h
 refine ⟨ds,δ1,h1,?_⟩
 dsimp only at h
 split at h
 case isFalse=>cases h
 rename_i hz
 obtain ⟨⟨zs,δe⟩,h2,h⟩:=bs h
 obtain ⟨I,i0,st,en⟩:=Zsi h2
 refine ⟨hz.1,hz.2,I,i0,st,fun rs δ'' qq=>?_⟩
 obtain ⟨rfl,rfl⟩:=en rs δ'' qq
 dsimp only at h
 split at h
 ·rename_i q1 q2
  (try rw [q1,q2])
  cases h
  exact k
 ·cases h
theorem Ztg {n:Nat} {caps:List Nat} {o q:Nat} {it:FI} {g:FG} {t:FT} {me:FE} (h:ME X io p c e (Znp n caps o q (o2 it) (oG g) (o2 t) (o2 me))):ME X io p c e (o2 (Zk4 n caps o q it g t me)):=h.weak fun δ K z=>Zyj z
end
end L2
namespace L2
open PySem PySem.Spec PyProof.Rows
section
variable {X:Cx} {io:List Nat} {p c:Bool} {e tg iter:Expr} {es:List Expr} {st:Stmt} {sts:List Stmt} {fa fb fc:FE} {ra:FA} {ta tb:FT} {i:Nat} {f g u w:FS}
theorem Zu (h:MSs X io sts (Z54 (oS f) (oS g))):MSs X io sts (oS (Yj f g)):=h.weak fun D δ h=>by
 unfold oS Yj at h; unfold Z54 oS
 cases q:f δ <;> rw [q] at h <;> exact h
theorem Y4 (h:MSs X io sts Z2b):MSs X io sts (oS fNx):=h.weak fun D δ h=>h
theorem Zp4 {k:OT→Zr→RS} {D:Zh2} {δ:Zr} (h:oS (wE fa k) D δ):o2 fa δ fun r δ'=>(k r δ').fits D:=by
 unfold oS wE at h
 split at h
 ·rename_i q; exact ⟨_,_,q,h⟩
 ·exact h.elim
theorem o2.imp {α:Type} {f:Zr→Option (α × Zr)} {δ:Zr} {K K':α→Zr→Prop} (h:o2 f δ K) (k:∀ r δ',K r δ'→K' r δ'):o2 f δ K':=let ⟨r,δ',e,q⟩:=h; ⟨r,δ',e,k r δ' q⟩
theorem Zj1 {P:Prop} [Decidable P] {a:RS} {D:Zh2} (h:(if P then a else .bad:RS).fits D):P∧a.fits D:=by
 split at h
 ·exact ⟨‹_›,h⟩
 ·exact h.elim
theorem Zre (h:MS X io st (Z1v (o2 fa))):MS X io st (oS (wE fa Ztc)):=h.weak fun D δ h=>Zp4 h
theorem Ym (h:MS X io st (Z60 (o2 fa))):MS X io st (oS (wE fa Zar)):=h.weak fun D δ h=>Zp4 h
theorem Zh7 (h:MS X io st (Zty i)):MS X io st (oS (Zfw i)):=h.weak fun D δ h=>by
 unfold oS Zfw at h; unfold Zty
 split at h
 ·rename_i q; (try rw [q]); exact h
 ·exact h.elim
theorem Zbe (h:MS X io st (Z6z (o2 ta) (oS u) (oS w))):MS X io st (oS (Zc3 ta u w)):=h.weak fun D δ h=>by
 unfold oS Zc3 at h
 split at h
 ·rename_i b δ' q
  refine ⟨b,δ',q,?_⟩
  split at h
  ·rename_i hb; rw [if_pos hb]; exact h
  ·rename_i hb; rw [if_neg hb]; exact h
 ·exact h.elim
theorem Z8 (h:MS X io st (Z1z i (o2 fa))):MS X io st (oS (wE fa (Jb i))):=h.weak fun D δ h=>Zp4 h
theorem Zdj (h:MS X io st (Zr0 i (o2 fa))):MS X io st (oS (wE fa (Zdr i))):=h.weak fun D δ h=>Zp4 h
section
variable {n:Nat} {caps:List Nat} {o q:Nat} {it:FI} {gg:FG} {t:FT} {me:FE}
theorem Zyz (h:MS X io st (if false = true then Zr0 i (Zk3 n caps (o2 it) (oG gg) (o2 t) (o2 me)) else Z1z i (Zk3 n caps (o2 it) (oG gg) (o2 t) (o2 me)))):MS X io st (oS (wE (Jw n caps it gg t me) (Jb i))) :=
 h.weak fun D δ h=>by rw [if_neg Bool.false_ne_true]; exact Zvy (Zp4 h)
end
theorem Zf9 (h:MS X io st (Zjh i (o2 fa))):MS X io st (oS (Zah i fa)):=h.weak fun D δ h=>by
 unfold oS Zah at h; unfold Zjh
 split at h
 case h_2=>exact h.elim
 rename_i q; (try rw [q])
 refine (Zp4 h).imp fun r δ' z=>?_
 split at z
 ·rename_i q2; (try rw [q2]); exact Zj1 z
 ·exact z.elim
theorem Zvj (h:MS X io st (Z7v i (o2 fa) (o2 fb))):MS X io st (oS (Zzr i fa fb)):=h.weak fun D δ h=>by
 refine (Zp4 h).imp fun r δ' z=>?_
 split at z
 case h_2=>exact z.elim
 rename_i q; (try rw [q])
 refine (Zp4 z).imp fun n δ2 z=>?_
 split at z
 case h_2=>exact z.elim
 rename_i k q2; (try rw [q2])
 show match ixN _ k with | some j=>_ | none=>_
 split at z
 ·rename_i q3; (try rw [q3]); exact z
 ·exact z.elim
theorem Zeb (h:MS X io st (Z1m i (o2 fa) (o2 fb) (o2 fc))):MS X io st (oS (Zb3 i fa fb fc)):=h.weak fun D δ h=>by
 refine (Zp4 h).imp fun r δ' z=>?_
 split at z
 case h_2=>exact z.elim
 rename_i q; (try rw [q])
 refine (Zp4 z).imp fun n δ2 z=>?_
 split at z
 case h_2=>exact z.elim
 rename_i k q2; (try rw [q2])
 show match ixN _ k with | some j=>_ | none=>_
 split at z
 case h_2=>exact z.elim
 rename_i q3; (try rw [q3])
 try dsimp only
 split at z
 case h_2=>exact z.elim
 rename_i q4; (try rw [q4])
 refine (Zp4 z).imp fun n' δ3 z=>?_
 split at z
 case h_2=>exact z.elim
 rename_i k' q5; (try rw [q5])
 show match ixN _ k' with | some j=>_ | none=>_
 split at z
 ·rename_i q6; (try rw [q6]); exact z
 ·exact z.elim
theorem Zr9 (h:MS X io st (Zj4 i (oS u))):MS X io st (oS (Zh1 i u)):=h.weak fun D δ h=>by
 unfold oS Zh1 at h; unfold Zj4
 split at h
 ·rename_i q; (try rw [q]); exact h
 ·exact h.elim
theorem Ze5 {gg:FG} {d:PyData} {ds:List PyData} {δ:Zr}:forLoop gg u (d :: ds) δ = match gg d δ with
  | none=>.bad
  | some δ1=>match u δ1 with
   | .nx δ2=>forLoop gg u ds δ2
   | .ct δ2=>forLoop gg u ds δ2
   | .bk δ2=>.nx δ2
   | r=>r:=rfl
theorem Wd {it:FI} {gg:FG} (h:MS X io st (Z7h (o2 it) (oG gg) (oS u))):MS X io st (oS (Zaz it gg u)):=h.weak fun D δ h=>by
 unfold oS Zaz at h
 split at h
 case h_2=>exact h.elim
 rename_i ds δ1 q
 refine ⟨ds,δ1,q,fun i δ'=>(forLoop gg u (ds.drop i) δ').fits D,by show RS.fits D (forLoop gg u (ds.drop 0) δ1); rw [List.drop_zero]; exact h,fun i d δ' hd z=>?_,fun δ' z=>?_⟩
 ·obtain ⟨hi,hdi⟩:=List.getElem?_eq_some_iff.mp hd
  replace z:RS.fits D (forLoop gg u (ds.drop i) δ'):=z
  rw [List.drop_eq_getElem_cons hi,hdi,Ze5] at z
  split at z
  case h_1=>exact z.elim
  rename_i δ2 q2
  refine ⟨δ2,q2,?_⟩
  unfold oS
  cases q3:u δ2 <;> rw [q3] at z <;> (try rw [q3]) <;> exact z
 ·replace z:RS.fits D (forLoop gg u (ds.drop ds.length) δ'):=z
  rw [List.drop_length] at z; exact z
theorem Znr (h:MS X io st (Zvu (o2 ta) (oS u))):MS X io st (oS (Ziv ta u)):=h.weak fun D δ h=>by
 unfold oS Ziv at h
 split at h
 case isFalse=>exact h.elim
 rename_i hn
 refine ⟨fun n δ'=>(whileLoop ta u n δ').fits D,⟨_,h⟩,fun n δ' z=>?_⟩
 cases n with
 | zero=>exact z.elim
 | succ n =>
  unfold whileLoop at z
  split at z
  case h_1=>exact z.elim
  rename_i b δ1 q
  refine ⟨b,δ1,q,?_⟩
  split at z
  ·rename_i hb
   rw [if_pos hb]
   refine ⟨fun δ''=>(whileLoop ta u n δ'').fits D,fun δ'' y=>⟨n,Nat.lt_succ_self n,y⟩,?_⟩
   unfold oS
   cases q3:u δ1 <;> rw [q3] at z <;> exact z
  ·rename_i hb
   rw [if_neg hb]
   exact z
theorem Zfj {n m:Nat}:∀ {δ:Zr},whileLoop ta u n δ ≠ .bad→whileLoop ta u (n + m) δ = whileLoop ta u n δ:=by
 induction n with
 | zero=>intro δ h; exact absurd rfl h
 | succ n ih =>
  intro δ h
  rw [Nat.succ_add]
  unfold whileLoop at h ⊢
  cases q:ta δ with
  | none=>rfl
  | some x =>
   obtain ⟨b,δ1⟩:=x
   rw [q] at h
   try dsimp only at h ⊢
   split
   ·rename_i hb
    rw [if_pos hb] at h
    cases q3:u δ1 <;> rw [q3] at h <;> first | exact ih h | rfl
   ·rfl
theorem Zls {r:RS} {δ:Zr} (n:Nat) (h:whileLoop ta u n δ = r) (hr:r ≠ .bad):Ziv ta u δ = r:=by
 have hn:∃ n,whileLoop ta u n δ ≠ .bad:=⟨n,by rw [h]; exact hr⟩
 unfold Ziv
 rw [dif_pos hn]
 have h1:=Classical.choose_spec hn
 have e1:=Zfj (m:=n) h1
 have e2:=Zfj (m:=Classical.choose hn) (show whileLoop ta u n δ ≠ .bad by rw [h]; exact hr)
 rw [Nat.add_comm] at e2
 rw [← e1,e2,h]
theorem Zha {cn:Str}:MS X io st (oS (Znq cn)):=Zts.weak fun D δ h=>h
theorem XS.weak {m m':MXt} (h:XS X io st m) (w:∀ δ k,m' δ k→m δ k):XS X io st m':=fun C pins s σ H δ fp ex k I R hm=>h C pins s σ H δ fp ex k I R (w δ k hm)
theorem XSs.weak {m m':MXt} (h:XSs X io sts m) (w:∀ δ k,m' δ k→m δ k):XSs X io sts m':=fun C pins s σ H δ fp ex k I R hm=>h C pins s σ H δ fp ex k I R (w δ k hm)
class NoEx (f:FS):Prop where
 no:∀ δ cn δ',f δ ≠ .ex cn δ'
class NoExK (k:OT→Zr→RS):Prop where
 no:∀ r δ cn δ',k r δ ≠ .ex cn δ'
theorem Zog (f:FS) [NoEx f]:XSs X io sts (xS X.K f):=Zsr.weak fun δ k ⟨cn,_,δ',h,_⟩=>(NoEx.no δ cn δ' h).elim
instance nx_kRet_k:NoExK Zar:=⟨fun _ _ _ _ h=>by cases h⟩
instance nx_kSetO_k:NoExK (Zdr i):=⟨fun _ _ _ _ h=>by cases h⟩
instance nx_wE {k:OT→Zr→RS} [NoExK k]:NoEx (wE fa k):=⟨fun δ cn δ' h=>by
 unfold wE at h
 split at h
 ·exact NoExK.no _ _ _ _ h
 ·cases h⟩
instance nx_fSeq [NoEx f] [NoEx g]:NoEx (Yj f g):=⟨fun δ cn δ' h=>by
 unfold Yj at h
 split at h
 ·exact NoEx.no _ _ _ h
 ·exact NoEx.no _ _ _ h⟩
instance nx_fNx:NoEx fNx:=⟨fun _ _ _ h=>by cases h⟩
instance nx_fRetO:NoEx (Zfw i):=⟨fun _ _ _ h=>by unfold Zfw at h; split at h <;> cases h⟩
theorem Zyo {k:OT→Zr→RS} {δ:Zr} (n:∀ r δ cn δ',k r δ ≠ .ex cn δ') {cn:Str} {δ':Zr} (h:wE fa k δ = .ex cn δ'):False:=by
 unfold wE at h
 split at h
 ·exact n _ _ _ _ h
 ·cases h
instance nx_fAppend:NoEx (Zah i fa):=⟨fun δ cn δ' h=>by
 unfold Zah at h
 split at h
 ·exact Zyo (fun r δ1 _ _ z=>by
   split at z
   ·split at z <;> cases z
   ·cases z) h
 ·cases h⟩
theorem Zeq [NoEx u] {gg:FG} {cn:Str} {δ':Zr}:∀ (ds:List PyData) (δ:Zr),forLoop gg u ds δ ≠ .ex cn δ'
 | [],δ=>fun h=>by cases h
 | d :: ds,δ=>fun h=>by
  rw [Ze5] at h
  split at h
  ·cases h
  ·split at h
   ·exact Zeq ds _ h
   ·exact Zeq ds _ h
   ·cases h
   ·exact NoEx.no _ _ _ h
instance nx_fFor [NoEx u] {it:FI} {gg:FG}:NoEx (Zaz it gg u):=⟨fun δ cn δ' h=>by
 unfold Zaz at h
 split at h
 ·exact Zeq _ _ h
 ·cases h⟩
theorem Zom {cn:Str} {C:Addr} (hc:ClsAt X.K cn C) (h:XS X io st (Zrs C)):XS X io st (xS X.K (Znq cn)):=h.weak fun δ k z=>by
 obtain ⟨c',C',δ',h,k1,k2⟩:=z
 cases h
 have:=k1.symm.trans hc
 injection this with this; injection this with this; injection this with this
 subst this
 exact k2
theorem Zvz (h1:XS X io st (xS X.K f)) (m1:MS X io st (oS f)) (h2:XSs X io sts (xS X.K g)) (hx:X.xe = fun _ _=>False:=by rfl):XSs X io (st :: sts) (xS X.K (Yj f g)):=by
 intro C pins s σ H δ fp ex k I R hm
 obtain ⟨cn,C',δ',h,k1,k2⟩:=hm
 unfold Yj at h
 split at h
 ·rename_i δ1 q
  exact Zuz m1 h2 hx C pins s σ H δ fp ex k I R (by
   show (f δ).fits _
   (try rw [q])
   exact ⟨cn,C',δ',h,k1,k2⟩)
 ·exact Zon h1 C pins s σ H δ fp ex k I R ⟨cn,C',δ',h,k1,k2⟩
theorem Zr3 (h1:XS X io st (xS X.K f)):XSs X io [st] (xS X.K f):=Zon h1
theorem Z39 {a b:List Stmt} {pos:Pos} (h:XS X io (.If e a b pos) (Z74 (o2 ta) (xS X.K u) (xS X.K w))):XS X io (.If e a b pos) (xS X.K (Zc3 ta u w)):=h.weak fun δ k z=>by
 obtain ⟨cn,C',δ',h,k1,k2⟩:=z
 unfold Zc3 at h
 split at h
 case h_2=>cases h
 rename_i b δ1 q
 refine ⟨b,δ1,q,?_⟩
 split at h
 ·rename_i hb; rw [if_pos hb]; exact ⟨cn,C',δ',h,k1,k2⟩
 ·rename_i hb; rw [if_neg hb]; exact ⟨cn,C',δ',h,k1,k2⟩
end
section
variable {P:Program} {w:World} {K:PySem.W.Frag} {mg:Str→Option Value} {base:Heap} {x qual:Str} {st:Stmt} {f:Addr} {fd:FuncData} {N ps:List Str} {n np nn:Nat} {S:FS}
theorem RS.told_fits {r:RS} {o:OT} {k:OT→Prop} (h:r.told = .ok o) (hk:k o):r.fits (Zyb k):=by
 cases r <;> unfold RS.told at h <;> first | (cases h; exact hk) | cases h
theorem Ws (F:Fun K x qual st f fd) (Sc:Z3 N ps (Zi st)) (hN:N.length = nn) (hp:np = ps.length)
  (hb:∀ (cdv:Value) (A:Around) (outer:List Env) (s:Shared) (H:Hp) (E:XK),Room n (A.deeper (envOfC qual (Zi st) s.heap.objs.size f cdv))→MSs (Zp7 CX0 P w K mg base N qual (Zi st) f cdv A outer s H E).nox [] (Z1 st) (oS S)) :
  FnOk P w K mg base CX0 (n + 1) f fd ps (spD K (sD (Zdi np nn S))):=by
 subst hN hp
 refine F.okD Sc (fun ds k h=>?_) fun cdv A outer s H E hr=>⟨_,hb cdv A outer s H E hr,fun ds k h=>?_⟩
 ·obtain ⟨r,h,_⟩:=h
  unfold Zdi at h
  split at h
  ·assumption
  ·cases h
 ·obtain ⟨r,h,hk⟩:=h
  unfold Zdi at h
  split at h
  ·exact RS.told_fits h hk
  ·cases h
theorem Zwi (F:Fun K x qual st f fd) (Sc:Z3 N ps (Zi st)) (hN:N.length = nn) (hp:np = ps.length)
  (hb:∀ (cdv:Value) (A:Around) (outer:List Env) (s:Shared) (H:Hp) (E:XK),Room n (A.deeper (envOfC qual (Zi st) s.heap.objs.size f cdv))→XSs (Zp7 (CX1 P w) P w K mg base N qual (Zi st) f cdv A outer s H E).nox [] (Z1 st) (xS K S)) :
  FnOk P w K mg base (CX1 P w) (n + 1) f fd ps (spX K (sX K (Zdi np nn S))):=by
 subst hN hp
 refine F.okX Sc (fun ds cl h=>?_) fun cdv A outer s H E hr=>⟨_,hb cdv A outer s H E hr,fun ds cl h=>?_⟩
 ·obtain ⟨r,h,_⟩:=h
  unfold Zdi at h
  split at h
  ·assumption
  ·cases h
 ·obtain ⟨c,h,hc⟩:=h
  unfold Zdi at h
  split at h
  case isFalse=>cases h
  have e:Zep N.length ds = Ziq N ds:=rfl
  rw [e] at h
  cases q:S (Ziq N ds) <;> rw [q] at h <;> unfold RS.told at h <;> cases h
  exact ⟨_,cl,_,q,hc,rfl⟩
theorem Zgo (F:Fun K x qual st f fd) (Sc:Z3 N ps (Zi st)) (hN:N.length = nn) (hp:np = ps.length)
  (hb:∀ (cdv:Value) (A:Around) (outer:List Env) (s:Shared) (H:Hp) (E:XK),Room n (A.deeper (envOfC qual (Zi st) s.heap.objs.size f cdv))→MSs (Zp7 CX0 P w K mg base N qual (Zi st) f cdv A outer s H E).nox [0] (Z1 st) (oS S)) :
  FnOk P w K mg base CX0 (n + 1) f fd ps (spI K (sI (Zns np nn S))):=by
 subst hN hp
 refine F.okI Sc (fun t ds k h=>?_) fun cdv A outer s H E hr=>⟨_,hb cdv A outer s H E hr,fun t ds k h=>?_⟩
 ·obtain ⟨r,t',h,_⟩:=h
  unfold Zns at h
  split at h
  ·assumption
  ·cases h
 ·obtain ⟨r,t',h,hk⟩:=h
  unfold Zns at h
  split at h
  case isFalse=>cases h
  have e:Zjp N.length t ds = Zhx N t ds:=rfl
  rw [e] at h
  show (S (Zhx N t ds)).fits (Zxs k)
  cases q:S (Zhx N t ds) <;> rw [q] at h <;> unfold RS.toldI at h <;> first | cases h | skip
  ·rename_i δ
   show match δ[0]? with | some (some t)=>k (.fz .none) t | _=>False
   dsimp only at h
   split at h
   ·rename_i z; (try rw [z]); cases h; exact hk
   ·cases h
  ·rename_i r' δ
   show match δ[0]? with | some (some t)=>k r' t | _=>False
   dsimp only at h
   split at h
   ·rename_i z; (try rw [z]); cases h; exact hk
   ·cases h
end
end L2
namespace L2
open PySem PySem.Spec PyProof.Rows
noncomputable def i2 (g:Int→Int→PyData):PyData→PyData→Option PyData:=fun d e=>match d,e with | .int i,.int j=>some (g i j) | _,_=>none
noncomputable def i2c (c:Int→Int→Bool) (g:Int→Int→PyData):PyData→PyData→Option PyData:=fun d e=>match d,e with | .int i,.int j=>if c i j = true then some (g i j) else none | _,_=>none
theorem Zpf {g:Int→Int→PyData}:ByS (i2 g) (Zun g):=fun d e r k h hk=>by
 unfold i2 at h
 split at h
 ·cases h; exact hk
 ·cases h
theorem Zin {c:Int→Int→Bool} {C:Int→Int→Prop} {g:Int→Int→PyData} (hc:∀ i j,c i j = true→C i j):ByS (i2c c g) (d2I C g):=fun d e r k h hk=>by
 unfold i2c at h
 split at h
 ·split at h
  ·cases h; exact ⟨hc _ _ ‹_›,hk⟩
  ·cases h
 ·cases h
noncomputable def Z0c (a b:Int):Bool:=!(decide (Builtin.Int.intBits a > shortFactorBits) && decide (Builtin.Int.intBits b > shortFactorBits) && Builtin.Int.intTooBig (Builtin.Int.intBits a + Builtin.Int.intBits b))
noncomputable def Z0g (_ j:Int):Bool:=decide (j ≠ 0) && decide (j.natAbs.log2 < 9000)
noncomputable def Z71 (_ j:Int):Bool:=decide (j ≠ 0)
noncomputable def Z78 (i j:Int):Bool:=decide (0 ≤ j∧j ≤ 1000000∧i.natAbs < 2 ^ 64)
theorem Zjr {a b:Int}:Z0c a b = true ↔ IntMulOk a b:=by
 unfold Z0c IntMulOk
 rw [Bool.not_eq_true',Bool.not_eq_true]
noncomputable def Zc6:=i2 fun i j=>.int (i + j)
noncomputable def gSb:=i2 fun i j=>.int (i - j)
noncomputable def Zic:=i2c Z0c fun i j=>.int (i * j)
noncomputable def Zdf:=i2c Z0g fun i j=>.int (i.fdiv j)
noncomputable def Zjt:=i2c Z71 fun i j=>.int (i.fmod j)
noncomputable def Zg4:=i2c Z78 fun i j=>.int (i ^ j.toNat)
noncomputable def gLt:=i2 fun i j=>.bool (decide (i < j))
noncomputable def gGt:=i2 fun i j=>.bool (decide (j < i))
noncomputable def gGe:=i2 fun i j=>.bool (decide (j ≤ i))
theorem Zbc:ByS Zc6 (Zun fun i j=>.int (i + j)):=Zpf
theorem Zl5:ByS gSb (Zun fun i j=>.int (i - j)):=Zpf
theorem Zhn:ByS Zic (d2I MulOk fun i j=>.int (i * j)):=Zin fun i j h=>⟨Zjr.mp h⟩
theorem Zgv:ByS Zdf (d2I Z7f fun i j=>.int (i.fdiv j)):=Zin fun i j h=>⟨by
 unfold Z0g at h
 rw [Bool.and_eq_true] at h
 exact ⟨of_decide_eq_true h.1,of_decide_eq_true h.2⟩⟩
theorem Zsk:ByS Zjt (d2I (fun _ j=>j ≠ 0) fun i j=>.int (i.fmod j)):=Zin fun i j h=>of_decide_eq_true h
theorem Zgy:ByS Zg4 (d2I Z4f fun i j=>.int (i ^ j.toNat)):=Zin fun i j h=>⟨(of_decide_eq_true h:0 ≤ j∧j ≤ 1000000∧i.natAbs < 2 ^ 64)⟩
theorem Z8f:ByS gLt (Zun fun i j=>.bool (decide (i < j))):=Zpf
theorem Z0b:ByS gGt (Zun fun i j=>.bool (decide (j < i))):=Zpf
theorem Z8i:ByS gGe (Zun fun i j=>.bool (decide (j ≤ i))):=Zpf
noncomputable def gEq:PyData→PyData→Option PyData:=fun d e=>if (SeqAt.shaped d && SeqAt.shaped e) = true then some (.bool (PyData.eqv d e)) else none
noncomputable def gNe:PyData→PyData→Option PyData:=fun d e=>if (SeqAt.shaped d && SeqAt.shaped e) = true then some (.bool (!PyData.eqv d e)) else none
theorem Zpu:ByS gEq dEq:=fun d e r k h hk=>by
 unfold gEq at h
 split at h
 ·rename_i q
  rw [Bool.and_eq_true] at q
  cases h
  exact ⟨⟨q.1⟩,⟨q.2⟩,hk⟩
 ·cases h
theorem Zp9:ByS gNe dNe:=fun d e r k h hk=>by
 unfold gNe at h
 split at h
 ·rename_i q
  rw [Bool.and_eq_true] at q
  cases h
  exact ⟨⟨q.1⟩,⟨q.2⟩,hk⟩
 ·cases h
noncomputable def gIs:PyData→PyData→Option PyData:=fun d e=>match e with | .none=>some (.bool (Zfm d)) | _=>none
noncomputable def Zi1:PyData→PyData→Option PyData:=fun d e=>match e with | .none=>some (.bool (!Zfm d)) | _=>none
theorem Z4k:ByS gIs Z7d:=fun d e r k h hk=>by
 unfold gIs at h
 split at h
 ·cases h; exact ⟨rfl,hk⟩
 ·cases h
theorem Zr1:ByS Zi1 Z2v:=fun d e r k h hk=>by
 unfold Zi1 at h
 split at h
 ·cases h; exact ⟨rfl,hk⟩
 ·cases h
noncomputable def gIx:PyData→PyData→Option OT:=fun d e=>(ixD d e).bind fun x=>some (.fz x)
theorem Za5:ByO gIx dIx:=fun d e r k h hk=>by
 obtain ⟨x,h1,h2⟩:=bs h
 cases h2
 unfold dIx
 rw [h1]
 exact hk
noncomputable def Zp2:PyData→PyData→Option OT:=fun d e=>match d,e with | .list ds,.list es=>if ds.length + es.length ≤ sizeLine then some (.nd ((ds ++ es).map OT.fz)) else none | _,_=>none
theorem Zm8:ByO Zp2 dCat:=fun d e r k h hk=>by
 unfold Zp2 at h
 split at h
 ·split at h
  ·cases h; exact ⟨‹_›,hk⟩
  ·cases h
 ·cases h
noncomputable def Zft:List PyData→Option PyData:=fun ds=>match ds with | [d]=>(Zt5 d).bind fun n=>some (.int n) | _=>none
theorem Zfc:∀ ds r k,Zft ds = some r→k r→Z61 ds k:=fun ds r k h hk=>by
 unfold Zft at h
 split at h
 ·obtain ⟨n,h1,h2⟩:=bs h
  cases h2
  show match Zt5 _ with | some n=>_ | none=>_
  rw [h1]
  exact hk
 ·cases h
noncomputable def Zl9:List PyData→Option PyData:=fun ds=>match ds with | [.int i]=>some (.int (if i < 0 then -i else i)) | _=>none
theorem Zjo:∀ ds r k,Zl9 ds = some r→k r→Z7u ds k:=fun ds r k h hk=>by
 unfold Zl9 at h
 split at h
 ·cases h; exact hk
 ·cases h
noncomputable def Z3c:List PyData→Option PyData:=fun ds=>match ds with | [.int i,.int j]=>some (.int (if j < i then j else i)) | _=>none
theorem Z6s:∀ ds r k,Z3c ds = some r→k r→Z7p ds k:=fun ds r k h hk=>by
 unfold Z3c at h
 split at h
 ·cases h; exact hk
 ·cases h
noncomputable def Z0f:List PyData→Option PyData:=fun ds=>match ds with | [.int i]=>some (.int i) | [.bool b]=>some (.int (if b then 1 else 0)) | _=>none
theorem Z2o:∀ ds r k,Z0f ds = some r→k r→Z69 ds k:=fun ds r k h hk=>by
 unfold Z0f at h
 split at h
 ·cases h; exact hk
 ·cases h; exact hk
 ·cases h
noncomputable def Zrd:List PyData→Option OT:=fun ds=>match ds with | [d]=>(Zrf d).bind fun es=>some (.nd (es.map OT.fz)) | _=>none
theorem Z0l:∀ ds r k,Zrd ds = some r→k r→Z1w ds k:=fun ds r k h hk=>by
 unfold Zrd at h
 split at h
 ·obtain ⟨n,h1,h2⟩:=bs h
  cases h2
  show match Zrf _ with | some n=>_ | none=>_
  rw [h1]
  exact hk
 ·cases h
noncomputable def Zpt:List PyData→Option (List Int)
 | []=>some []
 | .int i :: r=>(Zpt r).bind fun l=>some (i :: l)
 | _ :: _=>none
theorem Zoe:∀ {ds:List PyData} {ns:List Int},Zpt ds = some ns→ds = ns.map PyData.int
 | [],_,h=>by cases h; rfl
 | .int i :: r,_,h=>by
  obtain ⟨l,h1,h2⟩:=bs h
  cases h2
  rw [Zoe h1]; rfl
 | .none :: _,_,h=>by cases h
 | .bool _ :: _,_,h=>by cases h
 | .str _ :: _,_,h=>by cases h
 | .list _ :: _,_,h=>by cases h
 | .tuple _ :: _,_,h=>by cases h
 | .dict _ :: _,_,h=>by cases h
@[simp] theorem Zkn:∀ ns:List Int,Zpt (ns.map PyData.int) = some ns
 | []=>rfl
 | n :: ns=>by rw [List.map_cons,Zpt,Zkn ns]; rfl
section
variable {X:Cx} {io:List Nat} {p c:Bool} {e tg:Expr} {es:List Expr} {st:Stmt} {fa fb fc:FE} {ra:FA} {i:Nat}
noncomputable def Zz8 (a:FA):FE:=fun δ=>(a δ).bind fun p=>match OT.datas p.1 with | [.int j]=>if rOk j = true∧j.toNat ≤ sizeLine then some (.nd ((Zc4 0 j.toNat).map OT.fz),p.2) else none | _=>none
theorem Z1l (h:ME X io p c e (Z77 (o2 ra))):ME X io p c e (o2 (Zz8 ra)):=h.weak fun δ K h=>by
 obtain ⟨r,δ',h,k⟩:=h
 obtain ⟨⟨x,δ1⟩,h1,h⟩:=bs h
 refine ⟨x,δ1,h1,?_⟩
 dsimp only at h
 split at h
 case h_2=>cases h
 rename_i q
 split at h
 case isFalse=>cases h
 rename_i b
 cases h
 (try rw [q])
 exact ⟨⟨(Zfp b.1).1,(Zfp b.1).2,b.2⟩,k⟩
noncomputable def Zkd (a:FA):FE:=fun δ=>(a δ).bind fun p=>match OT.datas p.1 with | [.list es]=>(Zpt es).bind fun ns=>if ns.length < 4095 then some (.fz (.int (Zqn ns)),p.2) else none | _=>none
theorem Zs5 (h:ME X io p c e (Zsb (o2 ra))):ME X io p c e (o2 (Zkd ra)):=h.weak fun δ K h=>by
 obtain ⟨r,δ',h,k⟩:=h
 obtain ⟨⟨x,δ1⟩,h1,h⟩:=bs h
 refine ⟨x,δ1,h1,?_⟩
 dsimp only at h
 split at h
 case h_2=>cases h
 rename_i q
 obtain ⟨ns,h2,h⟩:=bs h
 split at h
 case isFalse=>cases h
 cases h
 (try rw [q])
 exact ⟨ns,by rw [Zoe h2],‹_›,k⟩
end
end L2
namespace L2
open PySem PySem.Spec PyProof.Rows
variable {G:PySem.W.Frag}
section
variable {X:Cx} {io:List Nat} {p c:Bool} {e a b:Expr} {es:List Expr} {m ma mb:MEt} {mr:MAt} {pos apos cpos px py pt sp kp:Pos} {i j:Nat} {x y:Str} {fa fb:FE} {ra:FA} {st:Stmt}
noncomputable def Z33 (m:MAt):MEt:=fun δ K=>m δ fun rs δ'=>rs.length ≤ sizeLine∧K (.tp rs) δ'
theorem Z0n {x1} (h:MA X io p c es mr):ME X io p c (.Tuple es x1 pos) (Z33 mr):=by
 obtain ⟨tA,A,sa⟩:=h
 refine ⟨_,Zvx A,fun C H σ δ fp ex K Q R h k=>?_⟩
 refine sa C H σ δ fp ex _ _ R h fun H1 vs rs δ1 fp1 new1 r1 h1=>⟨by rw [r1.own.length]; exact h1.1,fun q hq=>?_⟩
 have s:=Y9 hq (.tup vs)
 have S:=r1.stp.trans (p':=true) (Stp.same (p:=true) (δ:=δ1) (fp:=fp1) s s.al)
 rw [Bool.and_true] at S
 exact k _ _ _ δ1 fp1 new1 ⟨(r1.rel.made (new:=[]) s fun a m=>nomatch m).drop fun a z=>.inl z,S,.tp Y5 (r1.own.same s),r1.nd,r1.fresh⟩ h1.2
noncomputable def Zug (a:FA):FE:=fun δ=>(a δ).bind fun p=>if p.1.length ≤ sizeLine then some (.tp p.1,p.2) else none
theorem Zw2 (h:ME X io p c e (Z33 (o2 ra))):ME X io p c e (o2 (Zug ra)):=h.weak fun δ K h=>by
 obtain ⟨r,δ',h,k⟩:=h
 obtain ⟨⟨x,δ1⟩,h1,h⟩:=bs h
 refine ⟨x,δ1,h1,?_⟩
 dsimp only at h
 split at h
 ·rename_i q; cases h; exact ⟨q,k⟩
 ·cases h
end
class NoStar (e:Expr):Prop where
 h:∀ es env,starEach (e :: es) env = (false,eval e env) :: starEach es env
instance nx_Name {x:Str} {p:Pos}:NoStar (.Name x p):=⟨fun _ _=>rfl⟩
instance nx_Constant {x k} {p:Pos}:NoStar (.Constant x k p):=⟨fun _ _=>rfl⟩
instance nx_BinOp {a o b} {p:Pos}:NoStar (.BinOp a o b p):=⟨fun _ _=>rfl⟩
instance nx_Compare {a o b} {p:Pos}:NoStar (.Compare a o b p):=⟨fun _ _=>rfl⟩
instance nx_Call {f a k} {p:Pos}:NoStar (.Call f a k p):=⟨fun _ _=>rfl⟩
instance nx_List {a} {p:Pos}:NoStar (.List a p):=⟨fun _ _=>rfl⟩
instance nx_Tuple {a k} {p:Pos}:NoStar (.Tuple a k p):=⟨fun _ _=>rfl⟩
instance nx_Subscript {a b} {p:Pos}:NoStar (.Subscript a b p):=⟨fun _ _=>rfl⟩
instance nx_ListComp {a b s} {p:Pos}:NoStar (.ListComp a b s p):=⟨fun _ _=>rfl⟩
theorem Za {X:Cx} {io:List Nat} {p p' c c' p2 c2:Bool} {e:Expr} {es:List Expr} {fa:FE} {ra:FA} [NoStar e] (ha:ME X io p c e (o2 fa)) (hr:MA X io p' c' es (o2 ra)) (hc:p' = true∨c = true:=by first | exact Or.inl rfl | exact Or.inr rfl) (h2:(p && p') = p2:=by rfl) (h3:(c && c') = c2:=by rfl):MA X io p2 c2 (e :: es) (o2 (Ze fa ra)) :=
 h2 ▸ h3 ▸ Zyy (Zx8 ha hr hc (NoStar.h es X.env))
theorem Yo {X:Cx} {io:List Nat} {p p' c c':Bool} {e:Expr} {m:MEt} (h:ME X io p c e m) (h2:p = p':=by rfl) (h3:c = c':=by rfl):ME X io p' c' e m:=h2 ▸ h3 ▸ h
end L2
namespace L2
open PySem PySem.Spec PyProof.Rows
variable {G:PySem.W.Frag}
section
variable {X:Cx} {io:List Nat} {p c:Bool} {e a b:Expr} {es:List Expr} {m ma mb:MEt} {mr:MAt} {pos apos cpos px py pt sp kp:Pos} {i j:Nat} {x y:Str} {fa fb:FE} {ra:FA} {st:Stmt} {u:FS}
noncomputable def Z4n:=i2c Z78 fun i j=>.int (i * 2 ^ j.toNat)
noncomputable def Z04:=i2c (fun _ j=>decide (0 ≤ j)) fun i j=>.int (i / 2 ^ j.toNat)
noncomputable def Z4i:=i2 fun i j=>.int (Builtin.bitAnd i j)
theorem Z1p {f:Int→Int→Int}:P2s G (rI Z0e fun i j=>.int (f i j)) (d2I Z4f fun i j=>.int (f i j)):=Zdu
theorem Z57:ByS Z4n (d2I Z4f fun i j=>.int (i * 2 ^ j.toNat)):=Zin fun i j h=>⟨(of_decide_eq_true h:0 ≤ j∧j ≤ 1000000∧i.natAbs < 2 ^ 64)⟩
theorem Z1u:ByS Z04 (d2I (fun _ j=>0 ≤ j) fun i j=>.int (i / 2 ^ j.toNat)):=Zin fun i j h=>of_decide_eq_true h
theorem Z19:ByS Z4i (Zun fun i j=>.int (Builtin.bitAnd i j)):=Zpf
end
end L2
namespace L2
open PySem PySem.Spec PyProof.Rows
structure Gives (P:Program) (w:World) (it:Addr) (f:List Addr) (St:Heap→Prop) (x:Value) (St':Heap→Prop):Prop where
 mem:it ∈ f
 run:∀ {A:Around} {E:Value→Shared→Prop} {s:Shared} {Q:Value→Shared→Prop},St s.heap→(∀ h',St' h'→Heap.SameBut it s.heap h'→Q x { s with heap:=h' })→wpAny (model P w) A (Builtin.SmallTypes.nextOf (.ref it)) Q E s
 keep:∀ h h',(∀ c ∈ f,∀ o,h.get? c = some o→h'.get? c = some o)→St h→St h'
 keep':∀ h h',(∀ c ∈ f,∀ o,h.get? c = some o→h'.get? c = some o)→St' h→St' h'
structure Ziz (P:Program) (w:World) (it:Addr) (f:List Addr) (St:Heap→Prop):Prop where
 mem:it ∈ f
 run:∀ {A:Around} {E:Value→Shared→Prop} {s:Shared} {Q:Value→Shared→Prop},A.handled = none→St s.heap→(∀ h' e,Heap.ExtBut it s.heap h'→(∃ o,h'.get? e = some o∧o.cls = .type "StopIteration")→E (.ref e) { s with heap:=h' })→wpAny (model P w) A (Builtin.SmallTypes.nextOf (.ref it)) Q E s
 keep:∀ h h',(∀ c ∈ f,∀ o,h.get? c = some o→h'.get? c = some o)→St h→St h'
structure ZA (z TI TO i1 i2:Addr) (f1 f2:List Addr):Prop where
 TIz:TI ≠ z
 TOz:TO ≠ z
 a1:∀ c ∈ f1,c ≠ z∧c ≠ TO∧c ≠ i2
 a2:∀ c ∈ f2,c ≠ z∧c ≠ TO∧c ≠ i1
section
variable {P:Program} {w:World} {A:Around} {E:Value→Shared→Prop} {s:Shared}
theorem Zjn {T:Addr} {a b x:Value} {k:Nat} {Q:Unit→Shared→Prop} (hT:IsPair s.heap T a b) (h:∀ h',h'.get? T = some { cls:=.type "tuple", data:=.seq ((#[a,b]:Array Value).setIfInBounds k x) }→Heap.SameBut T s.heap h'→Q () { s with heap:=h' }) :
  wpAny (model P w) A (updateSeq T (·.setIfInBounds k x)) Q E s:=wpAny_updateSeq_pair hT h
theorem Zra {z TI TO i1 i2:Addr} {f1 f2:List Addr} {S1 T1 S2 T2:Heap→Prop} {x y a b:Value} {Q:Value→Shared→Prop} (D:ZA z TI TO i1 i2 f1 f2) (G1:Gives P w i1 f1 S1 x T1) (G2:Gives P w i2 f2 S2 y T2)
  (hz:IsZip s.heap z TI TO .none) (hTI:IsPair s.heap TI (.ref i1) (.ref i2)) (hTO:IsPair s.heap TO a b) (h1:S1 s.heap) (h2:S2 s.heap)
  (hQ:∀ h',IsZip h' z TI TO (rawInt s.heap.objs.size)→IsPair h' TO x y→T1 h'→T2 h'→IsPair h' s.heap.objs.size x y →
   (∀ c o,c ∉ [z,TO,i1,i2]→s.heap.get? c = some o→h'.get? c = some o)→Q (.ref s.heap.objs.size) { s with heap:=h' }) :
  wpAny (model P w) A (Builtin.«zip.__next__» ⟨[.ref z],[]⟩) (fun fin s'=>∃ v,fin = .done (.ret v)∧Q v s') E s:=by
 obtain ⟨i1z,i1O,i12⟩:=D.a1 i1 G1.mem
 obtain ⟨i2z,i2O,i21⟩:=D.a2 i2 G2.mem
 have r1:z ∉ f1∧TO ∉ f1∧i2 ∉ f1:=⟨fun m=>(D.a1 z m).1 rfl,fun m=>(D.a1 TO m).2.1 rfl,fun m=>(D.a1 i2 m).2.2 rfl⟩
 have r2:z ∉ f2∧TO ∉ f2∧i1 ∉ f2:=⟨fun m=>(D.a2 z m).1 rfl,fun m=>(D.a2 TO m).2.1 rfl,fun m=>(D.a2 i1 m).2.2 rfl⟩
 have st:∀ {b:Addr} {h h':Heap} {f:List Addr},Heap.SameBut b h h'→b ∉ f→∀ c ∈ f,∀ o,h.get? c = some o→h'.get? c = some o:=fun sb hb c hc o e=>sb.extBut _ _ (fun q=>hb (q ▸ hc)) e
 show wpAny _ _ (field (.ref z) 2 >>= _) _ _ _
 refine wpAny_bind (wpAny_field hz rfl (x:=.bool false) rfl ?_)
 show wpAny _ _ (field (.ref z) 3 >>= _) _ _ _
 refine wpAny_bind (wpAny_field hz rfl (x:=.ref TI) rfl (wpAny_bind (wpAny_seqItems hTI rfl ?_)))
 show wpAny _ _ (Builtin.SmallTypes.ownedTupleIsFree (.ref z) >>= _) _ _ _
 refine wpAny_bind ?_
 unfold Builtin.SmallTypes.ownedTupleIsFree
 refine wpAny_bind (wpAny_field hz rfl (x:=.none) rfl (wpAny_pure ?_))
 simp only [if_true]
 refine wpAny_bind (wpAny_rule (wpAny_bind (wpAny_field hz rfl (x:=.ref TO) rfl (wpAny_bind (wpAny_setField_rec hz (by simp) fun h3 z3 b3=>?_)))))
 replace z3:IsZip h3 z TI TO .ellipsis:=z3
 refine wpAny_bind ?_
 simp only [List.zipIdx_cons,List.zipIdx_nil,List.forIn_cons,List.forIn_nil]
 refine wpAny_bind (wpAny_bind (wpAny_onRaise ?_))
 show wpAny _ _ (Builtin.SmallTypes.nextOf (.ref i1) >>= _) _ _ _
 refine wpAny_bind (G1.run (s:={ s with heap:=h3 }) (G1.keep _ _ (st b3 r1.1) h1) fun h4 k4 b4=>wpAny_pure ?_)
 have o4:IsPair h4 TO a b:=b4.extBut _ _ i1O.symm (b3.extBut _ _ D.TOz hTO)
 refine wpAny_bind (wpAny_seqItems o4 rfl (wpAny_bind (Zjn (s:={ s with heap:=h4 }) o4 fun h5 o5 b5=>wpAny_bind (wpAny_letGo (wpAny_pure ?_)))))
 replace o5:IsPair h5 TO x b:=o5
 refine wpAny_bind (wpAny_bind (wpAny_onRaise ?_))
 show wpAny _ _ (Builtin.SmallTypes.nextOf (.ref i2) >>= _) _ _ _
 refine wpAny_bind (G2.run (s:={ s with heap:=h5 }) (G2.keep _ _ (st b5 r2.2.1) (G2.keep _ _ (st b4 r2.2.2) (G2.keep _ _ (st b3 r2.1) h2))) fun h6 k6 b6=>wpAny_pure ?_)
 have o6:IsPair h6 TO x b:=b6.extBut _ _ i2O.symm o5
 refine wpAny_bind (wpAny_seqItems o6 rfl (wpAny_bind (Zjn (s:={ s with heap:=h6 }) o6 fun h7 o7 b7=>wpAny_bind (wpAny_letGo (wpAny_pure (wpAny_pure ?_))))))
 replace o7:IsPair h7 TO x y:=o7
 refine wpAny_bind (wpAny_seqItems o7 rfl (wpAny_bind (wpAny_newTuple ?_)))
 have sz:h7.objs.size = s.heap.objs.size:=by rw [b7.1,b6.1,b5.1,b4.1,b3.1]
 have z7:IsZip h7 z TI TO .ellipsis:=b7.extBut _ _ D.TOz.symm (b6.extBut _ _ i2z.symm (b5.extBut _ _ D.TOz.symm (b4.extBut _ _ i1z.symm z3)))
 have t1:T1 h7:=G1.keep' _ _ (st b7 r1.2.1) (G1.keep' _ _ (st b6 r1.2.2) (G1.keep' _ _ (st b5 r1.2.1) k4))
 have t2:T2 h7:=G2.keep' _ _ (st b7 r2.2.1) k6
 have old:∀ c o,c ∉ [z,TO,i1,i2]→s.heap.get? c = some o→h7.get? c = some o:=fun c o n e=>by
  simp only [List.mem_cons,List.not_mem_nil,or_false,not_or] at n
  exact b7.extBut _ _ n.2.1 (b6.extBut _ _ n.2.2.2 (b5.extBut _ _ n.2.1 (b4.extBut _ _ n.2.2.1 (b3.extBut _ _ n.1 e))))
 show wpAny _ _ (Builtin.SmallTypes.ownedTupleHandOut (.ref z) (.ref h7.objs.size) >>= _) _ _ _
 refine wpAny_bind ?_
 unfold Builtin.SmallTypes.ownedTupleHandOut
 have zp:IsZip (h7.push { cls:=.type "tuple", data:=.seq #[x,y] }) z TI TO .ellipsis:=Heap.get?_push_of_some _ z7
 refine wpAny_bind (wpAny_setField_rec zp (by simp) fun h8 z8 b8=>?_)
 replace z8:IsZip h8 z TI TO (rawInt h7.objs.size):=z8
 refine wpAny_setField_rec z8 (by simp) fun h9 z9 b9=>?_
 replace z9:IsZip h9 z TI TO (rawInt h7.objs.size):=z9
 have up:∀ c o,c ≠ z→h7.get? c = some o→h9.get? c = some o:=fun c o n e=>b9.extBut _ _ n (b8.extBut _ _ n (Heap.get?_push_of_some _ e))
 have nz:h7.objs.size ≠ z:=Nat.ne_of_gt (Heap.lt_size z7)
 have p9:IsPair h9 h7.objs.size x y:=b9.extBut _ _ nz (b8.extBut _ _ nz (Heap.get?_push_size _ rfl))
 refine wpAny_pure ⟨_,rfl,?_⟩
 show Q (.ref h7.objs.size) _
 rw [sz] at z9 p9 ⊢
 exact hQ h9 z9 (up _ _ D.TOz o7) (G1.keep' _ _ (fun c hc o e=>up c o (fun q=>r1.1 (q ▸ hc)) e) t1) (G2.keep' _ _ (fun c hc o e=>up c o (fun q=>r2.1 (q ▸ hc)) e) t2) p9 fun c o n e=>up c o (fun q=>n (by simp [q])) (old c o n e)
theorem Zva {z TI TO i1 i2:Addr} {f1 f2:List Addr} {S1 T1 S2:Heap→Prop} {a b:Value} {Q:Fin→Shared→Prop} (hh:A.handled = none) (D:ZA z TI TO i1 i2 f1 f2) (g1:Ziz P w i1 f1 S1∨(∃ x,Gives P w i1 f1 S1 x T1)∧Ziz P w i2 f2 S2)
  (hz:IsZip s.heap z TI TO .none) (hTI:IsPair s.heap TI (.ref i1) (.ref i2)) (hTO:IsPair s.heap TO a b) (h1:S1 s.heap) (h2:S2 s.heap)
  (hE:∀ h' e,(∀ c o,c ∉ [z,TO,i1,i2]→s.heap.get? c = some o→h'.get? c = some o)→(∃ o,h'.get? e = some o∧o.cls = .type "StopIteration")→E (.ref e) { s with heap:=h' }) :
  wpAny (model P w) A (Builtin.«zip.__next__» ⟨[.ref z],[]⟩) Q E s:=by
 have r1:z ∉ f1∧TO ∉ f1∧i2 ∉ f1:=⟨fun m=>(D.a1 z m).1 rfl,fun m=>(D.a1 TO m).2.1 rfl,fun m=>(D.a1 i2 m).2.2 rfl⟩
 have r2:z ∉ f2∧TO ∉ f2∧i1 ∉ f2:=⟨fun m=>(D.a2 z m).1 rfl,fun m=>(D.a2 TO m).2.1 rfl,fun m=>(D.a2 i1 m).2.2 rfl⟩
 have st:∀ {b:Addr} {h h':Heap} {f:List Addr},Heap.SameBut b h h'→b ∉ f→∀ c ∈ f,∀ o,h.get? c = some o→h'.get? c = some o:=fun sb hb c hc o e=>sb.extBut _ _ (fun q=>hb (q ▸ hc)) e
 show wpAny _ _ (field (.ref z) 2 >>= _) _ _ _
 refine wpAny_bind (wpAny_field hz rfl (x:=.bool false) rfl ?_)
 show wpAny _ _ (field (.ref z) 3 >>= _) _ _ _
 refine wpAny_bind (wpAny_field hz rfl (x:=.ref TI) rfl (wpAny_bind (wpAny_seqItems hTI rfl ?_)))
 show wpAny _ _ (Builtin.SmallTypes.ownedTupleIsFree (.ref z) >>= _) _ _ _
 refine wpAny_bind ?_
 unfold Builtin.SmallTypes.ownedTupleIsFree
 refine wpAny_bind (wpAny_field hz rfl (x:=.none) rfl (wpAny_pure ?_))
 simp only [if_true]
 refine wpAny_bind (wpAny_rule (wpAny_bind (wpAny_field hz rfl (x:=.ref TO) rfl (wpAny_bind (wpAny_setField_rec hz (by simp) fun h3 z3 b3=>?_)))))
 replace z3:IsZip h3 z TI TO .ellipsis:=z3
 refine wpAny_bind ?_
 simp only [List.zipIdx_cons,List.zipIdx_nil,List.forIn_cons,List.forIn_nil]
 refine wpAny_bind (wpAny_bind (wpAny_onRaise ?_))
 show wpAny _ _ (Builtin.SmallTypes.nextOf (.ref i1) >>= _) _ _ _
 rcases g1 with G1 | ⟨⟨x,G1⟩,G2⟩
 ·obtain ⟨i1z,i1O,i12⟩:=D.a1 i1 G1.mem
  refine wpAny_bind (G1.run (s:={ s with heap:=h3 }) hh (G1.keep _ _ (st b3 r1.1) h1) fun h4 e b4 he=>?_)
  obtain ⟨oe,hoe,hce⟩:=he
  have z4:IsZip h4 z TI TO .ellipsis:=b4 _ _ i1z.symm z3
  have ez:e ≠ z:=fun q=>by subst q; rw [z4] at hoe; cases hoe; simp at hce
  refine wpAny_setField_rec z4 (by simp) fun h5 _ b5=>hE h5 e (fun c o n q=>?_) ⟨oe,b5.extBut _ _ ez hoe,hce⟩
  simp only [List.mem_cons,List.not_mem_nil,or_false,not_or] at n
  exact b5.extBut _ _ n.1 (b4 _ _ n.2.2.1 (b3.extBut _ _ n.1 q))
 ·obtain ⟨i1z,i1O,i12⟩:=D.a1 i1 G1.mem
  obtain ⟨i2z,i2O,i21⟩:=D.a2 i2 G2.mem
  refine wpAny_bind (G1.run (s:={ s with heap:=h3 }) (G1.keep _ _ (st b3 r1.1) h1) fun h4 k4 b4=>wpAny_pure ?_)
  have o4:IsPair h4 TO a b:=b4.extBut _ _ i1O.symm (b3.extBut _ _ D.TOz hTO)
  refine wpAny_bind (wpAny_seqItems o4 rfl (wpAny_bind (Zjn (s:={ s with heap:=h4 }) o4 fun h5 o5 b5=>wpAny_bind (wpAny_letGo (wpAny_pure ?_)))))
  refine wpAny_bind (wpAny_bind (wpAny_onRaise ?_))
  show wpAny _ _ (Builtin.SmallTypes.nextOf (.ref i2) >>= _) _ _ _
  refine wpAny_bind (G2.run (s:={ s with heap:=h5 }) hh (G2.keep _ _ (st b5 r2.2.1) (G2.keep _ _ (st b4 r2.2.2) (G2.keep _ _ (st b3 r2.1) h2))) fun h6 e b6 he=>?_)
  obtain ⟨oe,hoe,hce⟩:=he
  have z6:IsZip h6 z TI TO .ellipsis:=b6 _ _ i2z.symm (b5.extBut _ _ D.TOz.symm (b4.extBut _ _ i1z.symm z3))
  have ez:e ≠ z:=fun q=>by subst q; rw [z6] at hoe; cases hoe; simp at hce
  refine wpAny_setField_rec z6 (by simp) fun h7 _ b7=>hE h7 e (fun c o n q=>?_) ⟨oe,b7.extBut _ _ ez hoe,hce⟩
  simp only [List.mem_cons,List.not_mem_nil,or_false,not_or] at n
  exact b7.extBut _ _ n.1 (b6 _ _ n.2.2.2 (b5.extBut _ _ n.2.1 (b4.extBut _ _ n.2.2.1 (b3.extBut _ _ n.1 q))))
theorem Zps {z TI TO i1 i2:Addr} {f1 f2:List Addr} {S1 T1 S2 T2:Heap→Prop} {x y a b:Value} {Q:Option Value→Shared→Prop} (D:ZA z TI TO i1 i2 f1 f2) (G1:Gives P w i1 f1 S1 x T1) (G2:Gives P w i2 f2 S2 y T2)
  (hz:IsZip s.heap z TI TO .none) (hTI:IsPair s.heap TI (.ref i1) (.ref i2)) (hTO:IsPair s.heap TO a b) (h1:S1 s.heap) (h2:S2 s.heap)
  (hQ:∀ h',IsZip h' z TI TO (rawInt s.heap.objs.size)→IsPair h' TO x y→T1 h'→T2 h'→IsPair h' s.heap.objs.size x y →
   (∀ c o,c ∉ [z,TO,i1,i2]→s.heap.get? c = some o→h'.get? c = some o)→Q (some (.ref s.heap.objs.size)) { s with heap:=h' }):wpAny (model P w) A (pyNext (.ref z)) Q E s:=by
 have hT:s.TypeIs (.ref z) "zip" := ⟨_,hz,rfl⟩
 unfold pyNext
 exact wpAny_bind (wpAny_attempt (wpAny_callSpecial?_slot (name:=Str.ofString "__next__") hT F.slot_zip_next (wpAny_call_entry F.slot_zip_next hT F.entry_zip_next (Zra D G1 G2 hz hTI hTO h1 h2 fun h' a1 a2 a3 a4 a5 a6=>wpAny_pure (hQ h' a1 a2 a3 a4 a5 a6)) (F.args_zip_next_1 _))))
theorem Zr4 {z TI TO i1 i2:Addr} {f1 f2:List Addr} {S1 T1 S2:Heap→Prop} {a b:Value} {Q:Option Value→Shared→Prop} (hh:A.handled = none) (D:ZA z TI TO i1 i2 f1 f2) (g1:Ziz P w i1 f1 S1∨(∃ x,Gives P w i1 f1 S1 x T1)∧Ziz P w i2 f2 S2)
  (hz:IsZip s.heap z TI TO .none) (hTI:IsPair s.heap TI (.ref i1) (.ref i2)) (hTO:IsPair s.heap TO a b) (h1:S1 s.heap) (h2:S2 s.heap)
  (hQ:∀ h',(∀ c o,c ∉ [z,TO,i1,i2]→s.heap.get? c = some o→h'.get? c = some o)→Q none { s with heap:=h' }):wpAny (model P w) A (pyNext (.ref z)) Q E s:=by
 have hT:s.TypeIs (.ref z) "zip" := ⟨_,hz,rfl⟩
 unfold pyNext
 refine wpAny_bind (wpAny_attempt (wpAny_callSpecial?_slot (name:=Str.ofString "__next__") hT F.slot_zip_next (wpAny_call_entry F.slot_zip_next hT F.entry_zip_next (Zva hh D g1 hz hTI hTO h1 h2 fun h' e hk he=>?_) (F.args_zip_next_1 _))))
 obtain ⟨o,ho,hc⟩:=he
 exact wpAny_bind (wpAny_isInstance (T := "StopIteration") (b:=true) ⟨o,ho,hc⟩ isSubtype_stop (wpAny_pure (hQ _ hk)))
theorem Zsc {it t:Addr} {i:Nat} {items:Array Value} {x:Value} (hx:items[i]? = some x):Gives P w it [it,t] (fun h=>IsTupIter h it t i∧IsTup h t items) x (fun h=>IsTupIter h it t (i + 1)) where
 mem:=by simp
 run:=fun {A E s Q} ⟨hit,ht⟩ hQ=>by
  obtain ⟨o,ho,hc,hd⟩:=id hit
  obtain ⟨ol,hol,_,nl,hdl⟩:=ht
  unfold Builtin.SmallTypes.nextOf
  refine wpAny_bind (wpAny_callSpecial?_slot (name:=Str.ofString "__next__") hit.typeIs slot_tupleiter_next (wpAny_call_entry slot_tupleiter_next hit.typeIs entry_tupleiter_next ?_ (args_tupleiter_next _)))
  show wpAny _ _ (field (.ref it) 0 >>= _) _ _ s
  refine wpAny_bind (wpAny_field ho hd (x:=.ref t) rfl ?_)
  show wpAny _ _ (if (Value.ref t == Value.none) = true then _ else _) _ _ s
  rw [if_neg (show ¬ ((Value.ref t == Value.none) = true) from Bool.false_ne_true)]
  show wpAny _ _ (field (.ref it) 1 >>= _) _ _ s
  refine wpAny_bind (wpAny_field ho hd (x:=.int i 0) rfl ?_)
  show wpAny _ _ (seqItems? (.ref t) >>= _) _ _ s
  refine wpAny_bind (wpAny_seqItems hol hdl ?_)
  simp only [Int.toNat_natCast,hx]
  refine wpAny_bind (wpAny_setField ho hd (by simp) (wpAny_pure ⟨x,rfl,wpAny_pure (hQ _ ?_ (Heap.SameBut.update ..))⟩))
  exact ⟨_,Heap.get?_update_self _ ho (Obj.isFreed_of_fields (Obj.data_mapFields hd _)),(Obj.cls_mapFields ..).trans hc,by rw [Obj.data_mapFields hd]; simp [rawInt]⟩
 keep:=fun h h' k ⟨⟨o,a1,a2⟩,⟨o',b1,b2⟩⟩=>⟨⟨o,k it (by simp) o a1,a2⟩,⟨o',k t (by simp) o' b1,b2⟩⟩
 keep':=fun h h' k ⟨o,a1,a2⟩=>⟨o,k it (by simp) o a1,a2⟩
theorem Zu3 {it t:Addr} {i:Nat} {items:Array Value} (hx:items[i]? = none):Ziz P w it [it,t] (fun h=>IsTupIter h it t i∧IsTup h t items) where
 mem:=by simp
 run:=fun {A E s Q} hh ⟨hit,ht⟩ hE=>by
  obtain ⟨o,ho,hc,hd⟩:=id hit
  obtain ⟨ol,hol,_,nl,hdl⟩:=ht
  unfold Builtin.SmallTypes.nextOf
  refine wpAny_bind (wpAny_callSpecial?_slot (name:=Str.ofString "__next__") hit.typeIs slot_tupleiter_next (wpAny_call_entry slot_tupleiter_next hit.typeIs entry_tupleiter_next ?_ (args_tupleiter_next _)))
  show wpAny _ _ (field (.ref it) 0 >>= _) _ _ s
  refine wpAny_bind (wpAny_field ho hd (x:=.ref t) rfl ?_)
  show wpAny _ _ (if (Value.ref t == Value.none) = true then _ else _) _ _ s
  rw [if_neg (show ¬ ((Value.ref t == Value.none) = true) from Bool.false_ne_true)]
  show wpAny _ _ (field (.ref it) 1 >>= _) _ _ s
  refine wpAny_bind (wpAny_field ho hd (x:=.int i 0) rfl ?_)
  show wpAny _ _ (seqItems? (.ref t) >>= _) _ _ s
  refine wpAny_bind (wpAny_seqItems hol hdl ?_)
  simp only [Int.toNat_natCast,hx]
  refine wpAny_bind (wpAny_rule (wpAny_bind (wpAny_setField ho hd (by simp) ?_)))
  show wpAny _ _ (newExc (.type "StopIteration") [] >>= _) _ _ _
  refine wpAny_bind ?_
  simp only [newExc,newTuple]
  refine wpAny_bind (wpAny_newObj_type ?_ (by size_fits))
  refine wpAny_bind (m:=firstArgMember _ _) (wpAny_of_eq (a:=Value.none) (by first | rfl | (simp only [firstArgMember]; rfl)) ?_)
  refine wpAny_newObj_type ?_ (by size_fits)
  simp only [raiseNew]
  refine wpAny_bind (wpAny_handled ?_)
  first | rw [show A.in1.handled = none from hh] | rw [hh]
  exact wpAny_bind (wpAny_pure (wpAny_throw (hE _ _ (((Heap.SameBut.update ..).extBut.push _).push _) ⟨_,Heap.get?_push_size _ rfl,rfl⟩)))
 keep:=fun h h' k ⟨⟨o,a1,a2⟩,⟨o',b1,b2⟩⟩=>⟨⟨o,k it (by simp) o a1,a2⟩,⟨o',k t (by simp) o' b1,b2⟩⟩
end
noncomputable abbrev zT1 (h:Heap) (a:Addr):Heap:=h.push { cls:=.type "tuple_iterator", data:=.fields #[.ref a,.int 0 0] }
noncomputable abbrev zT2 (h:Heap) (a b:Addr):Heap:=(zT1 h a).push { cls:=.type "tuple_iterator", data:=.fields #[.ref b,.int 0 0] }
noncomputable abbrev zT3 (h:Heap) (a b:Addr):Heap:=(zT2 h a b).push { cls:=.type "tuple", data:=.seq #[.ref h.objs.size,.ref (zT1 h a).objs.size] }
noncomputable abbrev zT4 (h:Heap) (a b:Addr):Heap:=(zT3 h a b).push { cls:=.type "tuple", data:=.seq #[.none,.none] }
noncomputable abbrev zT5 (h:Heap) (a b:Addr):Heap:=(zT4 h a b).push { cls:=.type "zip", data:=.fields #[.none,.bool false,.bool false,.ref (zT2 h a b).objs.size,.ref (zT3 h a b).objs.size] }
theorem Ztq (a b:Addr) (xs ys:Array Value) :
  Meets (Builtin.«zip.__new__» ⟨[.type "zip", .ref a,.ref b],[]⟩) (fun _ R s=>IsTup s.heap a xs∧IsTup s.heap b ys∧R (.ok (.ret (.ref (zT4 s.heap a b).objs.size))) { s with heap:=zT5 s.heap a b }) :=
 .of_wp fun prog w A R s h=>by
  obtain ⟨hp,g,d,tk,os⟩:=s
  obtain ⟨h1,h2,h⟩:=h
  have hsub:=sub_zip
  have hL1:IsTup (Shared.heap ⟨hp,g,d,tk,os⟩) a xs:=h1
  have hL2:IsTup (Shared.heap ⟨hp.push { cls:=.type "tuple_iterator", data:=.fields #[.ref a,.int 0 0] },g,d,tk,os⟩) b ys:=h2.push _
  wp_walk using iter_tuple hL1,iter_tuple hL2
  exact ⟨_,rfl,h⟩
section
variable {P:Program} {w:World} {A:Around} {E:Value→Shared→Prop} {s:Shared}
theorem Zrb {a b:Addr} {xs ys:Array Value} {Q:Value→Shared→Prop} (h1:IsTup s.heap a xs) (h2:IsTup s.heap b ys)
  (h:∀ h' n,n = s.heap.objs.size→IsZip h' (n + 4) (n + 2) (n + 3) .none→IsPair h' (n + 2) (.ref n) (.ref (n + 1))→IsPair h' (n + 3) .none .none→IsTupIter h' n a 0→IsTupIter h' (n + 1) b 0 →
   (∀ c o,s.heap.get? c = some o→h'.get? c = some o)→Q (.ref (n + 4)) { s with heap:=h' }):wpAny (model P w) A (call (.type "zip") [.ref a,.ref b]) Q E s:=by
 refine callType_new F.called_zip (by decide) (F.typeCall_zip_2 _ _) (F.newCall_zip_2 _ _) (fun obj=>F.args_object_init_3 obj _ _) F.entry_zip_new (Ztq a b xs ys) ⟨h1,h2,?_⟩
 have e1:(zT1 s.heap a).objs.size = s.heap.objs.size + 1:=Heap.size_push ..
 have e2:(zT2 s.heap a b).objs.size = s.heap.objs.size + 2:=by rw [Heap.size_push,e1]
 have e3:(zT3 s.heap a b).objs.size = s.heap.objs.size + 3:=by rw [Heap.size_push,e2]
 have e4:(zT4 s.heap a b).objs.size = s.heap.objs.size + 4:=by rw [Heap.size_push,e3]
 have up:∀ {c o},(zT1 s.heap a).get? c = some o→(zT5 s.heap a b).get? c = some o:=fun x=>Heap.get?_push_of_some _ (Heap.get?_push_of_some _ (Heap.get?_push_of_some _ (Heap.get?_push_of_some _ x)))
 have p5:(zT5 s.heap a b).get? (zT4 s.heap a b).objs.size = some _:=Heap.get?_push_size _ rfl
 have p4:(zT5 s.heap a b).get? (zT3 s.heap a b).objs.size = some _:=Heap.get?_push_of_some _ (Heap.get?_push_size _ rfl)
 have p3:(zT5 s.heap a b).get? (zT2 s.heap a b).objs.size = some _:=Heap.get?_push_of_some _ (Heap.get?_push_of_some _ (Heap.get?_push_size _ rfl))
 have p2:(zT5 s.heap a b).get? (zT1 s.heap a).objs.size = some _:=Heap.get?_push_of_some _ (Heap.get?_push_of_some _ (Heap.get?_push_of_some _ (Heap.get?_push_size _ rfl)))
 have p1:(zT5 s.heap a b).get? s.heap.objs.size = some _:=up (Heap.get?_push_size _ rfl)
 show _∧_
 rw [e2,e3,e4] at p5
 rw [e1,e2] at p3
 rw [e3] at p4
 rw [e1] at p2
 rw [e4]
 exact ⟨⟨_,p5,rfl⟩,h _ _ rfl p5 p3 p4 ⟨_,p1,rfl,rfl⟩ ⟨_,p2,rfl,rfl⟩ fun c o x=>up (Heap.get?_push_of_some _ x)⟩
end
theorem nad {c d:Nat} (h:c < d∨d < c):c ≠ d:=by omega
theorem ZA.new {n a b:Nat} (h1:a < n) (h2:b < n):ZA (n + 4) (n + 2) (n + 3) n (n + 1) [n,a] [n + 1,b] where
 TIz:=nad (by omega)
 TOz:=nad (by omega)
 a1:=fun c hc=>by
  simp only [List.mem_cons,List.not_mem_nil,or_false] at hc
  rcases hc with rfl | rfl
  ·exact ⟨nad (by omega),nad (by omega),nad (by omega)⟩
  ·exact ⟨nad (by omega),nad (by omega),nad (by omega)⟩
 a2:=fun c hc=>by
  simp only [List.mem_cons,List.not_mem_nil,or_false] at hc
  rcases hc with rfl | rfl
  ·exact ⟨nad (by omega),nad (by omega),nad (by omega)⟩
  ·exact ⟨nad (by omega),nad (by omega),nad (by omega)⟩
theorem ZA.new2 (n:Nat):(n + 2:Nat) ≠ n + 3∧(n + 2:Nat) ≠ n∧(n + 2:Nat) ≠ n + 1:=⟨by omega,by omega,by omega⟩
section
variable {X:Cx} {io:List Nat} {p c:Bool} {a b:Expr} {mr:MAt}
noncomputable def Z2u (ds:List PyData):Option (List PyData):=match ds with | [.list as,.list bs]=>some (Zp6 as bs) | [.tuple as,.tuple bs]=>some (Zp6 as bs) | _=>none
noncomputable def Zpk (a:FA):FI:=fun δ=>(a δ).bind fun p=>(Z2u (OT.datas p.1)).bind fun ds=>some (ds,p.2)
end
end L2
namespace L2
open PySem PySem.Spec PyProof.Rows
section
variable {X:Cx} {e:Expr} {te:TE} {lo hi:Option Expr} {se:Expr} {tl th ts:TO} {pos p2:Pos}
end
section
variable {X:Cx} {io:List Nat} {p c:Bool} {a e:Expr} {ma:MEt} {lo hi:Option Expr} {se:Expr} {ml mh ms:MOt} {pos p2:Pos} {fa:FE}
end
end L2
namespace L2
open PySem PySem.Spec PyProof.Rows
section
variable {X:Cx} {io:List Nat} {c1 c2 c3 c4 p:Bool} {a b e d:Expr} {ma mb mc md:MEt} {pos:Pos} {f g h:Int→Int→Bool} {ta tb tc td:TE} {fa fb fc fd:FE} {G:PySem.W.Frag}
end
end L2
namespace L2
open PySem PySem.Spec PyProof.Rows
variable {G:PySem.W.Frag}
section
variable {X:Cx} {io:List Nat} {p c:Bool} {a b e:Expr} {mr:MAt} {ra:FA} {i:Nat}
noncomputable def isFn (y:Str) (d:PyData):Bool:=match d with | .dict [(.str x,.bool true)]=>decide (x = y) | _=>false
end
section
variable {X:Cx} {io:List Nat} {p c:Bool} {a:Expr} {mr:MAt} {ra:FA}
end
end L2
namespace L2
open PySem PySem.Spec PyProof.Rows
variable {G:PySem.W.Frag}
theorem Z1a {α:Type} {p:α→Prop} {a b c d:α} (h1:p a) (h2:p b) (h3:p c) (h4:p d):∀ x ∈ [a,b,c,d],p x:=by
 intro x hx
 rcases List.mem_cons.mp hx with rfl | hx
 ·exact h1
 rcases List.mem_cons.mp hx with rfl | hx
 ·exact h2
 rcases List.mem_cons.mp hx with rfl | hx
 ·exact h3
 rcases List.mem_singleton.mp hx with rfl
 exact h4
theorem Z6a {α:Type} {p:α→Prop} {a b c d e:α} (h1:p a) (h2:p b) (h3:p c) (h4:p d) (h5:p e):∀ x ∈ [a,b,c,d,e],p x:=fun x hx=>(List.mem_cons.mp hx).elim (fun q=>q ▸ h1) (Z1a h2 h3 h4 h5 x)
theorem no4 {α:Type} {a b c d x:α} (h1:x ≠ a) (h2:x ≠ b) (h3:x ≠ c) (h4:x ≠ d):x ∉ [a,b,c,d]:=fun hx=>Z1a (p:=fun y=>x ≠ y) h1 h2 h3 h4 x hx rfl
noncomputable def SqB (K:PySem.W.Frag) (t:Bool) (H:Hp) (a:Addr) (xs:List V):Prop:=match t with | true=>H a = some (.tup xs) | false=>SqL K H a xs
noncomputable def IsB (t:Bool) (h:Heap) (a:Addr) (its:Array Value):Prop:=match t with | true=>IsTup h a its | false=>h.IsList a its
noncomputable def ItB (t:Bool) (h:Heap) (it a:Addr) (i:Nat):Prop:=match t with | true=>IsTupIter h it a i | false=>h.IsListIter it a i
theorem ItB.at {t:Bool} {h h':Heap} {it a:Addr} {i:Nat} (x:ItB t h it a i) (k:∀ o,h.get? it = some o→h'.get? it = some o):ItB t h' it a i:=by
 cases t with
 | false=>exact Heap.IsListIter.at x k
 | true =>
  obtain ⟨o,ho,r⟩:=x
  exact ⟨o,k o ho,r⟩
theorem ItB.obj {t:Bool} {h:Heap} {it a:Addr} {i:Nat} (x:ItB t h it a i):∃ o,h.get? it = some o∧∀ v,o.data ≠ .cell v:=by
 cases t with
 | false =>
  obtain ⟨o,ho,_,d⟩:=x
  exact ⟨o,ho,fun v q=>by rw [d] at q; cases q⟩
 | true =>
  obtain ⟨o,ho,_,d⟩:=x
  exact ⟨o,ho,fun v q=>by rw [d] at q; cases q⟩
theorem IsB.lt {t:Bool} {h:Heap} {a:Addr} {its:Array Value} (x:IsB t h a its):a < h.objs.size:=by
 cases t with
 | false =>
  obtain ⟨o,ho,_⟩:=x
  exact Heap.lt_size ho
 | true =>
  obtain ⟨o,ho,_⟩:=x
  exact Heap.lt_size ho
theorem SqB.its {X:Cx} {pins:List (Addr × Obj)} {σ:St} {H:Hp} {s:Shared} {t:Bool} {a:Addr} {xs:List V} (I:Inv X pins σ H s) (h:SqB X.K t H a xs):∃ its:List Value,Vals xs its∧IsB t s.heap a its.toArray:=by
 cases t with
 | false =>
  obtain ⟨its,r,p,_⟩:=I.list h
  exact ⟨its,r,p.isList⟩
 | true =>
  obtain ⟨_,its,r,p⟩:=(show ObjOk X.prog X.w H s.heap a (.tup xs) from I.hok a _ h)
  exact ⟨its,r,p⟩
theorem SqB.inj {X:Cx} {pins:List (Addr × Obj)} {σ:St} {H:Hp} {s:Shared} {t:Bool} {a:Addr} {xs ys:List V} (I:Inv X pins σ H s) (h:SqB X.K t H a xs) (k:SqB X.K t H a ys):xs = ys:=by
 cases t with
 | false=>exact I.list_inj h k
 | true =>
  have:=(show H a = some (.tup xs) from h).symm.trans k
  cases this
  rfl
section
variable {P:Program} {w:World}
theorem Zrx {t:Bool} {it a:Addr} {i:Nat} {items:Array Value} {x:Value} (hx:items[i]? = some x):Gives P w it [it,a] (fun h=>ItB t h it a i∧IsB t h a items) x (fun h=>ItB t h it a (i + 1)):=by
 cases t with
 | true=>exact Zsc hx
 | false =>
  exact ⟨.head _,fun st hQ=>wpAny_nextOf_list_item st.1 st.2 hx hQ,fun h h' k st=>⟨Heap.IsListIter.at st.1 fun o e=>k it (.head _) o e,by
   obtain ⟨o,ho,r⟩:=st.2
   exact ⟨o,k a (.tail _ (.head _)) o ho,r⟩⟩,fun h h' k st=>Heap.IsListIter.at st fun o e=>k it (.head _) o e⟩
theorem Z2r {t:Bool} {it a:Addr} {i:Nat} {items:Array Value} (hx:items[i]? = none):Ziz P w it [it,a] (fun h=>ItB t h it a i∧IsB t h a items):=by
 cases t with
 | true=>exact Zu3 hx
 | false =>
  exact ⟨.head _,fun hh st hE=>wpAny_nextOf_list_end hh st.1 st.2 hx hE,fun h h' k st=>⟨Heap.IsListIter.at st.1 fun o e=>k it (.head _) o e,by
   obtain ⟨o,ho,r⟩:=st.2
   exact ⟨o,k a (.tail _ (.head _)) o ho,r⟩⟩⟩
end
noncomputable def Z66 (K:PySem.W.Frag) (t:Bool) (a b:Addr):It :=
 ⟨fun i H=>∃ xs ys x y,SqB K t H a xs∧SqB K t H b ys∧xs[i]? = some x∧ys[i]? = some y,
   fun i H v H'=>∃ p x y,H p = none∧v = .ref p∧H' = upd H p (.tup [x,y])∧(∀ xs,SqB K t H a xs→xs[i]? = some x)∧∀ ys,SqB K t H b ys→ys[i]? = some y,
   fun i H=>∃ xs ys,SqB K t H a xs∧SqB K t H b ys∧(xs.length ≤ i∨ys.length ≤ i)⟩
noncomputable def Z7j (t:Bool) (z TI TO i1 i2 a b:Addr) (i:Nat) (h:Heap):Prop:=IsZip h z TI TO .none∧IsPair h TI (.ref i1) (.ref i2)∧(∃ x y,IsPair h TO x y)∧ItB t h i1 a i∧ItB t h i2 b i
theorem Zs2 {P:Program} {w:World} {K:PySem.W.Frag} {es:List Expr} {kk:Nat} {pos:Pos} {t:Bool} {z TI TO i1 i2 a b:Addr} (D:ZA z TI TO i1 i2 [i1,a] [i2,b]) (D2:TI ≠ TO∧TI ≠ i1∧TI ≠ i2):Turn P w K (.Tuple es kk pos) (Z66 K t a b) [z,TI,TO,i1,i2] z (Z7j t z TI TO i1 i2 a b) where
 mem:=.head _
 obj:=fun i h st=>by
  obtain ⟨s1,s2,⟨x,y,s3⟩,s4,s5⟩:=st
  exact Z6a ⟨_,s1,fun v q=>by cases q⟩ ⟨_,s2,fun v q=>by cases q⟩ ⟨_,s3,fun v q=>by cases q⟩ s4.obj s5.obj
 keep:=fun i h h' st k=>by
  obtain ⟨s1,s2,⟨x,y,s3⟩,s4,s5⟩:=st
  have m2:TI ∈ [z,TI,TO,i1,i2]:=.tail _ (.head _)
  have m3:TO ∈ [z,TI,TO,i1,i2]:=.tail _ (.tail _ (.head _))
  have m4:i1 ∈ [z,TI,TO,i1,i2]:=.tail _ (.tail _ (.tail _ (.head _)))
  have m5:i2 ∈ [z,TI,TO,i1,i2]:=.tail _ (.tail _ (.tail _ (.tail _ (.head _))))
  exact ⟨k z (.head _) _ s1,k TI m2 _ s2,⟨x,y,k TO m3 _ s3⟩,s4.at (k i1 m4),s5.at (k i2 m5)⟩
 item:=by
  intro X hP hw hK hc i pins s σ H E I hf st hg
  subst hP hw hK
  obtain ⟨s1,s2,⟨x0,y0,s3⟩,s4,s5⟩:=st
  obtain ⟨xs,ys,x,y,hx,hy,ex,ey⟩:=hg
  obtain ⟨its,rx,px⟩:=hx.its I
  obtain ⟨its',ry,py⟩:=hy.its I
  obtain ⟨u,hu,ru⟩:=rx.get ex
  obtain ⟨u',hu',ru'⟩:=ry.get ey
  rw [← List.getElem?_toArray] at hu hu'
  refine Zps D (Zrx hu) (Zrx hu') s1 s2 s3 ⟨s4,px⟩ ⟨s5,py⟩ fun h' g1 g2 g3 g4 g5 g6=>?_
  refine ⟨_,rfl,wpAny_letOwnedTupleGo_zip (s:={ s with heap:=h' }) g1 fun h2 z2 sb=>?_⟩
  have up:∀ c o,c ≠ z→h'.get? c = some o→h2.get? c = some o:=fun c o n e=>(sb.2 c n).trans e
  have kp:∀ c o,c ∉ [z,TO,i1,i2]→s.heap.get? c = some o→h2.get? c = some o:=fun c o n e=>up c o (fun q=>n (q ▸ .head _)) (g6 c o n e)
  have t5:IsPair h2 s.heap.objs.size u u':=up _ _ (Nat.ne_of_gt (Heap.lt_size s1)) g5
  have i1z:=(D.a1 i1 (.head _)).1
  have i2z:=(D.a2 i2 (.head _)).1
  have n3:=g3.at (up i1 · i1z)
  have n4:=g4.at (up i2 · i2z)
  obtain ⟨f1,f2,f3,f4,f5⟩:(Zju X pins H z∧Zju X pins H TI∧Zju X pins H TO∧Zju X pins H i1∧Zju X pins H i2):=⟨hf _ (.head _),hf _ (.tail _ (.head _)),hf _ (.tail _ (.tail _ (.head _))),hf _ (.tail _ (.tail _ (.tail _ (.head _)))),hf _ (.tail _ (.tail _ (.tail _ (.tail _ (.head _)))))⟩
  have I2:Inv X pins σ (upd H s.heap.objs.size (.tup [x,y])) { s with heap:=h2 } :=
   I.turnTup (ch:=[z,TO,i1,i2]) (its:=[u,u']) (Z1a f1 f3 f4 f5) kp (Z1a ⟨_,z2⟩ ⟨_,up _ _ D.TOz g2⟩ (n3.obj.imp fun _ q=>q.1) (n4.obj.imp fun _ q=>q.1)) (Nat.le_refl _) Z16 (.cons ru (.cons ru' .nil)) ⟨_,t5,rfl,0,rfl⟩
  have lt:∀ {c:Addr} {o:Obj},s.heap.get? c = some o→Zju X pins H c→upd H s.heap.objs.size (.tup [x,y]) c = none:=fun e f=>by rw [Yq (Nat.ne_of_lt (Heap.lt_size e))]; exact f.1
  refine ⟨.ref s.heap.objs.size,_,I2,rfl,⟨_,x,y,I.fresh,rfl,rfl,fun zs hz=>by rw [hz.inj I hx]; exact ex,fun zs hz=>by rw [hz.inj I hy]; exact ey⟩,⟨z2,kp TI _ (no4 D.TIz D2.1 D2.2.1 D2.2.2) s2,⟨_,_,up _ _ D.TOz g2⟩,n3,n4⟩,?_⟩
  obtain ⟨o4,e4,_⟩:=s4.obj
  obtain ⟨o5,e5,_⟩:=s5.obj
  exact Z6a (lt s1 f1) (lt s2 f2) (lt s3 f3) (lt e4 f4) (lt e5 f5)
 done:=by
  intro X hP hw hK hc i pins s σ H E I hf st hg
  subst hP hw hK
  obtain ⟨s1,s2,⟨x0,y0,s3⟩,s4,s5⟩:=st
  obtain ⟨xs,ys,hx,hy,he⟩:=hg
  obtain ⟨its,rx,px⟩:=hx.its I
  obtain ⟨its',ry,py⟩:=hy.its I
  have l1:=rx.length
  have l2:=ry.length
  refine Zr4 (I.ok.hd hc) D (S1:=fun h=>ItB t h i1 a i∧IsB t h a its.toArray) (T1:=fun h=>ItB t h i1 a (i + 1)) (S2:=fun h=>ItB t h i2 b i∧IsB t h b its'.toArray) ?_ s1 s2 s3 ⟨s4,px⟩ ⟨s5,py⟩ fun h' k=>⟨rfl,I.turnAll (ch:=[z,TO,i1,i2]) (Z1a (hf _ (.head _)) (hf _ (.tail _ (.tail _ (.head _)))) (hf _ (.tail _ (.tail _ (.tail _ (.head _))))) (hf _ (.tail _ (.tail _ (.tail _ (.tail _ (.head _))))))) k⟩
  cases q:its.toArray[i]? with
  | none=>exact .inl (Z2r q)
  | some v =>
   refine .inr ⟨⟨v,Zrx q⟩,Z2r ?_⟩
   have:=(Array.getElem?_eq_some_iff.mp q).1
   rw [List.size_toArray] at this
   rw [Array.getElem?_eq_none_iff,List.size_toArray]
   omega
 self:=fun _ _ _ _ _ st h=>wpAny_pyIter_zip st.1 h
theorem Zrv {P:Program} {w:World} {A:Around} {E:Value→Shared→Prop} {s:Shared} {t:Bool} {a b:Addr} {xs ys:Array Value} {Q:Value→Shared→Prop} (h1:IsB t s.heap a xs) (h2:IsB t s.heap b ys)
  (h:∀ h' n,n = s.heap.objs.size→IsZip h' (n + 4) (n + 2) (n + 3) .none→IsPair h' (n + 2) (.ref n) (.ref (n + 1))→IsPair h' (n + 3) .none .none→ItB t h' n a 0→ItB t h' (n + 1) b 0 →
   (∀ c o,s.heap.get? c = some o→h'.get? c = some o)→Q (.ref (n + 4)) { s with heap:=h' }):wpAny (model P w) A (call (.type "zip") [.ref a,.ref b]) Q E s:=by
 cases t with
 | true=>exact Zrb h1 h2 h
 | false=>exact call_zip_2 h1 h2 fun h' g1 g2 g3 g4 g5 _ g7=>h h' _ rfl g1 g2 g3 g4 g5 g7
noncomputable def Z6r (K:PySem.W.Frag) (ta:TA):TI:=fun σ H R=>ta σ H fun vs H1=>∃ t a b,vs = [.ref a,.ref b]∧(∃ xs,SqB K t H1 a xs)∧(∃ ys,SqB K t H1 b ys)∧R (Z66 K t a b) H1
theorem Zx0 {X:Cx} {K:PySem.W.Frag} {a b:Expr} {ta:TA} {p pos pt:Pos} {es:List Expr} {kk:Nat} (hK:X.K = K) (hg:Gl X "zip") (hm:X.mg "zip" = none) (hv:bootBuiltins "zip" = some (.type "zip")) (ha:PA X [a,b] ta)
  (he:starEach [a,b] X.env = (false,eval a X.env) :: starEach [b] X.env:=by rfl) (hpl:(backTo pos (starEach [b] X.env)).any (·.1) = false:=by rfl) :
  PI X (.Tuple es kk pt) (.Call (.Name "zip" p) [a,b] [] pos) (Z6r K ta):=by
 subst hK
 intro pins s σ H R I h
 refine wpAny_Call_Name_kw (Ziy I hg hm hv ?_ (by decide) (by decide))
 refine PyProof.Rows.callWith_type1 (thn (ha pos pins s σ H _ I h) fun us s1 q=>?_) he hpl
 obtain ⟨vs,H1,I1,r1,t,l1,l2,e1,⟨xs,hx⟩,⟨ys,hy⟩,q⟩:=q
 subst e1
 obtain ⟨u,u',rfl,ru,ru'⟩:=vals2 r1
 cases (show u = Value.ref l1 from ru)
 cases (show u' = Value.ref l2 from ru')
 obtain ⟨its,rx,px⟩:=hx.its I1
 obtain ⟨its',ry,py⟩:=hy.its I1
 refine Zrv px py fun h' n en g1 g2 g3 g4 g5 g7=>?_
 have I2:Inv X pins σ H1 { s1 with heap:=h' }:=I1.kept (t':=s1.toks) g7
 refine wpAny_pyIter_zip (s:={ s1 with heap:=h' }) g1 ?_
 refine ⟨_,[_,_,_,_,_],Z7j _ _ _ _ _ _ _ _,_,H1,rfl,I2,Zs2 (ZA.new (en ▸ px.lt) (en ▸ py.lt)) (ZA.new2 n),⟨g1,g2,⟨_,_,g3⟩,g4,g5⟩,?_,q⟩
 subst en
 have ok:∀ k:Nat,Zju X pins H1 (s1.heap.objs.size + k):=fun k=>I1.fpOk (Nat.le_add_right _ _) (I1.hok.fresh (Nat.le_add_right _ _))
 exact Z6a (ok 4) (ok 2) (ok 3) (ok 0) (ok 1)
section
variable {X:Cx} {io:List Nat} {p c:Bool} {a b:Expr} {mr:MAt} {ra:FA}
noncomputable def Z4h (t:Bool) (as:List PyData):PyData:=match t with | true=>.tuple as | false=>.list as
theorem Rel.keptSq {C:MC G} {H:Hp} {σ:St} {δ:Zr} {fp:Fp} {ex:Addr→Prop} {v:V} {t:Bool} {ds:List PyData} (R:Rel C io H σ δ fp ex) (q:Da G H (fun a=>c = true→Lf C fp ex a) v (Z4h t ds)) :
  ∃ a xs,v = .ref a∧∀ H':Hp,(∀ b o,H b = some o→(c = false∨¬ Foot fp b)→H' b = some o)→SqB G t H' a xs∧Das G H' (fun a=>c = true→(Lf C fp ex a∧H a ≠ none)) xs ds:=by
 cases t with
 | false=>exact R.keptList q
 | true =>
  generalize hd:Z4h true ds = d at q
  cases q with
  | tup e r =>
   cases hd
   rename_i a0 xs0
   refine ⟨a0,xs0,rfl,fun H' kp=>?_⟩
   obtain ⟨f1,f2⟩:=R.kept kp
   exact ⟨f2 _ (.tup _) e,r.frame f1 f2⟩
  | _=>cases hd
theorem Ztu {ds es:List PyData} (h:Z2u ds = some es):∃ t as bs,ds = [Z4h t as,Z4h t bs]∧es = Zp6 as bs:=by
 unfold Z2u at h
 split at h
 ·cases h; exact ⟨false,_,_,rfl,rfl⟩
 ·cases h; exact ⟨true,_,_,rfl,rfl⟩
 ·cases h
noncomputable def iZB (mr:MAt):MIt:=fun δ K=>mr δ fun rs δ'=>∃ es,Z2u (OT.datas rs) = some es∧K es δ'
theorem Zya {p' pos pt:Pos} {es:List Expr} {kk:Nat} (hg:Gl X "zip") (hm:X.mg "zip" = none) (hv:bootBuiltins "zip" = some (.type "zip")) (ha:MA X io p c [a,b] mr)
  (he:starEach [a,b] X.env = (false,eval a X.env) :: starEach [b] X.env:=by rfl) (hpl:(backTo pos (starEach [b] X.env)).any (·.1) = false:=by rfl):MI X io p c (.Tuple es kk pt) (.Call (.Name "zip" p') [a,b] [] pos) (iZB mr):=by
 obtain ⟨_,A,s⟩:=ha
 refine ⟨_,Zx0 rfl hg hm hv A he hpl,fun C H σ δ fp ex K' Q R h kk=>s C H σ δ fp ex _ _ R h fun H1 vs rs δ1 fp1 new r1 h1=>?_⟩
 have q:=r1.das R
 obtain ⟨es,hz,h1⟩:=h1
 obtain ⟨t,as,bs,e,rfl⟩:=Ztu hz
 rw [e] at q
 cases q with
 | cons q1 q2 =>
  cases q2 with
  | cons q2 q3 =>
   cases q3
   have R1:=r1.base
   obtain ⟨l1,xs,rfl,k1⟩:=R1.keptSq q1
   obtain ⟨l2,ys,rfl,k2⟩:=R1.keptSq q2
   refine ⟨t,l1,l2,rfl,⟨_,(k1 H1 fun _ _ e _=>e).1⟩,⟨_,(k2 H1 fun _ _ e _=>e).1⟩,kk _ H1 _ δ1 fp1 R1 r1.stp (fun H' kp i=>?_) h1⟩
   obtain ⟨s1,d1⟩:=k1 H' kp
   obtain ⟨s2,d2⟩:=k2 H' kp
   refine ⟨fun d hd=>?_,fun hd=>⟨_,_,s1,s2,by rw [d1.length,d2.length]; exact Zs4 hd⟩⟩
   obtain ⟨x,y,hx,hy,rfl⟩:=Ztr hd
   obtain ⟨u,hu,qu⟩:=d1.get hx
   obtain ⟨w,hw,qw⟩:=d2.get hy
   refine ⟨⟨_,_,u,w,s1,s2,hu,hw⟩,fun v H'' hyl=>?_⟩
   obtain ⟨t',u',w',ht,rfl,rfl,hu',hw'⟩:=hyl
   cases hu.symm.trans (hu' _ s1)
   cases hw.symm.trans (hw' _ s2)
   exact ⟨Y9 ht _,.tup Y5 (.cons (qu.same (Y9 ht _)) (.cons (qw.same (Y9 ht _)) .nil))⟩
theorem Zxd {tg e:Expr} (g:MI X io p c tg e (iZB (o2 ra))):MI X io p c tg e (o2 (Zpk ra)):=g.weak fun δ K h=>by
 obtain ⟨r,δ',h,k⟩:=h
 obtain ⟨⟨x,δ1⟩,h1,h⟩:=bs h
 obtain ⟨ds,h2,h⟩:=bs h
 cases h
 exact ⟨x,_,h1,_,h2,k⟩
end
end L2
namespace L2
open PySem PySem.Spec PyProof.Rows PySem.W
noncomputable def kEv {α:Type} (lt:Nat→Nat→Bool):KasT α→α
 | .ret a=>a
 | .ask i j k=>kEv lt (k (lt i j))
noncomputable def kGood {α:Type} (n:Nat) (P:α→Prop):KasT α→Prop
 | .ret a=>P a
 | .ask i j k=>i < n∧j < n∧∀ b,kGood n P (k b)
theorem kGood.bind {α β:Type} {n:Nat} {P:α→Prop} {R:β→Prop} {f:α→KasT β} (hf:∀ a,P a→kGood n R (f a)) {t:KasT α} (h:kGood n P t):kGood n R (t.bind f):=by
 induction t with
 | ret a=>exact hf a h
 | ask i j k ih=>exact ⟨h.1,h.2.1,fun b=>ih b (h.2.2 b)⟩
theorem kGood.ev {α:Type} {n:Nat} {P:α→Prop} {lt:Nat→Nat→Bool} {t:KasT α} (h:kGood n P t):P (kEv lt t):=by
 induction t with
 | ret a=>exact h
 | ask i j k ih=>exact ih _ (h.2.2 _)
theorem kGood.wp {α:Type} {n:Nat} {P:α→Prop} {lt:Nat→Nat→Bool} {cmp:Nat→Nat→(Bool→Shared→Prop)→Shared→Prop} {s:Shared} {Q:α→Shared→Prop} (hc:∀ i j C,i < n→j < n→C (lt i j) s→cmp i j C s) {t:KasT α} (h:kGood n P t) (q:Q (kEv lt t) s):t.kasWp cmp Q s:=by
 induction t with
 | ret a=>exact q
 | ask i j k ih=>exact hc i j _ h.1 h.2.1 (ih _ (h.2.2 _) q)
noncomputable def kP (n:Nat) (p:Array Nat):Prop:=p.toList.Perm (List.range n)
theorem kP.at {n:Nat} {p:Array Nat} (h:kP n p) (h0:0 < n) (i:Nat):p.getD i 0 < n:=by
 by_cases c:i < p.size
 ·have e:p.getD i 0 = p[i]:=by simp [Array.getD,c]
  rw [e]
  exact List.mem_range.mp (h.mem_iff.mp (Array.getElem_mem_toList c))
 ·have e:p.getD i 0 = 0:=by simp [Array.getD,c]
  rw [e]; exact h0
theorem kP.rev {n:Nat} {p:Array Nat} (h:kP n p) (i j:Nat):kP n (kas_rev p i j):=(Array.perm_iff_toList_perm.mp (mirror_perm p i j _)).trans h
theorem kP.bub {n:Nat} {p:Array Nat} (h:kP n p) (i j:Nat):kP n (bubble p i j):=(Array.perm_iff_toList_perm.mp (bubble_perm p i j)).trans h
theorem Zng {n:Nat} {p:Array Nat} (h:kP n p) (h0:0 < n) (f m:Nat):kGood n (fun _=>True) (kas_asc p f m):=by
 induction f generalizing m with
 | zero=>exact trivial
 | succ f ih =>
  refine ⟨h.at h0 _,h.at h0 _,fun b=>?_⟩
  cases b
  ·exact ih _
  ·exact trivial
theorem Zrl {n:Nat} (h0:0 < n) (f:Nat) {p:Array Nat} (h:kP n p) (m q:Nat):kGood n (fun r:Array Nat × Nat × Nat=>kP n r.1) (kas_desc f p m q):=by
 induction f generalizing p m q with
 | zero=>exact h
 | succ f ih =>
  refine ⟨h.at h0 _,h.at h0 _,fun b=>?_⟩
  cases b
  ·refine ⟨h.at h0 _,h.at h0 _,fun b=>?_⟩
   cases b
   ·exact ih h _ _
   ·exact h
  ·show kGood n _ (if q > 0 then _ else _)
   split
   ·exact ih (h.rev _ _) _ _
   ·exact ih h _ _
theorem Zl1 {n:Nat} {p:Array Nat} (h:kP n p) (h0:0 < n) (m r:Nat):kGood n (fun r:Nat × Array Nat=>kP n r.2) (kas_tail3 m r p):=by
 refine kGood.bind (P:=fun _=>True) (fun a _=>?_) (Zng (h.rev _ _) h0 _ _)
 exact h.rev _ _
theorem Zf6 {n:Nat} {p:Array Nat} (h:kP n p) (h0:0 < n) (m r:Nat):kGood n (fun r:Nat × Array Nat=>kP n r.2) (kas_descPart m r p) :=
 (Zrl h0 _ h _ _).bind fun x hx=>by
  show kGood n _ (if x.2.2 > 0 then _ else _)
  split
  ·exact Zl1 (hx.rev _ _) h0 _ _
  ·exact Zl1 hx h0 _ _
theorem Zoz {n:Nat} {p:Array Nat} (h:kP n p) (h0:0 < n) (r:Nat):kGood n (fun r:Nat × Array Nat=>kP n r.2) (kas_count r p) :=
 (Zng h h0 _ _).bind fun m _=>by
  show kGood n _ (if (m == r) = true then _ else if m > 1 then _ else _)
  split
  ·exact h
  ·split
   ·refine ⟨h.at h0 _,h.at h0 _,fun b=>?_⟩
    cases b
    ·exact Zf6 (h.rev _ _) h0 _ _
    ·exact h
   ·exact Zf6 h h0 _ _
theorem Zpi {n:Nat} {p:Array Nat} (h:kP n p) (h0:0 < n) (k f l r:Nat):kGood n (fun _=>True) (kas_place p k f l r):=by
 induction f generalizing l r with
 | zero=>exact trivial
 | succ f ih =>
  show kGood n _ (if l ≥ r then _ else _)
  split
  ·exact trivial
  ·refine ⟨h.at h0 _,h.at h0 _,fun b=>?_⟩
   cases b
   ·exact ih _ _
   ·exact ih _ _
theorem Zu2 {n:Nat} (h0:0 < n) (f:Nat) {p:Array Nat} (h:kP n p) (k:Nat):kGood n (kP n) (kas_bin f p k):=by
 induction f generalizing p k with
 | zero=>exact h
 | succ f ih=>exact (Zpi h h0 _ _ _ _).bind fun l _=>ih (h.bub _ _) _
theorem Zks {n:Nat} (h0:0 < n):kGood n (kP n) (kas_sort n) :=
 (Zoz (p:=List.toArray (List.range n)) (.refl _) h0 n).bind fun r hr=>by
  show kGood n _ (if r.1 < n then _ else _)
  split
  ·exact Zu2 h0 _ hr _
  ·exact hr
noncomputable def Zxm (lt:Nat→Nat→Bool) (n:Nat):List Nat:=(kEv lt (kas_sort n)).toList
theorem Zhy {lt:Nat→Nat→Bool} {n:Nat} (h0:0 < n):(Zxm lt n).Perm (List.range n):=(Zks h0).ev (P:=kP n)
end L2
namespace L2
open PySem PySem.Spec PyProof.Rows PySem.W PySem.SeqAt
open AutoSeq1 (wpAny_loadPart')
open MeetsSeq MeetsSeq2 MeetsSeq3 SeqRoads2
section
variable {prog:Program} {w:World} {A:Around} {E:Value→Shared→Prop} {s:Shared}
end
theorem Z27 {prog:Program} {w:World} {A:Around} {E:Value→Shared→Prop} {s:Shared} {a b:Int} {t u:Tok} {Q:Value→Shared→Prop} (h:Q (.bool (decide (a < b))) s):wpAny (model prog w) A (richCompare .Lt (.int a t) (.int b u)) Q E s:=lt_int h
section
variable {prog:Program} {w:World} {A:Around} {E:Value→Shared→Prop} {s:Shared}
end
end L2
namespace L2
open PySem PySem.Spec PyProof.Rows PySem.W
noncomputable def sLay {α:Type} (d:α) (lt:Nat→Nat→Bool) (vs:List α):List α:=if vs.length < 2 then vs else (Zxm lt vs.length).map fun i=>vs.getD i d
theorem Zo7 {α:Type} (d:α) (vs:List α):((List.range vs.length).map fun i=>vs.getD i d) = vs:=by
 refine List.ext_getElem? fun i=>?_
 rw [List.getElem?_map]
 by_cases c:i < vs.length
 ·rw [List.getElem?_range c,List.getElem?_eq_getElem c]
  show some (vs.getD i d) = _
  rw [List.getD_eq_getElem?_getD,List.getElem?_eq_getElem c]; rfl
 ·rw [List.getElem?_eq_none (by rw [List.length_range]; omega),List.getElem?_eq_none (by omega)]; rfl
theorem Zsm {α:Type} (d:α) (lt:Nat→Nat→Bool) (vs:List α):(sLay d lt vs).Perm vs:=by
 unfold sLay
 split
 ·exact .refl _
 ·have:=(Zhy (lt:=lt) (n:=vs.length) (by omega)).map fun i=>vs.getD i d
  rwa [Zo7] at this
theorem Zr2 {lt:Nat→Nat→Bool} {xs:List V} {us:List Value} (h:Vals xs us):Vals (sLay .non lt xs) (sLay .none lt us):=by
 unfold sLay
 rw [h.length]
 split
 ·exact h
 ·generalize Zxm lt _ = l
  induction l with
  | nil=>exact .nil
  | cons i l ih =>
   refine .cons ?_ ih
   show RelV (xs.getD i V.non) (us.getD i Value.none)
   rw [List.getD_eq_getElem?_getD,List.getD_eq_getElem?_getD]
   cases e:xs[i]? with
   | some x =>
    obtain ⟨u,e',r⟩:=h.get e
    rw [e']; exact r
   | none =>
    have:us[i]? = none:=List.getElem?_eq_none (by rw [← h.length]; exact List.getElem?_eq_none_iff.mp e)
    rw [this]; exact rfl
section
variable {prog:Program} {w:World} {A:Around} {E:Value→Shared→Prop} {s:Shared}
theorem Zo1 {κ:SortKind} {lt:Nat→Nat→Bool} {h0:Heap} {a:Addr} {vs:List Value} {n:Nat} {P:PySem.Fin→Shared→Prop} (ho:s.heap.get? a = some (seqObj "list" vs.toArray n))
  (k0:∀ b o,h0.get? b = some o→s.heap.get? b = some o) (ha0:h0.get? a = none) (h64:vs.length < 64)
  (hk:2 ≤ vs.length→∀ s':Shared,(∀ b o,h0.get? b = some o→s'.heap.get? b = some o)→∀ Q:SortKind→Shared→Prop,Q κ s'→wpAny (model prog w) A (keyKind' vs.toArray) Q E s')
  (hc:2 ≤ vs.length→∀ s':Shared,(∀ b o,h0.get? b = some o→s'.heap.get? b = some o)→∀ i j C,i < vs.length→j < vs.length→C (lt i j) s'→kas_ask prog w A κ vs i j C s')
  (h:P (.done (.ret .none)) { s with heap:=sortedHeap s.heap a vs (List.toArray (sLay Value.none lt vs)) }):wpAny (model prog w) A (Builtin.«list.sort» ⟨[.ref a],[]⟩) P E s:=by
 have ha:a < s.heap.objs.size:=Heap.lt_size ho
 obtain ⟨e1,ho1⟩:∃ e1,(s.heap.update a (Obj.mapSeq fun _=>(#[]:Array Value))).get? a = some (seqObj "list" #[] e1):=⟨_,get?_update_seq ho fun _=>#[]⟩
 have ho6:(((s.heap.update a (Obj.mapSeq fun _=>(#[]:Array Value))).push (seqObj "tuple" vs.toArray 0)).push (seqObj "list" #[] 0)).get? a = some (seqObj "list" #[] e1):=Heap.get?_push_of_some _ (Heap.get?_push_of_some _ ho1)
 have k6:∀ b o,h0.get? b = some o→(((s.heap.update a (Obj.mapSeq fun _=>(#[]:Array Value))).push (seqObj "tuple" vs.toArray 0)).push (seqObj "list" #[] 0)).get? b = some o:=fun b o e=>by
  refine Heap.get?_push_of_some _ (Heap.get?_push_of_some _ ?_)
  rw [Heap.get?_update_ne _ _ _ _ (fun q=>by rw [q,ha0] at e; cases e)]
  exact k0 b o e
 rw [list_sort_plain]
 refine wpAny_bind (listItems_at ho rfl ?_)
 refine wpAny_bind (listUpdate_at ho rfl ?_ (by rw [List.size_toArray,sizeLine_eq]; omega) (Nat.zero_le _))
 refine wpAny_bind (seqEpoch_at ho1 rfl ?_)
 refine wpAny_bind (wpAny_newTuple ?_ (by show vs.length ≤ _; rw [sizeLine_eq]; omega))
 refine wpAny_bind (wpAny_newList ?_ (Nat.zero_le _))
 refine wpAny_holding ?_
 show wpAny (model prog w) A _ P E { s with heap:=((s.heap.update a (Obj.mapSeq fun _=>(#[]:Array Value))).push (seqObj "tuple" vs.toArray 0)).push (seqObj "list" #[] 0) }
 dsimp only
 have hs:vs.toArray.size = vs.length:=List.size_toArray ..
 by_cases h2:vs.toArray.size < 2
 ·have el:sLay Value.none lt vs = vs:=if_pos (hs ▸ h2)
  rw [el] at h
  rw [if_pos h2,if_pos h2]
  refine wpAny_bind (wpAny_pure ?_)
  rw [StateT.run_pure]
  refine wpAny_bind (wpAny_pure ?_)
  dsimp only
  refine wpAny_bind (seqEpoch_at ho6 rfl ?_)
  have ez:((vs.toArray.zip vs.toArray).map (·.2)) = vs.toArray:=by
   apply Array.toList_inj.mp
   rw [Array.toList_map,Array.toList_zip,List.map_snd_zip (Nat.le_refl _)]
  show wpAny _ _ (Builtin.List.listUpdate _ (fun _=>(vs.toArray.zip vs.toArray).map (·.2)) >>= _) _ _ _
  rw [ez]
  refine wpAny_bind (listUpdate_at ho6 rfl ?_ (Nat.zero_le _) (by rw [hs,sizeLine_eq]; omega))
  simp only [bne_self_eq_false,Bool.false_eq_true,if_false]
  exact wpAny_pure h
 ·rw [if_neg h2,if_neg h2]
  have h2':2 ≤ vs.length:=by omega
  have el:sLay Value.none lt vs = (Zxm lt vs.length).map fun i=>vs.getD i Value.none:=if_neg (by omega)
  rw [el] at h
  refine wpAny_bind (hk h2' _ k6 _ ?_)
  have est:SortSt.mk' κ (vs.toArray.zip vs.toArray) #[] 7 none = kas_st κ (pairsOf vs) (List.toArray (List.range vs.length)):=by
   have e:=kas_range (pairsOf vs)
   rw [pairsOf_size] at e
   show SortSt.mk' κ (pairsOf vs) #[] 7 none = SortSt.mk' κ ((List.toArray (List.range vs.length)).map (kas_item (pairsOf vs))) #[] 7 none
   rw [e]
  have run:=kas_runs (prog:=prog) (w:=w) (A:=A) (κ:=κ) (it:=pairsOf vs) (E:=E) (s:={ s with heap:=((s.heap.update a (Obj.mapSeq fun _=>(#[]:Array Value))).push (seqObj "tuple" vs.toArray 0)).push (seqObj "list" #[] 0) })
   (Q:=fun _ st' s'=>arrOf st' = (kEv lt (kas_sort vs.length)).map (kas_item (pairsOf vs))∧failedOf st' = none∧s' = { s with heap:=((s.heap.update a (Obj.mapSeq fun _=>(#[]:Array Value))).push (seqObj "tuple" vs.toArray 0)).push (seqObj "list" #[] 0) })
   (G:=fun p s'=>p = kEv lt (kas_sort vs.length)∧s' = { s with heap:=((s.heap.update a (Obj.mapSeq fun _=>(#[]:Array Value))).push (seqObj "tuple" vs.toArray 0)).push (seqObj "list" #[] 0) })
   h2' h64 (fun p' st' s' _ a2 a3 a4=>⟨a4.1 ▸ a2,a3,a4.2⟩) (by
    rw [← kas_ask_eq]
    exact (Zks (n:=vs.length) (by omega)).wp (hc h2' _ k6) ⟨rfl,rfl⟩)
  rw [← est] at run
  refine wpAny_bind (wpAny_mono run ?_ fun _ _ e=>e)
  intro r s' z
  obtain ⟨har,hf,rfl⟩:=z
  have hout:(arrOf r.2).map (·.2) = List.toArray ((Zxm lt vs.length).map fun i=>vs.getD i Value.none):=by
   apply Array.toList_inj.mp
   rw [har,Array.map_map,Array.toList_map]
   exact List.map_congr_left fun i _=>by show (kas_item (pairsOf vs) i).2 = _; rw [kas_item_eq]
  rw [hout]
  refine wpAny_bind (seqEpoch_at ho6 rfl ?_)
  refine wpAny_bind (listUpdate_at ho6 rfl ?_ (Nat.zero_le _) (by rw [List.size_toArray,List.length_map,(Zhy (by omega)).length_eq,List.length_range,sizeLine_eq]; omega))
  rw [hf]
  simp only [bne_self_eq_false,Bool.false_eq_true,if_false]
  exact wpAny_pure h
theorem Zxk {κ:SortKind} {lt:Nat→Nat→Bool} {l:Addr} {vs:List Value} {Q:Value→Shared→Prop} (hl:s.heap.IsList l vs.toArray) (h64:vs.length < 64)
  (hk:2 ≤ vs.length→∀ s':Shared,(∀ b o,s.heap.get? b = some o→s'.heap.get? b = some o)→∀ Q:SortKind→Shared→Prop,Q κ s'→wpAny (model prog w) A.in1.in1 (keyKind' vs.toArray) Q E s')
  (hc:2 ≤ vs.length→∀ s':Shared,(∀ b o,s.heap.get? b = some o→s'.heap.get? b = some o)→∀ i j C,i < vs.length→j < vs.length→C (lt i j) s'→kas_ask prog w A.in1.in1 κ vs i j C s')
  (h:Q (.ref (s.heap.objs.size + 1)) { s with heap:=sortedAll s.heap vs (List.toArray (sLay Value.none lt vs)) }):wpAny (model prog w) A (call (.builtin "sorted") [.ref l]) Q E s:=by
 refine Calls.call_function_entry kind_sorted plain_sorted entry_sorted (args_sorted1 _) ?_
 unfold Builtin.«sorted»
 refine wpAny_bind (m:=checkCount "sorted" 1 1 _) (wpAny_pure ?_)
 refine wpAny_bind (collect_list hl ?_ (by rw [sizeLine_eq]; omega))
 refine wpAny_bind (wpAny_newList ?_ (by rw [sizeLine_eq]; omega))
 have hsz:((s.heap.push (seqObj "list" #[] 0)).update s.heap.objs.size (Obj.mapSeq (· ++ vs.toArray))).objs.size = s.heap.objs.size + 1:=by
  rw [Heap.size_update,size_push']
 have hoL:(((s.heap.push (seqObj "list" #[] 0)).update s.heap.objs.size (Obj.mapSeq (· ++ vs.toArray))).push (seqObj "list" vs.toArray 0)).get? (s.heap.objs.size + 1) = some (seqObj "list" vs.toArray 0):=by
  rw [← hsz]; exact Heap.get?_push_size _ rfl
 have keep:∀ b o,s.heap.get? b = some o→(((s.heap.push (seqObj "list" #[] 0)).update s.heap.objs.size (Obj.mapSeq (· ++ vs.toArray))).push (seqObj "list" vs.toArray 0)).get? b = some o:=fun b o q=>by
  have hlt:b < s.heap.objs.size:=Heap.lt_size q
  rw [Heap.get?_push_ne _ _ _ (by rw [hsz]; exact Nat.ne_of_lt (Nat.lt_succ_of_lt hlt)),Heap.get?_update_ne _ _ _ _ (Nat.ne_of_lt hlt),Heap.get?_push_ne _ _ _ (Nat.ne_of_lt hlt)]
  exact q
 show wpAny _ _ _ _ _ { s with heap:=((s.heap.push (seqObj "list" #[] 0)).update s.heap.objs.size (Obj.mapSeq (· ++ vs.toArray))).push (seqObj "list" vs.toArray 0) }
 rw [hsz]
 refine wpAny_bind (wpAny_holding (wpAny_call_entry slot_list_sort ⟨_,hoL,rfl⟩ entry_list_sort (Zo1 (h0:=s.heap) hoL keep (Heap.get?_none_of_le (Nat.le_succ _)) h64 hk hc ⟨_,rfl,?_⟩) (args_list_sort _)))
 exact wpAny_pure ⟨_,rfl,h⟩
end
end L2
namespace L2
open PySem PySem.Spec PyProof.Rows PySem.W
variable {G:PySem.W.Frag}
structure Z73 {α:Type} (kd:PyData→Option α) (lt:α→α→Bool):Prop where
 lay:∀ d k,kd d = some k→d.canLay0 = true
 run:∃ κ:SortKind,(∀ (prog:Program) (w:World) (A:Around) (E:Value→Shared→Prop) (s:Shared) (vs:List Value) (ds:List PyData) (as:List Addr) (Q:SortKind→Shared→Prop),2 ≤ vs.length→ReadsAll s.heap vs ds as→(∀ d ∈ ds,∃ k,kd d = some k)→Q κ s→wpAny (model prog w) A (keyKind' vs.toArray) Q E s) ∧
  ∀ (prog:Program) (w:World) (A:Around) (E:Value→Shared→Prop) (s:Shared) (u v:Value) (d e:PyData) (as bs:List Addr) (k m:α) (C:Bool→Shared→Prop),A.units + 32 < cLine→Reads s.heap u d as→Reads s.heap v e bs→kd d = some k→kd e = some m→C (lt k m) s→wpAny (model prog w) A (keyLt' κ u v) C E s
theorem readsAll_get {h:Heap} {vs:List Value} {ds:List PyData} {as:List Addr} (r:ReadsAll h vs ds as):vs.length = ds.length∧∀ (i:Nat) d,ds[i]? = some d→∃ v bs,vs[i]? = some v∧Reads h v d bs:=by
 induction ds generalizing vs as with
 | nil=>cases r; exact ⟨rfl,fun i d e=>by rw [List.getElem?_nil] at e; cases e⟩
 | cons d ds ih =>
  cases r with
  | cons r q =>
   obtain ⟨z1,z2⟩:=ih q
   refine ⟨congrArg Nat.succ z1,fun i e he=>?_⟩
   cases i with
   | zero=>cases he; exact ⟨_,_,rfl,r⟩
   | succ i=>exact z2 i e he
theorem lay_ints (ns:List Int):Sh 1 (.list (ns.map PyData.int)):=Zmy fun d m=>by
 obtain ⟨x,_,rfl⟩:=List.mem_map.mp m
 exact Zn6 x
theorem Zrq (ns:List Int):Sh 1 (.tuple (ns.map PyData.int)):=Znv fun d m=>by
 obtain ⟨x,_,rfl⟩:=List.mem_map.mp m
 exact Zn6 x
theorem Zq5 (a b:List Int):PyData.eqv (.list (a.map PyData.int)) (.list (b.map PyData.int)) = decide (a = b):=by
 have p:∀ l:List Int,Jo (.list (l.map PyData.int)) = true:=fun l=>by rw [Jo]; induction l with | nil=>rfl | cons x l ih=>exact ih
 have inj:∀ {l m:List Int},PyData.list (l.map PyData.int) = .list (m.map PyData.int)→l = m:=fun h=>by
  injection h with h
  exact (List.map_inj_right fun x y z=>by injection z).mp h
 by_cases c:a = b
 ·rw [Zv5 (p a) (p b) (by rw [c]),decide_eq_true c]
 ·rw [Z2e (p a) (p b) fun z=>c (inj z),decide_eq_false c]
end L2
namespace L2
open PySem PySem.Spec PyProof.Rows PySem.W
variable {G:PySem.W.Frag}
noncomputable def lk {α:Type} (kd:PyData→Option α) (lt:α→α→Bool) (es:List PyData):Nat→Nat→Bool:=fun i j=>((kd (es.getD i .none)).bind fun a=>(kd (es.getD j .none)).map fun b=>lt a b).getD false
noncomputable def keyed {α:Type} (kd:PyData→Option α) (es:List PyData):Prop:=∀ d ∈ es,∃ k,kd d = some k
theorem Zpy {es:List PyData} (h:∀ d ∈ es,d.canLay0 = true):PyData.canLayAll0 es = true:=by
 induction es with
 | nil=>rw [PyData.canLayAll0]
 | cons d es ih=>rw [PyData.canLayAll0,h d (.head _),ih fun d m=>h d (.tail _ m)]; rfl
theorem Das.sLay {H:Hp} {L:Addr→Prop} {lt:Nat→Nat→Bool} {xs:List V} {ds:List PyData} (h:Das G H L xs ds):Das G H L (L2.sLay .non lt xs) (L2.sLay .none lt ds):=by
 unfold L2.sLay
 rw [h.length]
 split
 ·exact h
 ·generalize Zxm lt _ = l
  induction l with
  | nil=>exact .nil
  | cons i l ih =>
   refine .cons ?_ ih
   show Da G H L (xs.getD i .non) (ds.getD i .none)
   rw [List.getD_eq_getElem?_getD,List.getD_eq_getElem?_getD]
   cases e:xs[i]? with
   | some x =>
    obtain ⟨u,e',r⟩:=h.get' e
    rw [e']; exact r
   | none =>
    have:ds[i]? = none:=List.getElem?_eq_none (by rw [← h.length]; exact List.getElem?_eq_none_iff.mp e)
    rw [this]; exact .non
noncomputable def Zwp {α:Type} (kd:PyData→Option α) (lt:α→α→Bool) (K:PySem.W.Frag):List V→Hp→VK→Prop:=fun xs H Q=>∃ (a:Addr) (vs:List V) (L:Addr→Prop) (es:List PyData),xs = [.ref a]∧SqL K H a vs∧Das K H L vs es∧vs.length < 64∧keyed kd es∧∀ l,H l = none→Q (.ref l) (upd H l (.lst (sLay .non (lk kd lt es) vs)))
section
variable {X:Cx} {α:Type} {kd:PyData→Option α} {lt:α→α→Bool}
theorem Zpz {K:PySem.W.Frag} (S:Z73 kd lt) (hK:X.K = K) (hu:X.A.units + 64 < cLine):Zd9 X (.builtin "sorted") (Zwp kd lt K):=by
 subst hK
 intro pins s σ H xs us Q I r h
 obtain ⟨l,vs,L,es,rfl,hs,hd,h64,hk,q⟩:=h
 obtain ⟨u,rfl,ru⟩:=vals1 r
 cases (show u = Value.ref l from ru)
 obtain ⟨its,rv,pl,hz⟩:=I.list hs
 have hl:=rv.length
 obtain ⟨as,ra⟩:=hd.reads rfl I rv (Zpy fun d m=>by obtain ⟨k,e⟩:=hk d m; exact S.lay d k e)
 obtain ⟨κ,S1,S2⟩:=S.run
 obtain ⟨z1,z2⟩:=readsAll_get ra
 refine Zxk (κ:=κ) (lt:=lk kd lt es) pl.isList (by omega) (fun h2 s' k Q q=>S1 _ _ _ _ s' _ es as Q h2 (ReadsAll.keeps k ra) hk q) (fun h2 s' k i j C hi hj hc=>?_) ?_
 ·rw [z1] at hi hj
  obtain ⟨v,b1,e1,r1⟩:=z2 i _ (List.getElem?_eq_getElem hi)
  obtain ⟨w,b2,e2,r2⟩:=z2 j _ (List.getElem?_eq_getElem hj)
  obtain ⟨k1,q1⟩:=hk _ (List.getElem_mem hi)
  obtain ⟨k2,q2⟩:=hk _ (List.getElem_mem hj)
  have ek:lk kd lt es i j = lt k1 k2:=by
   unfold lk
   rw [List.getD_eq_getElem?_getD,List.getD_eq_getElem?_getD,List.getElem?_eq_getElem hi,List.getElem?_eq_getElem hj]
   show ((kd es[i]).bind fun a=>(kd es[j]).map fun b=>lt a b).getD false = _
   rw [q1,q2]; rfl
  rw [ek] at hc
  unfold kas_ask
  rw [List.getD_eq_getElem?_getD,List.getD_eq_getElem?_getD,e1,e2]
  exact S2 _ _ _ _ s' v w _ _ _ _ k1 k2 C (show X.A.units + 1 + 1 + 32 < cLine by omega) (Reads.keeps k r1) (Reads.keeps k r2) q1 q2 hc
 ·obtain ⟨e,he⟩:=sortedAll_at s.heap its (List.toArray (sLay Value.none (lk kd lt es) its))
  refine ⟨.ref (s.heap.objs.size + 1),_,I.laid (t':=s.toks) (o:=.lst (sLay .non (lk kd lt es) vs)) (fun b ob q=>sortedAll_old q) (by omega) ⟨?_,sLay Value.none (lk kd lt es) its,e,Zr2 rv,he⟩,rfl,q _ (I.hok.fresh (by omega))⟩
  rw [(Zsm _ _ _).length_eq,sizeLine_eq]; omega
noncomputable def Zvq (kd:PyData→Option α) (lt:α→α→Bool):List PyData→(OT→Prop)→Prop:=fun ds k=>n1 (fun d=>∃ es:List PyData,d = .list es∧es.length < 64∧keyed kd es∧k (.nd ((sLay .none (lk kd lt es) es).map OT.fz))) ds
theorem Zvf:PN G (Zwp kd lt G) (Zvq kd lt):=fun H L xs ds k Q hx h kk=>by
 obtain ⟨v,d,rfl,rfl,q,es,e,h64,hk,h⟩:=hx.one h
 have fin:∀ (vs:List V) (p:Addr),Das G H L vs es→H p = none→Q (.ref p) (upd H p (.lst (sLay .non (lk kd lt es) vs))):=fun vs p hv hp=>kk _ _ _ [p] (Y9 hp _) (Own.list hp hv.sLay) (Zhz p) (Zfq hp) h
 subst e
 generalize ed:PyData.list es = d at q
 cases q with
 | lst l e r =>
  cases ed
  exact ⟨_,_,L,es,rfl,.inl e,r,by rw [r.length]; exact h64,hk,fun p hp=>fin _ p r hp⟩
 | scr ks =>
  cases ed
  exact ⟨_,_,L,_,rfl,ks.sq,Das.ints _,by rw [(Das.ints (G:=G) (H:=H) (L:=L) _).length]; exact h64,hk,fun p hp=>fin _ p (Das.ints _) hp⟩
 | _=>cases ed
noncomputable def Zn9 (kd:PyData→Option α) (lt:α→α→Bool):List PyData→Option OT:=fun ds=>match ds with | [.list es]=>if (decide (es.length < 64) && es.all fun d=>(kd d).isSome) = true then some (.nd ((sLay .none (lk kd lt es) es).map OT.fz)) else none | _=>none
theorem Zy3:∀ ds r k,Zn9 kd lt ds = some r→k r→Zvq kd lt ds k:=fun ds r k h hk=>by
 unfold Zn9 at h
 split at h
 case h_2=>cases h
 split at h
 case isFalse=>cases h
 rename_i h2
 rw [Bool.and_eq_true] at h2
 cases h
 exact ⟨_,rfl,of_decide_eq_true h2.1,fun d m=>Option.isSome_iff_exists.mp (List.all_eq_true.mp h2.2 d m),hk⟩
end
end L2
namespace L2
open PySem PySem.Spec PyProof.Rows
variable {G:PySem.W.Frag}
end L2
namespace L2
open PySem PySem.Spec PyProof.Rows
section
variable {X:Cx} {tg:Expr} {io:List Nat} {p c:Bool} {a b d e:Expr} {mr:MAt} {ra:FA}
end
end L2
namespace L2
open PySem PySem.Spec PyProof.Rows
section
variable {prog:Program} {w:World} {A:Around} {R:Result→Shared→Prop} {I:Addr} {fp wr:List Addr} {n:Nat} {P:Nat→Value→Prop} {St:Nat→Heap→Prop}
end
section
variable {prog:Program} {w:World} {A:Around} {E:Value→Shared→Prop} {s:Shared}
end
section
variable {X:Cx} {p c:Bool} {io:List Nat} {e kw:Expr} {pp pos kp:Pos} {t:TA} {mr:MAt}
end
end L2
namespace L2
open PySem PySem.Spec PyProof.Rows
noncomputable def tbl (P:List Nat) (led:Bool):SetTable:={ mask:=7,place:=P.toArray,dummies:=#[],finger:=0,led,moves:=0,plain:=true }
noncomputable def hT (k:List Int):Int:=reduceHash (Builtin.Tuple.tupleHashOf (k.map hashInt))
noncomputable def hAt (ks:List (List Int)) (i:Nat):Int:=(ks[i]?.map hT).getD 0
noncomputable def Z5f (P:List Nat) (j:Nat):List Nat:=((tbl P false).put j).1.place.toList
noncomputable def Z7c (P:List Nat) (j:Nat):Nat:=((tbl P false).put j).2
noncomputable def Z8n (ks:List (List Int)) (p:Nat) (k:List Int):List (List Int):=ks.take p ++ k :: ks.drop p
noncomputable def Z8q (P:List Nat) (ks:List (List Int)) (k:List Int):Option (List Nat × List (List Int)) :=
 match (tbl P false).probe (hAt ks) (hT k) ((tbl P false).probeStart (hT k)) with
 | some (.empty j none)=>if (tbl (Z5f P j) false).tooFull = false∧(Z5f P j).length = ks.length + 1∧ks.length ≤ 6∧Z7c P j ≤ ks.length then some (Z5f P j,Z8n ks (Z7c P j) k) else none
 | some (.candidate _ i _)=>if ks[i]? = some k then some (P,ks) else none
 | _=>none
noncomputable def grow (K:List (List Int)):Nat→List (List Nat × List (List Int))→List (List Nat × List (List Int))
 | 0,S=>S
 | n + 1,S=>grow K n (S ++ (S.flatMap fun s=>K.filterMap fun k=>Z8q s.1 s.2 k).filter fun s=>!S.contains s)
noncomputable def K2:List (List Int):=[[0,0],[0,1],[1,0],[1,1]]
noncomputable def S2:List (List Nat × List (List Int)):=(grow K2 4 [([],[])]).eraseDups
section
variable {prog:Program} {w:World} {A:Around} {E:Value→Shared→Prop} {s:Shared}
inductive KeysIn (U:Addr→List Int→Prop):List (List Int)→List (Int × Value)→Prop
 | nil:KeysIn U [] []
 | cons {k:List Int} {a:Addr} {ks:List (List Int)} {l:List (Int × Value)} (h:U a k) (t:KeysIn U ks l):KeysIn U (k :: ks) ((hT k,.ref a) :: l)
noncomputable abbrev IK (prog:Program) (w:World) (h:Heap) (k:List Int) (a:Addr):Prop:=IsTupleKey (intKind prog w) h k a
theorem items_int {ks:List Int} {vs:List Value} (h:ItemsAre (intKind prog w) ks vs):∀ v ∈ vs,∃ i t,v = .int i t:=by
 induction h with
 | nil=>exact fun _ m=>nomatch m
 | cons h _ ih =>
  intro v hv
  rcases List.mem_cons.mp hv with rfl | hv
  ·obtain ⟨t,e⟩:=Value.isInt_shape h
   exact ⟨_,t,e⟩
  ·exact ih v hv
end
section
variable {prog:Program} {w:World} {A:Around} {R:Result→Shared→Prop} {I:Addr} {fp wr:List Addr} {n:Nat} {Pv:Nat→Value→Prop} {St:Nat→Heap→Prop}
end
end L2
namespace L2
open PySem PySem.Spec PyProof.Rows
section
variable {prog:Program} {w:World} {A:Around} {E:Value→Shared→Prop} {s:Shared}
end
end L2
namespace L2
open PySem PySem.Spec PyProof.Rows
inductive Z50 (H:Hp):List V→List (List Int)→Prop
 | nil:Z50 H [] []
 | cons {a:Addr} {k:List Int} {xs:List V} {ks:List (List Int)} (h:H a = some (.tup (k.map V.int))) (t:Z50 H xs ks):Z50 H (.ref a :: xs) (k :: ks)
section
variable {X:Cx} {p c:Bool} {io:List Nat} {a e:Expr} {pos pos' pl pr:Pos} {t:TA} {mr:MAt} {ra:FA}
end
end L2
namespace L2
open PySem PySem.Spec PyProof.Rows
section
variable {G:PySem.W.Frag} {io:List Nat} {p pt pe:Bool} {own:List Str} {caps:List Nat} {g:MGt} {mt:MTt} {me:MEt} {i:Nat}
end
section
variable {X:Cx} {io:List Nat} {p pt pe:Bool} {own:List Str} {caps:List Nat} {N':List Str} {sc:Scope} {i:Nat} {x:Str} {px:Pos} {tg elt:Expr} {ifs:List Expr} {g:MGt} {mt:MTt} {me:MEt} {pos:Pos}
end
end L2
namespace L2
open PySem PySem.Spec PyProof.Rows
section
variable {X:Cx} {G:PySem.W.Frag}
end
end L2
namespace L2
open PySem PySem.Spec PyProof.Rows
noncomputable abbrev Z8s (h:Heap) (T:Addr) (a b c:Value):Prop:=h.get? T = some { cls:=.type "tuple", data:=.seq #[a,b,c] }
structure Z3A (z TI TO i1 i2 i3:Addr) (f1 f2 f3:List Addr):Prop where
 TIz:TI ≠ z
 TOz:TO ≠ z
 a1:∀ c ∈ f1,c ≠ z∧c ≠ TO∧c ≠ i2∧c ≠ i3
 a2:∀ c ∈ f2,c ≠ z∧c ≠ TO∧c ≠ i1∧c ≠ i3
 a3:∀ c ∈ f3,c ≠ z∧c ≠ TO∧c ≠ i1∧c ≠ i2
section
variable {P:Program} {w:World} {A:Around} {E:Value→Shared→Prop} {s:Shared}
end
noncomputable abbrev z3A (h:Heap) (a:Addr):Heap:=h.push { cls:=.type "list_iterator", data:=.fields #[.ref a,.int 0 0] }
noncomputable abbrev z3B (h:Heap) (a b:Addr):Heap:=z3A (z3A h a) b
noncomputable abbrev z3C (h:Heap) (a b c:Addr):Heap:=z3A (z3B h a b) c
noncomputable abbrev z3D (h:Heap) (a b c:Addr):Heap:=(z3C h a b c).push { cls:=.type "tuple", data:=.seq #[.ref h.objs.size,.ref (z3A h a).objs.size,.ref (z3B h a b).objs.size] }
noncomputable abbrev z3E (h:Heap) (a b c:Addr):Heap:=(z3D h a b c).push { cls:=.type "tuple", data:=.seq #[.none,.none,.none] }
noncomputable abbrev z3F (h:Heap) (a b c:Addr):Heap:=(z3E h a b c).push { cls:=.type "zip", data:=.fields #[.none,.bool false,.bool false,.ref (z3C h a b c).objs.size,.ref (z3D h a b c).objs.size] }
section
variable {P:Program} {w:World} {A:Around} {E:Value→Shared→Prop} {s:Shared}
end
section
variable {X:Cx} {io:List Nat} {p c:Bool} {a b e:Expr} {mr:MAt} {ra:FA}
end
end L2
namespace L2
open PySem PySem.Spec PyProof.Rows
variable {G:PySem.W.Frag}
end L2
namespace L2
open PySem PySem.Spec PyProof.Rows
variable {G:PySem.W.Frag}
section
variable {X:Cx} {io:List Nat} {p c:Bool} {e:Expr} {m:MEt} {pos apos cpos px:Pos} {i:Nat} {x:Str} {st:Stmt} {fa:FE}
noncomputable def Zjm (i:Nat) (m:MEt):MSt:=fun D δ=>match δ[i]? with
 | some (some (.nd _))=>m δ fun r δ1=>match r,δ1[i]? with
  | .nd rs,some (some (.nd ts))=>ts.length + rs.length ≤ sizeLine∧D.nx (δ1.set i (some (.nd (ts ++ (OT.datas rs).map OT.fz))))
  | _,_=>False
 | _=>False
theorem Owns.app {H:Hp} {L:Addr→Prop} {ds:List PyData}:∀ {zs xs:List V} {ts:List OT} {bs:List Addr},Owns G H L xs ts bs→Das G H L zs ds→Owns G H L (xs ++ zs) (ts ++ ds.map OT.fz) bs:=by
 induction ds with
 | nil =>
  intro zs xs ts bs h g
  cases g
  rw [List.append_nil,List.map_nil,List.append_nil]; exact h
 | cons d ds ih =>
  intro zs xs ts bs h g
  cases g with
  | cons q g =>
   have:=ih (h.snoc (.fz q)) g
   rw [List.append_nil,List.append_assoc,List.append_assoc] at this
   exact this
theorem Zrk (i:Nat) (he:ME X io p true e m) (hN:X.N[i]? = some x:=by rfl) (hv:Vis X.env.scope x:=by first | exact Or.inl rfl | exact Or.inr (Or.inl rfl) | exact Or.inr (Or.inr rfl)) (hd:(x == ("__debug__" : Str)) = false:=by decide)
  (hcd:(x == ("__classdict__" : Str)) = false:=by decide)
  (hbase:attributeBase (.Name x px) "extend" X.env (eval (.Name x px) X.env) = eval (.Name x px) X.env:=by rfl)
  (hfew:((backTo cpos (starEach [e] X.env)).all (fun x=>!x.1) && (backToKw cpos (keywordEach [] X.env)).all (fun x=>x.1.isSome)
   && decide ([e].length + ([]:List Keyword).length + (if ([]:List Keyword).isEmpty then 0 else 1) < 30)) = true:=by rfl)
  (hline:(apos.endLine == cpos.line) = true:=by rfl) (hs:starEach [e] X.env = (false,eval e X.env) :: starEach [] X.env:=by rfl) (hplain:(backTo cpos (starEach [] X.env)).any (·.1) = false:=by rfl)
  (hsw:swapsWith (.Call (.Attribute (.Name x px) "extend" apos) [e] [] cpos) none pos.line X.env = pure false:=by rfl) :
  MS X io (.Expr (.Call (.Attribute (.Name x px) "extend" apos) [e] [] cpos) pos) (Zjm i m):=by
 obtain ⟨_,A,s⟩:=he
 refine ⟨_,Zji (Zzf PySem.F.plainAttrs_list PySem.F.slot_list_extend PySem.F.type_list_extend Zs3 (pv i hN hv hd hcd) (Zev A Ziu hs) hbase hfew hline hs hplain) hsw,fun C H σ δ fp ex D D' R h E=>?_⟩
 unfold Zjm at h
 split at h
 case h_2=>exact h.elim
 rename_i ts0 hi0
 obtain ⟨a',xs0,bs0,hv0,hx0,_,_⟩:=R.ownNd hi0
 refine ⟨_,hv0,.inl ⟨rfl,xs0,.inl (.inl hx0)⟩,?_⟩
 refine s C H σ δ fp ex _ _ R h fun H1 v r δ1 fp1 new r1 h1=>?_
 split at h1
 case h_2=>exact h1.elim
 rename_i rs ts1 hi1
 have R1:=r1.base
 obtain ⟨a1,xs1,bs1,hv1,hx1,o1,hf1⟩:=R1.ownNd hi1
 rw [hv0] at hv1
 cases hv1
 obtain ⟨b,zs,rfl,hb,lz,qs⟩:∃ b zs,v = .ref b∧H1 b = some (.lst zs)∧zs.length = rs.length∧Das X.K H1 (Lf C fp1 ex) zs (OT.datas rs):=by
  have ow:=r1.own
  have nw:∀ a ∈ new,Lf C fp1 ex a:=fun a m=>by
   refine ⟨fun qz=>?_,(R.newOk (r1.fresh a m)).2.1,.inr (R.newOk (r1.fresh a m)).2.2⟩
   obtain ⟨i,z⟩:=qz
   exact r1.rel.dx i a z (.inr m)
  cases ow with
  | nd hb r=>exact ⟨_,_,rfl,hb,r.length,r.das (fun a l _=>⟨(l rfl).1,fun z=>(l rfl).2.1 (.inl z),(l rfl).2.2⟩) fun a m=>nw a (.tail _ m)⟩
 refine ⟨a',b,xs1,zs,rfl,rfl,hx1,hb,by rw [o1.length,lz]; exact h1.1,?_⟩
 obtain ⟨R2,S2⟩:=R1.top hi1 hv0 hf1 hx1 (o1.app qs) (List.Sublist.refl _)
 exact E.nx _ σ _ _ R2 (r1.stp.kp.trans S2.kp) h1.2
noncomputable def Zgl (i:Nat) (e:FE):FS:=fun δ=>match δ[i]? with
 | some (some (.nd _))=>wE e (fun r δ1=>match r,δ1[i]? with
  | .nd rs,some (some (.nd ts))=>if ts.length + rs.length ≤ sizeLine then .nx (δ1.set i (some (.nd (ts ++ (OT.datas rs).map OT.fz)))) else .bad
  | _,_=>.bad) δ
 | _=>.bad
theorem Zry (h:MS X io st (Zjm i (o2 fa))):MS X io st (oS (Zgl i fa)):=h.weak fun D δ h=>by
 unfold oS Zgl at h; unfold Zjm
 split at h
 case h_2=>exact h.elim
 rename_i q; (try rw [q])
 refine (Zp4 h).imp fun r δ' z=>?_
 split at z
 ·rename_i q2; (try rw [q2]); exact Zj1 z
 ·exact z.elim
end
end L2
namespace L2
open PySem PySem.Spec PyProof.Rows
noncomputable def Up (xs:List Nat):Prop:=xs.Pairwise (· < ·)
structure Tb (b:Bool) (t:SetTable):Prop where
 led:t.led = b
 up:t.plain = true→Up t.place.toList
end L2
namespace L2
open PySem PySem.Spec PyProof.Rows
section
variable {prog:Program} {w:World} {A:Around} {E:Value→Shared→Prop} {s:Shared} {b:Bool}
end
end L2
namespace L2
open PySem PySem.Spec PyProof.Rows
section
variable {prog:Program} {w:World} {A:Around} {R:Result→Shared→Prop} {I:Addr} {fp wr:List Addr} {n:Nat} {Pv:Nat→Value→Prop} {St:Nat→Heap→Prop} {b:Bool}
end
section
variable {prog:Program} {w:World} {A:Around} {E:Value→Shared→Prop} {s:Shared}
end
end L2
namespace L2
open PySem PySem.Spec PyProof.Rows
section
variable {prog:Program} {w:World} {A:Around} {E:Value→Shared→Prop} {s:Shared}
end
end L2
namespace L2
open PySem PySem.Spec PyProof.Rows
section
variable {prog:Program} {w:World} {A:Around} {E:Value→Shared→Prop} {s:Shared}
end
end L2
namespace L2
open PySem PySem.Spec PyProof.Rows
section
variable {prog:Program} {w:World} {A:Around} {E:Value→Shared→Prop} {s:Shared}
end
end L2
namespace L2
open PySem PySem.Spec PyProof.Rows
section
variable {prog:Program} {w:World} {A:Around} {E:Value→Shared→Prop} {s:Shared}
end
end L2
namespace L2
open PySem PySem.Spec PyProof.Rows
section
variable {prog:Program} {w:World} {A:Around} {E:Value→Shared→Prop} {s:Shared}
end
end L2
namespace L2
open PySem PySem.Spec PyProof.Rows
section
variable {prog:Program} {w:World} {A:Around} {E:Value→Shared→Prop} {s:Shared}
end
end L2
namespace L2
open PySem PySem.Spec PyProof.Rows
section
variable {prog:Program} {w:World} {A:Around} {E:Value→Shared→Prop} {s:Shared}
end
end L2
namespace L2
open PySem PySem.Spec PyProof.Rows
section
variable {X:Cx} {p c:Bool} {io:List Nat} {a e:Expr} {pos pos' pl pr:Pos} {t:TA} {mr:MAt} {ra:FA}
end
end L2
namespace L2
open PySem PySem.Spec PyProof.Rows
section
variable {X:Cx} {io:List Nat} {st:Stmt} {ra:FA}
end
end L2
namespace L2
open PySem PySem.Spec PyProof.Rows
section
variable {κ:Type} [DecidableEq κ]
noncomputable def Zte (kvs:List (κ × V)) (k:κ):Option V:=(kvs.find? fun kv=>decide (kv.1 = k)).map (·.2)
noncomputable def putK (kvs:List (κ × V)) (k:κ) (v:V):List (κ × V) :=
 if (kvs.any fun kv=>decide (kv.1 = k)) = true then kvs.map (fun kv=>if kv.1 = k then (kv.1,v) else kv) else kvs ++ [(k,v)]
theorem Zuh {p:κ × V} {r:List (κ × V)} {k:κ} (e:p.1 = k):Zte (p :: r) k = some p.2:=by simp [Zte,List.find?_cons,e]
theorem Zvh {p:κ × V} {r:List (κ × V)} {k:κ} (e:¬ p.1 = k):Zte (p :: r) k = Zte r k:=by simp [Zte,List.find?_cons,e]
theorem KV.length {kvs:List (κ × V)} {vs:List (κ × Value)} (r:KV kvs vs):kvs.length = vs.length:=Paired.length r
end
noncomputable abbrev KT (H:Hp):List (List Key × V)→List (List Key × Addr × Value)→Prop:=Paired fun p q=>p.1 = q.1∧H q.2.1 = some (.tup (p.1.map kV))∧RelV p.2 q.2.2
section
variable {P:Program} {w:World} {H:Hp} {h:Heap} {a:Addr}
end
noncomputable def DGet (H:Hp) (a:Addr) (y:V) (r:Option V):Prop :=
 (∃ kvs k,Rd H a (.dK kvs)∧y = kV k∧r = Zte kvs k)∨∃ kvs k b,Rd H a (.dT kvs)∧y = .ref b∧H b = some (.tup (k.map kV))∧r = Zte kvs k
noncomputable def DPut (H:Hp) (a:Addr) (y v:V) (H':Hp):Prop :=
 (∃ kvs k,H a = some (.dK kvs)∧y = kV k∧kvs.length < sizeLine∧H' = upd H a (.dK (putK kvs k v))) ∨
 ∃ kvs k b,H a = some (.dT kvs)∧y = .ref b∧H b = some (.tup (k.map kV))∧kvs.length < sizeLine∧H' = upd H a (.dT (putK kvs k v))
theorem DGet.k {H:Hp} {a:Addr} {kvs:List (Key × V)} {k:Key} (e:H a = some (.dK kvs)):DGet H a (kV k) (Zte kvs k):=.inl ⟨kvs,k,.inl e,rfl,rfl⟩
theorem DGet.t {H:Hp} {a b:Addr} {kvs:List (List Key × V)} {k:List Key} (e:H a = some (.dT kvs)) (eb:H b = some (.tup (k.map kV))):DGet H a (.ref b) (Zte kvs k):=.inr ⟨kvs,k,b,.inl e,rfl,eb,rfl⟩
theorem DPut.k {H:Hp} {a:Addr} {kvs:List (Key × V)} {k:Key} {v:V} (e:H a = some (.dK kvs)) (hl:kvs.length < sizeLine):DPut H a (kV k) v (upd H a (.dK (putK kvs k v))):=.inl ⟨kvs,k,e,rfl,hl,rfl⟩
theorem DPut.t {H:Hp} {a b:Addr} {kvs:List (List Key × V)} {k:List Key} {v:V} (e:H a = some (.dT kvs)) (eb:H b = some (.tup (k.map kV))) (hl:kvs.length < sizeLine) :
  DPut H a (.ref b) v (upd H a (.dT (putK kvs k v))):=.inr ⟨kvs,k,b,e,rfl,eb,hl,rfl⟩
section
variable {X:Cx} {pins:List (Addr × Obj)} {σ:St} {H:Hp} {s:Shared} {a:Addr} {y v:V} {u r:Value} {o:Option V} {A:Around} {E:Value→Shared→Prop}
end
section
variable {X:Cx} {pins:List (Addr × Obj)} {σ:St} {H:Hp} {s:Shared} {a:Addr} {kvs:List (Key × V)} {k:Key} {u:Value} {A:Around} {E:Value→Shared→Prop}
end
section
variable {X:Cx} {o i e value:Expr} {pos pos' tpos:Pos} {td ty tv:TE}
end
section
variable {X:Cx} {pos:Pos}
end
noncomputable abbrev VV:List (V × V)→List (Value × Value)→Prop:=Paired fun p q=>RelV p.1 q.1∧RelV p.2 q.2
structure M1 (X:Cx) (o:Expr) (m:Str) (apos:Pos) (e:Expr) (cpos:Pos):Prop where
 base:attributeBase o m X.env (eval o X.env) = eval o X.env
 few:((backTo cpos (starEach [e] X.env)).all (fun x=>!x.1) && (backToKw cpos (keywordEach [] X.env)).all (fun x=>x.1.isSome)
  && decide (([e]:List Expr).length + ([]:List Keyword).length + (if ([]:List Keyword).isEmpty then 0 else 1) < 30)) = true
 line:(apos.endLine == cpos.line) = true
 trees:backTo cpos (starEach [e] X.env) = [(false,eval e X.env)]
structure M2 (X:Cx) (o:Expr) (m:Str) (apos:Pos) (e f:Expr) (cpos:Pos):Prop where
 base:attributeBase o m X.env (eval o X.env) = eval o X.env
 few:((backTo cpos (starEach [e,f] X.env)).all (fun x=>!x.1) && (backToKw cpos (keywordEach [] X.env)).all (fun x=>x.1.isSome)
  && decide (([e,f]:List Expr).length + ([]:List Keyword).length + (if ([]:List Keyword).isEmpty then 0 else 1) < 30)) = true
 line:(apos.endLine == cpos.line) = true
 trees:backTo cpos (starEach [e,f] X.env) = [(false,eval e X.env),(false,eval f X.env)]
section
variable {X:Cx} {pins:List (Addr × Obj)} {σ:St} {H:Hp} {s:Shared} {a:Addr} {y d:V} {u r:Value} {o:Option V} {A:Around} {E:Value→Shared→Prop}
end
section
variable {X:Cx} {o e f:Expr} {apos cpos:Pos} {td ty tx:TE}
end
end L2
namespace L2
open PySem PySem.Spec PyProof.Rows
variable {G:PySem.W.Frag}
noncomputable def Z43 (k:KY):List KY→List PyData→Option PyData
 | [],_=>none
 | _ :: _,[]=>none
 | j :: ks,d :: ds=>if j = k then some d else Z43 k ks ds
section
variable {H:Hp} {L:Addr→Prop} {κ:Type} [DecidableEq κ] {f:κ→KY}
noncomputable def Z6y (G:PySem.W.Frag) (H:Hp) (L:Addr→Prop) (a:Option V) (b:Option PyData):Prop:=(∃ v d,a = some v∧b = some d∧Da G H L v d)∨(a = none∧b = none)
theorem look (hf:∀ a b,f a = f b→a = b) (k:κ) (kvs:List (κ × V)):∀ ds,Das G H L (kvs.map (·.2)) ds→Z6y G H L (Zte kvs k) (Z43 (f k) (kvs.map fun p=>f p.1) ds):=by
 induction kvs with
 | nil=>exact fun ds _=>.inr ⟨rfl,rfl⟩
 | cons p kvs ih =>
  intro ds h
  cases h with
  | cons h r =>
   rename_i d ds
   show Z6y G H L _ (if f p.1 = f k then some d else Z43 (f k) (kvs.map fun p=>f p.1) ds)
   by_cases e:p.1 = k
   ·rw [Zuh e,if_pos (congrArg f e)]
    exact .inl ⟨_,_,rfl,rfl,h⟩
   ·rw [Zvh e,if_neg fun z=>e (hf _ _ z)]
    exact ih _ r
end
section
variable {H:Hp} {L:Addr→Prop} {y:V} {e:PyData}
end
end L2
namespace L2
open PySem PySem.Spec PyProof.Rows
variable {G:PySem.W.Frag}
section
variable {X:Cx} {io:List Nat} {p c p' c':Bool} {a b e f o:Expr} {ma mb m mi mo me mf:MEt} {pos pp apos cpos px:Pos} {i:Nat} {x:Str}
end
end L2
namespace L2
open PySem PySem.Spec PyProof.Rows
variable {G:PySem.W.Frag}
end L2
namespace L2
open PySem PySem.Spec PyProof.Rows PySem.W PySem.SeqAt
variable {G:PySem.W.Frag}
section
variable {prog:Program} {w:World} {A:Around} {E:Value→Shared→Prop} {s:Shared}
end
end L2
namespace L2
open PySem PySem.Spec PyProof.Rows
variable {G:PySem.W.Frag}
noncomputable def Zmq {α:Type} (xs:List α) (k:Nat) (y:α):List α:=xs.take k ++ y :: xs.drop k
noncomputable def Zyr:V→List V→Hp→VK→Prop:=fun x vs H Q=>∃ (l:Addr) (xs:List V) (i:Int) (y:V),x = .ref l∧vs = [.int i,y]∧H l = some (.lst xs)∧0 ≤ i∧i ≤ xs.length∧xs.length < sizeLine∧Q .non (upd H l (.lst (Zmq xs i.toNat y)))
theorem Zqi {X:Cx}:MtM X "list.insert" Zyr:=by
 intro pins s σ H x vs v us Q I rx rv h
 obtain ⟨l,xs,i,y,rfl,rfl,hH,h0,h1,hz,q⟩:=h
 cases rx
 obtain ⟨a,b,rfl,ra,rb⟩:=vals2 rv
 obtain ⟨t,rfl⟩:=(show ∃ t,a = Value.int i t from ra)
 obtain ⟨z,its,n,r,hl,e⟩:=I.lstM hH
 have hs:sizeLine = 16777216:=sizeLine_eq
 have fi:¬ (!Builtin.List.listFitsIndex i) = true:=by
  have:Builtin.List.listFitsIndex i = true:=fitsIndex_both (by omega) (by omega)
  rw [this]; exact Bool.false_ne_true
 refine call_meets F.slot_list_insert ⟨_,e,rfl⟩ F.entry_list_insert (F.args_list_insert_3 _ _ _) (AutoListH.list_insert_list_int_val_1 l its.toArray n i t b fi (by rw [List.size_toArray]; omega)) ⟨e,?_⟩
 refine ⟨.non,_,I.lset (its':=Zmq its i.toNat b) hH e ?_ ((r.take i.toNat).append (.cons rb (r.drop i.toNat))) ?_,rfl,q⟩
 ·have k:(if i < 0 then (i + (its.toArray.size:Int)).toNat else min i.toNat its.toArray.size) = i.toNat:=by
   rw [if_neg (by omega),List.size_toArray]; omega
  show ((its.toArray.extract 0 (if i < 0 then (i + (its.toArray.size:Int)).toNat else min i.toNat its.toArray.size)).push b ++ its.toArray.extract (if i < 0 then (i + (its.toArray.size:Int)).toNat else min i.toNat its.toArray.size)) = (Zmq its i.toNat b).toArray
  rw [k]
  apply Array.toList_inj.mp
  unfold Zmq
  simp [Array.toList_extract]
  exact List.take_of_length_le (by rw [List.length_drop]; exact Nat.le_refl _)
 ·rw [List.length_append,List.length_cons,List.length_take,List.length_drop]; omega
theorem Owns.ins {H:Hp} {L:Addr→Prop} {x:V} {r:OT} (hr:Own G H L x r []):∀ (k:Nat) {xs:List V} {ts:List OT} {as:List Addr},Owns G H L xs ts as→Owns G H L (Zmq xs k x) (Zmq ts k r) as
 | 0,_,_,_,h=>.cons hr h
 | k + 1,_,_,_,.nil=>.cons hr .nil
 | k + 1,_,_,_,.cons h t=>.cons h (Owns.ins hr k t)
section
variable {X:Cx} {io:List Nat} {p c:Bool} {e f:Expr} {mr:MAt} {pos apos cpos px:Pos} {x:Str} {st:Stmt} {ra:FA}
noncomputable def Zjb (i:Nat) (mr:MAt):MSt:=fun D δ=>match δ[i]? with
 | some (some (.nd _))=>mr δ fun rs δ1=>match OT.datas rs,δ1[i]? with
  | [.int k,d],some (some (.nd ts))=>(0 ≤ k∧k ≤ ts.length∧ts.length < sizeLine)∧D.nx (δ1.set i (some (.nd (Zmq ts k.toNat (.fz d)))))
  | _,_=>False
 | _=>False
theorem Zqt (i:Nat) (ha:MA X io p true [e,f] mr) (hN:X.N[i]? = some x:=by rfl) (hv:Vis X.env.scope x:=by first | exact Or.inl rfl | exact Or.inr (Or.inl rfl) | exact Or.inr (Or.inr rfl)) (hd:(x == ("__debug__" : Str)) = false:=by decide)
  (hcd:(x == ("__classdict__" : Str)) = false:=by decide)
  (hbase:attributeBase (.Name x px) "insert" X.env (eval (.Name x px) X.env) = eval (.Name x px) X.env:=by rfl)
  (hfew:((backTo cpos (starEach [e,f] X.env)).all (fun x=>!x.1) && (backToKw cpos (keywordEach [] X.env)).all (fun x=>x.1.isSome)
   && decide ([e,f].length + ([]:List Keyword).length + (if ([]:List Keyword).isEmpty then 0 else 1) < 30)) = true:=by rfl)
  (hline:(apos.endLine == cpos.line) = true:=by rfl) (hs:starEach [e,f] X.env = (false,eval e X.env) :: starEach [f] X.env:=by rfl) (hplain:(backTo cpos (starEach [f] X.env)).any (·.1) = false:=by rfl)
  (hsw:swapsWith (.Call (.Attribute (.Name x px) "insert" apos) [e,f] [] cpos) none pos.line X.env = pure false:=by rfl) :
  MS X io (.Expr (.Call (.Attribute (.Name x px) "insert" apos) [e,f] [] cpos) pos) (Zjb i mr):=by
 obtain ⟨_,A,s⟩:=ha
 refine ⟨_,Zji (Zzf PySem.F.plainAttrs_list PySem.F.slot_list_insert PySem.F.type_list_insert Zqi (pv i hN hv hd hcd) A hbase hfew hline hs hplain) hsw,fun C H σ δ fp ex D D' R h E=>?_⟩
 unfold Zjb at h
 split at h
 case h_2=>exact h.elim
 rename_i ts0 hi0
 obtain ⟨a',xs0,bs0,hv0,hx0,_,_⟩:=R.ownNd hi0
 refine ⟨_,hv0,.inl ⟨rfl,xs0,.inl (.inl hx0)⟩,?_⟩
 refine s C H σ δ fp ex _ _ R h fun H1 vs rs δ1 fp1 new r1 h1=>?_
 have q0:=r1.das R
 split at h1
 case h_2=>exact h1.elim
 rename_i k d ts1 ed hi1
 have R1:=r1.base
 obtain ⟨a1,xs1,bs1,hv1,hx1,o1,hf1⟩:=R1.ownNd hi1
 rw [hv0] at hv1
 cases hv1
 rw [ed] at q0
 cases q0 with
 | cons qk q0 =>
  cases q0 with
  | cons qd q0 =>
   cases q0
   cases qk
   have q:=qd.wide (L':=Lf C fp1 ex) fun a l _=>l rfl
   obtain ⟨⟨k0,k1,k2⟩,h1⟩:=h1
   rw [← o1.length] at k1 k2
   refine ⟨a',xs1,k,_,rfl,rfl,hx1,k0,k1,k2,?_⟩
   obtain ⟨R2,S2⟩:=R1.top hi1 hv0 hf1 hx1 (Owns.ins (.fz q) k.toNat o1) (List.Sublist.refl _)
   exact E.nx _ σ _ _ R2 (r1.stp.kp.trans S2.kp) h1
noncomputable def Zhd (i:Nat) (as:FA):FS:=fun δ=>match δ[i]? with
 | some (some (.nd _))=>match as δ with
  | some (rs,δ1)=>match OT.datas rs,δ1[i]? with
   | [.int k,d],some (some (.nd ts))=>if 0 ≤ k∧k ≤ ts.length∧ts.length < sizeLine then .nx (δ1.set i (some (.nd (Zmq ts k.toNat (.fz d))))) else .bad
   | _,_=>.bad
  | none=>.bad
 | _=>.bad
theorem Zrm {i:Nat} (h:MS X io st (Zjb i (o2 ra))):MS X io st (oS (Zhd i ra)):=h.weak fun D δ h=>by
 unfold oS Zhd at h; unfold Zjb
 split at h
 case h_2=>exact h.elim
 rename_i q; (try rw [q])
 split at h
 case h_2=>exact h.elim
 rename_i rs δ1 er
 refine ⟨rs,δ1,er,?_⟩
 split at h
 case h_2=>exact h.elim
 rename_i k d ts ed hi1
 rw [ed,hi1]
 exact Zj1 h
end
end L2
namespace L2
open PySem PySem.Spec PyProof.Rows PySem.W PySem.SeqAt
noncomputable def kdP:PyData→Option (Int × Int):=fun d=>match d with | .tuple [.int a,.int b]=>some (a,b) | _=>none
noncomputable def ltP:Int × Int→Int × Int→Bool:=fun a b=>if a.1 = b.1 then (if a.2 = b.2 then false else decide (a.2 < b.2)) else decide (a.1 < b.1)
theorem Zg3 {d:PyData} {k:Int × Int} (h:kdP d = some k):d = .tuple [.int k.1,.int k.2]:=by
 unfold kdP at h
 split at h
 case h_2=>cases h
 cases h; rfl
theorem Zmv {h:Heap} {k:Int × Int} {u:Value} {as:List Addr} (r:Reads h u (.tuple [.int k.1,.int k.2]) as):∃ (t:Addr) (o:Obj) (n:Nat) (t1 t2:Tok),u = .ref t∧h.get? t = some o∧o.cls = .type "tuple" ∧ o.data = .seq #[.int k.1 t1,.int k.2 t2] n:=by
 cases r with
 | @tuple t o vs n xs as e c d q =>
  obtain ⟨l,hl⟩:∃ l,l = vs.toList:=⟨_,rfl⟩
  rw [← hl] at q
  cases q with
  | cons r1 q =>
   cases q with
   | cons r2 q =>
    cases q
    cases r1
    cases r2
    rename_i t1 t2
    have:vs = #[.int k.1 t1,.int k.2 t2]:=Array.toList_inj.mp hl.symm
    subst this
    exact ⟨t,o,n,t1,t2,rfl,e,c,d⟩
theorem Z3a:Z73 kdP ltP:=by
 refine ⟨fun d k h=>by rw [Zg3 h]; exact (Zrq [k.1,k.2]).1,tuples' true,fun prog w A E s vs ds as Q h2 r hk q=>?_,fun prog w A E s u v d e as bs k m C hu r1 r2 h1 h2 h=>?_⟩
 ·have key:∃ fs:List Value,KatTups s.heap vs fs∧fs.length = vs.length∧∀ v ∈ fs,∃ i t,v = .int i t:=by
   clear h2 q
   induction ds generalizing vs as with
   | nil=>cases r; exact ⟨[],trivial,rfl,fun _ m=>nomatch m⟩
   | cons d ds ih =>
    cases r with
    | cons r q =>
     obtain ⟨fs,t,l,z⟩:=ih _ _ q fun d m=>hk d (.tail _ m)
     obtain ⟨k,hk⟩:=hk d (.head _)
     rw [Zg3 hk] at r
     obtain ⟨t',o,n,t1,t2,rfl,e,c,hd⟩:=Zmv r
     refine ⟨.int k.1 t1 :: fs,KatTups.cons e c hd rfl t,congrArg Nat.succ l,fun v hv=>?_⟩
     rcases List.mem_cons.mp hv with rfl | hv
     ·exact ⟨_,_,rfl⟩
     ·exact z v hv
  obtain ⟨fs,t,l,z⟩:=key
  exact kat_kind (T:=.type "int") t (by omega) (fun v hv=>by obtain ⟨i,t,rfl⟩:=z v hv; exact (show Looks _ _ (pure (Value.type "int")) _ from .now)) rfl q
 ·rw [Zg3 h1] at r1
  rw [Zg3 h2] at r2
  obtain ⟨t1,o1,n1,x1,y1,rfl,g1,c1,d1⟩:=Zmv r1
  obtain ⟨t2,o2,n2,x2,y2,rfl,g2,c2,d2⟩:=Zmv r2
  refine kat_lt g1 d1 g2 d2 (kat_cons ?_)
  refine EqAt.int_int _ _ _ _ prog w _ _ ?_
  unfold ltP at h
  by_cases c:k.1 = m.1
  ·rw [if_pos c] at h
   rw [beq_iff_eq.mpr c]
   refine kat_yes (kat_cons ?_)
   refine EqAt.int_int _ _ _ _ prog w _ _ ?_
   by_cases c':k.2 = m.2
   ·rw [if_pos c'] at h
    rw [beq_iff_eq.mpr c']
    exact kat_yes (kat_nil h)
   ·rw [if_neg c'] at h
    rw [beq_eq_false_iff_ne.mpr c']
    exact kat_no (kat_one _ _ (Z27 h))
  ·rw [if_neg c] at h
   rw [beq_eq_false_iff_ne.mpr c]
   exact kat_no (oneLt_int h)
end L2
namespace L2
open PySem PySem.Spec PyProof.Rows
variable {G:PySem.W.Frag}
noncomputable def Z25 (K:PySem.W.Frag):R2:=fun x y H Q=>Z0u K x y H Q∨∃ a b ys,x = .ref a∧y = .ref b∧SqT K H a []∧SqT K H b ys∧Q (.ref b) H
theorem Zz3 {X:Cx}:OpR X (binaryOp .Add) (Z25 X.K):=by
 intro pins s σ H x y v u Q I rx ry h
 rcases h with h | h
 ·exact Zyx pins s σ H x y v u Q I rx ry h
 ·obtain ⟨a,b,ys,rfl,rfl,ha,hb,q⟩:=h
  cases rx
  cases ry
  obtain ⟨its,r1,p1,_⟩:=I.tuple ha
  obtain ⟨its2,r2,p2,_⟩:=I.tuple hb
  cases r1
  obtain ⟨⟨cls,dd,data,sl⟩,ho,hc,n,hd⟩:=id p1
  obtain ⟨⟨cls2,dd2,data2,sl2⟩,ho2,hc2,n2,hd2⟩:=id p2
  simp only at hc hd hc2 hd2
  subst hc hd hc2 hd2
  exact concat_meets ⟨_,ho,rfl⟩ ⟨_,ho2,rfl⟩ noFill_tuple_add seq_tuple_add PySem.F.slot_tuple_add PySem.F.entry_tuple_add (PySem.F.args_tuple_add_2 _ _)
   (tuple_addW0 a b _ its2.toArray n n2 dd dd2 sl sl2 rfl) ⟨ho,ho2,.ref b,H,I,rfl,q⟩
noncomputable def Zpj:PyData→PyData→Option OT:=fun d e=>match d,e with | .tuple ds,.tuple es=>if ds.length + es.length ≤ sizeLine then some (.fz (.tuple (ds ++ es))) else none | _,_=>none
noncomputable def Z1i:PyData→PyData→(OT→Prop)→Prop:=fun d e k=>∃ r,Zpj d e = some r∧k r
theorem Z31:ByO Zpj Z1i:=fun _ _ r _ h hk=>⟨r,h,hk⟩
theorem Zyv:P2 G (Z25 G) Z1i:=fun H L x y d e k Q hx hy h kk=>by
 obtain ⟨r,h,hk⟩:=h
 unfold Zpj at h
 split at h
 case h_2=>cases h
 rename_i ds es
 by_cases c:ds.length + es.length ≤ sizeLine
 ·rw [if_pos c] at h
  cases h
  have same:∀ v,Da G H L v (.tuple (ds ++ es))→Q v H:=fun v q=>kk H v _ [] (Same.refl _) (.fz (q.wide fun a l _=>⟨.inl l,fun m=>nomatch m⟩)) .nil (fun a m=>nomatch m) hk
  cases hx with
  | tup e1 r1 =>
   cases hy with
   | tup e2 r2 =>
    rename_i a1 xs1 a2 xs2
    by_cases z:xs1 = []
    ·subst z
     cases r1
     exact .inr ⟨_,_,_,rfl,rfl,.inl (.inl e1),.inl (.inl e2),same _ (.tup e2 r2)⟩
    ·refine .inl ⟨_,_,_,_,rfl,rfl,.inl (.inl e1),.inl (.inl e2),z,by rw [r1.length,r2.length]; exact c,fun w=>?_,fun w p hp=>?_⟩
     ·subst w
      cases r2
      rw [List.append_nil] at same
      exact same _ (.tup e1 r1)
     ·exact kk _ _ _ [] (Y9 hp _) (.fz (.tup Y5 (((r1.append r2).wide fun a l _=>⟨.inl l,fun m=>nomatch m⟩).same (Y9 hp _)))) .nil (fun a m=>nomatch m) hk
 ·rw [if_neg c] at h; cases h
end L2
namespace L2
open PySem PySem.Spec PyProof.Rows
noncomputable def Z70 (o:Option (Option OT)) (δ:Zr):Option (OT × Zr):=match o with | some (some (.fz d))=>some (.fz d,δ) | _=>none
theorem Zzx (d:PyData) (δ:Zr):Z70 (some (some (.fz d))) δ = some (.fz d,δ):=rfl
noncomputable def Z02 (o:Option (Option OT)) (δ:Zr):Option (OT × Zr):=match o with | some (some t)=>some (.fz t.data,δ) | _=>none
theorem Zx7 (t:OT) (δ:Zr):Z02 (some (some t)) δ = some (.fz t.data,δ):=rfl
theorem Zxe (i:Nat) (δ:Zr):Zk i δ = Z70 δ[i]? δ:=rfl
theorem Zxu (i:Nat) (δ:Zr):Zek i δ = Z02 δ[i]? δ:=rfl
theorem Z6j (d:PyData) (δ:Zr):fC d δ = some (.fz d,δ):=rfl
theorem Zn2 (g:PyData→PyData→Option PyData) (a b:FE) (δ:Zr):Zq g a b δ = (a δ).bind fun p=>(b p.2).bind fun q=>(g p.1.data q.1.data).bind fun d=>some (.fz d,q.2):=rfl
theorem Zsd (g:PyData→PyData→Option OT) (a b:FE) (δ:Zr):Wa g a b δ = (a δ).bind fun p=>(b p.2).bind fun q=>(g p.1.data q.1.data).bind fun d=>some (d,q.2):=rfl
theorem Z32 (g:PyData→Option PyData) (a:FE) (δ:Zr):fUn g a δ = (a δ).bind fun p=>(g p.1.data).bind fun d=>some (.fz d,p.2):=rfl
noncomputable def onB {α:Type} (d:PyData) (x y:Option α):Option α:=match d with | .bool true=>x | .bool false=>y | _=>none
theorem Z6c {α:Type} (x y:Option α):onB (.bool true) x y = x:=rfl
theorem Zx1 (a b:FE) (δ:Zr):Z0d a b δ = (a δ).bind fun p=>onB p.1.data (b p.2) (some (.fz (.bool false),p.2)):=by
 unfold Z0d onB
 cases a δ with
 | none=>rfl
 | some p=>first | rfl | (simp only [Option.bind_some]; done) | (simp only [Option.bind_some]; generalize p.1.data = d; cases d <;> first | rfl | (rename_i b; cases b <;> rfl))
noncomputable def Z5a (t:OT) (δ:Zr):Option (Bool × Zr):=match t with | .fz (.bool b)=>some (b,δ) | _=>none
theorem Z30 (b:Bool) (δ:Zr):Z5a (.fz (.bool b)) δ = some (b,δ):=rfl
theorem Z51 (e:FE) (δ:Zr):tV e δ = (e δ).bind fun p=>Z5a p.1 p.2:=by
 unfold tV Z5a
 cases e δ with
 | none=>rfl
 | some p=>rfl
theorem Z3j (t:FT) (δ:Zr):tNo t δ = (t δ).bind fun p=>some (!p.1,p.2):=rfl
theorem Zws (t u:FT) (δ:Zr):tAn t u δ = (t δ).bind fun p=>if p.1 = true then u p.2 else some (false,p.2):=rfl
theorem Z5i (t u:FT) (δ:Zr):tO t u δ = (t δ).bind fun p=>if p.1 = true then some (true,p.2) else u p.2:=rfl
theorem Z6l (e:FE) (δ:Zr):tD e δ = (e δ).bind fun p=>(Z4b p.1.data).bind fun b=>some (b,p.2):=rfl
theorem Zj3 (e:FE) (a:FA) (δ:Zr):Ze e a δ = (e δ).bind fun p=>(a p.2).bind fun q=>some (p.1 :: q.1,q.2):=rfl
theorem Zyl (a:FA) (δ:Zr):Zj8 a δ = (a δ).bind fun p=>if p.1.length ≤ sizeLine then some (.fz (.tuple (OT.datas p.1)),p.2) else none:=rfl
theorem Zhu (a:FA) (δ:Zr):Zd3 a δ = (a δ).bind fun p=>if p.1.length ≤ sizeLine then some (.nd p.1,p.2) else none:=rfl
theorem Zvg (a:FA) (δ:Zr):Zug a δ = (a δ).bind fun p=>if p.1.length ≤ sizeLine then some (.tp p.1,p.2) else none:=rfl
theorem Zn5 (e:FE) (δ:Zr):Zht e δ = (e δ).bind fun p=>if Zc5 p.1.data = true then some (.fz p.1.data,p.2) else none:=rfl
noncomputable def okO (x:RF) (δ:Zr):Option (OT × Zr):=match x with | .ok r=>some (r,δ) | _=>none
theorem Z0v (r:OT) (δ:Zr):okO (.ok r) δ = some (r,δ):=rfl
theorem Zkg (F:FD) (a:FA) (δ:Zr):Wc F a δ = (a δ).bind fun p=>okO (F (OT.datas p.1)) p.2:=by
 unfold Wc okO
 cases a δ with
 | none=>rfl
 | some p=>rfl
noncomputable def atO {α:Type} (o:Option (Option OT)) (k:OT→Option α):Option α:=match o with | some (some t)=>k t | _=>none
theorem Ztb (i:Nat) (F:FIO) (a:FA) (δ:Zr):Yh i F a δ = atO δ[i]? fun _=>(a δ).bind fun p=>atO p.2[i]? fun t=>(F t (OT.datas p.1)).bind fun q=>some (q.1,p.2.set i (some q.2)):=by
 unfold Yh
 generalize δ[i]? = o
 rcases o with _ | _ | t
 ·rfl
 ·rfl
 ·show (a δ).bind _ = (a δ).bind _
  cases a δ with
  | none=>rfl
  | some p =>
   show (fun o:Option (Option OT)=>(match o with | some (some t)=>(F t (OT.datas p.1)).bind fun q=>some (q.1,p.2.set i (some q.2)) | _=>none)) p.2[i]? = atO p.2[i]? _
   generalize p.2[i]? = o
   rcases o with _ | _ | t <;> rfl
theorem Zxf (g:List PyData→Option PyData) (a:FA) (δ:Zr):Zdq g a δ = (a δ).bind fun p=>(g (OT.datas p.1)).bind fun d=>some (.fz d,p.2):=rfl
theorem Z11 (g:List PyData→Option OT) (a:FA) (δ:Zr):fBl g a δ = (a δ).bind fun p=>(g (OT.datas p.1)).bind fun d=>some (d,p.2):=rfl
theorem Zzk (T:String) (e:FE) (δ:Zr):Zv4 T e δ = (e δ).bind fun p=>if Zii p.1.data = true then none else some (.fz (.bool (Zp5 T p.1.data)),p.2):=rfl
noncomputable def asInt {α:Type} (d:PyData) (k:Int→Option α):Option α:=match d with | .int i=>k i | _=>none
theorem Zxp {α:Type} (i:Int) (k:Int→Option α):asInt (.int i) k = k i:=rfl
noncomputable def Zsq {α:Type} (d:PyData) (k:List PyData→Option α):Option α:=match d with | .list i=>k i | _=>none
theorem Zq3 {α:Type} (i:List PyData) (k:List PyData→Option α):Zsq (.list i) k = k i:=rfl
theorem Z5b (e:FE) (δ:Zr):oI e δ = (e δ).bind fun p=>asInt p.1.data fun i=>some (some i,p.2):=by
 unfold oI asInt
 cases e δ with
 | none=>rfl
 | some p=>rfl
theorem Z1g (e:FE) (lo hi:FO) (δ:Zr):fSl e lo hi δ = (e δ).bind fun p=>(lo p.2).bind fun q=>(hi q.2).bind fun r=>Zsq p.1.data fun ds=>some (.nd ((cutD ds q.1 r.1).map OT.fz),r.2):=by
 unfold fSl Zsq; rfl
theorem Zzv (e:FE) (δ:Zr):Zga e δ = (e δ).bind fun p=>Zsq p.1.data fun ds=>some (ds,p.2):=by
 unfold Zga Zsq; rfl
noncomputable def as1 {α:Type} (ds:List PyData) (k:Int→Option α):Option α:=match ds with | [.int i]=>k i | _=>none
theorem Zxn {α:Type} (i:Int) (k:Int→Option α):as1 [.int i] k = k i:=rfl
noncomputable def as2 {α:Type} (ds:List PyData) (k:Int→Int→Option α):Option α:=match ds with | [.int i,.int j]=>k i j | _=>none
theorem Z5r {α:Type} (i j:Int) (k:Int→Int→Option α):as2 [.int i,.int j] k = k i j:=rfl
theorem Zvp (a:FA) (δ:Zr):iRa a δ = (a δ).bind fun p=>as1 (OT.datas p.1) fun j=>if rOk j = true then some (Zc4 0 j.toNat,p.2) else none:=by
 unfold iRa as1; rfl
theorem Z2q (a:FA) (δ:Zr):iRb a δ = (a δ).bind fun p=>as2 (OT.datas p.1) fun i j=>if (rOk i && rOk j) = true then some (Zc4 i (j - i).toNat,p.2) else none:=by
 unfold iRb as2; rfl
theorem Zww (a:FA) (δ:Zr):Zz8 a δ = (a δ).bind fun p=>as1 (OT.datas p.1) fun j=>if rOk j = true∧j.toNat ≤ sizeLine then some (.nd ((Zc4 0 j.toNat).map OT.fz),p.2) else none:=by
 unfold Zz8 as1; rfl
theorem Zzs (i:Nat) (d:PyData) (δ:Zr):Zp3 i d δ = if Zc5 d = true then some (δ.set i (some (.fz d))) else none:=rfl
noncomputable def RS.thn (r:RS) (g:FS):RS:=match r with | .nx δ=>g δ | r=>r
theorem Zqs (δ:Zr) (g:FS):(RS.nx δ).thn g = g δ:=rfl
theorem Zvr (r:OT) (δ:Zr) (g:FS):(RS.rt r δ).thn g = .rt r δ:=rfl
theorem Zhf (f g:FS) (δ:Zr):Yj f g δ = (f δ).thn g:=rfl
noncomputable def onO {α:Type} (o:Option (α × Zr)) (k:α→Zr→RS):RS:=match o with | some (r,δ')=>k r δ' | none=>.bad
theorem Jd {α:Type} (r:α) (δ:Zr) (k:α→Zr→RS):onO (some (r,δ)) k = k r δ:=rfl
theorem Zel (e:FE) (k:OT→Zr→RS) (δ:Zr):wE e k δ = onO (e δ) k:=by
 unfold wE onO
 cases e δ <;> rfl
theorem Zsn (t:FT) (u w:FS) (δ:Zr):Zc3 t u w δ = onO (t δ) fun b δ'=>if b = true then u δ' else w δ':=by
 unfold Zc3 onO
 cases t δ <;> rfl
theorem Zy6 (it:FI) (g:FG) (u:FS) (δ:Zr):Zaz it g u δ = onO (it δ) fun ds δ1=>forLoop g u ds δ1:=by
 unfold Zaz onO
 cases it δ <;> rfl
theorem Zx3 (r:OT) (δ:Zr):Zar r δ = .rt r δ:=rfl
theorem Zyw (i:Nat) (r:OT) (δ:Zr):Jb i r δ = .nx (δ.set i (some (.fz r.data))):=rfl
theorem Zt7 (i:Nat) (r:OT) (δ:Zr):Zdr i r δ = .nx (δ.set i (some r)):=rfl
noncomputable def onT (o:Option (Option OT)) (k:OT→RS):RS:=match o with | some (some t)=>k t | _=>.bad
theorem Zyk (t:OT) (k:OT→RS):onT (some (some t)) k = k t:=rfl
theorem Znl (i:Nat) (δ:Zr):Zfw i δ = onT δ[i]? fun t=>.rt t (δ.set i none):=rfl
theorem Zo9 (i:Nat) (u:FS) (δ:Zr):Zh1 i u δ = onT δ[i]? fun t=>u (δ.set i (some (.fz t.data))):=rfl
noncomputable def onN (o:Option (Option OT)) (k:List OT→RS):RS:=match o with | some (some (.nd ts))=>k ts | _=>.bad
theorem Z05 (t:List OT) (k:List OT→RS):onN (some (some (.nd t))) k = k t:=rfl
theorem Zo3 (i:Nat) (e:FE) (δ:Zr):Zah i e δ = onN δ[i]? fun _=>onO (e δ) fun r δ1=>onN δ1[i]? fun ts=>if ts.length < sizeLine then .nx (δ1.set i (some (.nd (ts ++ [.fz r.data])))) else .bad:=by
 unfold Zah
 generalize δ[i]? = o
 rcases o with _ | _ | (_ | _ | _ | _)
 ·rfl
 ·rfl
 ·rfl
 ·show wE e _ δ = onO (e δ) _
  rw [Zel]
  congr 1
 ·rfl
 ·rfl
noncomputable def onI (d:PyData) (k:Int→RS):RS:=match d with | .int i=>k i | _=>.bad
noncomputable def onX (o:Option Nat) (k:Nat→RS):RS:=match o with | some i=>k i | _=>.bad
theorem Zxi (i:Nat) (e j:FE) (δ:Zr):Zzr i e j δ = onO (e δ) fun r δ1=>onN δ1[i]? fun ts=>onO (j δ1) fun n _=>onI n.data fun k=>onX (ixN ts.length k) fun j=>.nx (δ1.set i (some (.nd (ts.set j (.fz r.data))))):=by
 unfold Zzr
 rw [Zel]
 congr 1
 funext r δ1
 generalize δ1[i]? = o
 rcases o with _ | _ | (_ | _ | _ | _)
 ·rfl
 ·rfl
 ·rfl
 ·show wE j _ δ1 = onO (j δ1) _
  rw [Zel]
  congr 1
  funext n δ2
  generalize n.data = d
  cases d <;> try rfl
  show (match ixN _ _ with | some j=>_ | none=>_) = onX (ixN _ _) _
  generalize ixN _ _ = x
  cases x <;> rfl
 ·rfl
 ·rfl
theorem Zdo {np n:Nat} {S:FS} {ds:List PyData} (h:ds.length = np):Zdi np n S ds = (S (Zep n ds)).told:=by
 unfold Zdi; rw [if_pos h]
theorem Zz2 {np n:Nat} {S:FS} {t:OT} {ds:List PyData} (h:ds.length + 1 = np):Zns np n S t ds = (S (Zjp n t ds)).toldI:=by
 unfold Zns; rw [if_pos h]
theorem Zfn (r:OT) (δ:Zr):(RS.rt r δ).told = .ok r:=rfl
theorem Zl3 (i j:Int):Zc6 (.int i) (.int j) = some (.int (i + j)):=rfl
theorem Z26 (i j:Int):gSb (.int i) (.int j) = some (.int (i - j)):=rfl
theorem Z4w (i j:Int):gGt (.int i) (.int j) = some (.bool (decide (j < i))):=rfl
theorem Z5h (i j:Int):gGe (.int i) (.int j) = some (.bool (decide (j ≤ i))):=rfl
theorem Ze0 {i j:Int} (h:Z0c i j = true):Zic (.int i) (.int j) = some (.int (i * j)):=by
 unfold Zic i2c; dsimp only; rw [if_pos h]
theorem Zgi {i j:Int} (h:Z0g i j = true):Zdf (.int i) (.int j) = some (.int (i.fdiv j)):=by
 unfold Zdf i2c; dsimp only; rw [if_pos h]
theorem Z1q {i j:Int} (h:j ≠ 0):Zjt (.int i) (.int j) = some (.int (i.fmod j)):=by
 unfold Zjt i2c Z71; dsimp only; rw [if_pos (decide_eq_true h)]
theorem Zdn {m n:Nat} {x y:Int} (h:Bt m x) (k:Bt n y) (hmn:m + n ≤ 100000000:=by decide):Z0c x y = true:=Zjr.mpr (h.mulOk k hmn)
theorem Z0x {x y:Int} (h:x.natAbs < 2 ^ 64):Z0c x y = true:=Zjr.mpr (.of_left (intBits_le_64 (by omega) (by omega)))
theorem Zgb {n:Nat} {i j:Int} (h0:j ≠ 0) (h:Bt n j) (hn:n ≤ 9000:=by decide):Z0g i j = true:=by
 obtain ⟨h1,h2⟩:=DivOk.of (i:=i) h0 h hn
 unfold Z0g
 rw [decide_eq_true h1,decide_eq_true h2]; rfl
theorem Z2t (i j:Int):gEq (.int i) (.int j) = some (.bool (decide (i = j))):=by
 show some (PyData.bool (i == j)) = _
 rw [show (i == j) = decide (i = j) from rfl]
theorem Z5n (i j:Int):gNe (.int i) (.int j) = some (.bool (!decide (i = j))):=by
 show some (PyData.bool (!(i == j))) = _
 rw [show (i == j) = decide (i = j) from rfl]
theorem Zpg (d:PyData):gIs d .none = some (.bool (Zfm d)):=rfl
theorem Zja (d:PyData):Zi1 d .none = some (.bool (!Zfm d)):=rfl
theorem Zlu (ds:List PyData) (i:Int):gIx (.list ds) (.int i) = (atI ds i).bind fun x=>some (.fz x):=rfl
theorem Z3p (ds:List PyData) (i:Int):gIx (.tuple ds) (.int i) = (atI ds i).bind fun x=>some (.fz x):=rfl
theorem Znm (ds:List PyData):Zft [.list ds] = some (.int ds.length):=rfl
theorem Zno (ds:List PyData):Zft [.tuple ds] = some (.int ds.length):=rfl
theorem Zfv (i:Int):Zl9 [.int i] = some (.int (i.natAbs:Int)):=by
 show some (PyData.int (if i < 0 then -i else i)) = _
 congr 2; split <;> omega
theorem Zwm (i j:Int):Z3c [.int i,.int j] = some (.int (if j < i then j else i)):=rfl
theorem Zwq (b:Bool):Z0f [.bool b] = some (.int (if b then 1 else 0)):=rfl
theorem Zxo (ds:List PyData):Zrd [.tuple ds] = some (.nd (ds.map OT.fz)):=rfl
theorem Z17 {ds es:List PyData} (h:ds.length + es.length ≤ sizeLine):Zp2 (.list ds) (.list es) = some (.nd ((ds ++ es).map OT.fz)):=by
 unfold Zp2; dsimp only; rw [if_pos h]
theorem Z1j (i:Int):Zwf (.int i) = some (.int (-i)):=rfl
theorem Zn7 {n:Nat} {d:PyData} (h:Sh n d) (hp:Jo d = true) (hn:n ≤ 60):gNe d d = some (.bool false):=by
 have s:SeqAt.shaped d = true:=(h.shp (by omega)).ok
 unfold gNe
 rw [if_pos (by rw [s]; rfl),Ztp hp]; rfl
theorem Zob {gg:FG} {u:FS} {ds:List PyData} {δ:Zr} (I:Nat→Zr→Prop) (h0:I 0 δ)
  (turn:∀ (i:Nat) (d:PyData) (δ:Zr),ds[i]? = some d→I i δ→∃ δ1 δ2,gg d δ = some δ1∧(u δ1 = .nx δ2∨u δ1 = .ct δ2)∧I (i + 1) δ2):∃ δ',forLoop gg u ds δ = .nx δ'∧I ds.length δ':=by
 induction ds generalizing δ I with
 | nil=>exact ⟨δ,rfl,h0⟩
 | cons d ds ih =>
  obtain ⟨δ1,δ2,e1,e2,h1⟩:=turn 0 d δ rfl h0
  obtain ⟨δ',e3,h3⟩:=ih (δ:=δ2) (fun i δ=>I (i + 1) δ) h1 fun i d' δ hd hi=>turn (i + 1) d' δ (by simpa using hd) hi
  refine ⟨δ',?_,h3⟩
  rw [Ze5,e1]
  dsimp only
  rcases e2 with e2 | e2 <;> rw [e2] <;> exact e3
theorem Zlx {α:Type} {t:FT} {me:FE} {cs:Zr} (mk:α→PyData) (p:α→Bool) (f:α→OT):∀ (xs:List α) (z:Option OT),(∀ x ∈ xs,Zc5 (mk x) = true∧t (some (.fz (mk x)) :: cs) = some (p x,some (.fz (mk x)) :: cs))→(∀ x ∈ xs,p x = true→me (some (.fz (mk x)) :: cs) = some (f x,some (.fz (mk x)) :: cs)) →
  ∃ z',compLoop (Zp3 0) t me (xs.map mk) (z :: cs) = some ((xs.filter p).map f,z' :: cs)
 | [],z,_,_=>⟨z,rfl⟩
 | x :: xs,z,ht,h=>by
  obtain ⟨z',e⟩:=Zlx mk p f xs (some (.fz (mk x))) (fun y hy=>ht y (.tail _ hy)) fun y hy=>h y (.tail _ hy)
  refine ⟨z',?_⟩
  rw [List.map_cons,compLoop,Zzs,if_pos (ht x (.head _)).1]
  show (some (some (OT.fz (mk x)) :: cs)).bind _ = _
  rw [Option.bind_some,(ht x (.head _)).2,Option.bind_some]
  dsimp only
  by_cases hp:p x = true
  ·rw [if_pos hp,h x (.head _) hp,Option.bind_some,e,List.filter_cons_of_pos hp]; rfl
  ·rw [if_neg hp,e,List.filter_cons_of_neg hp]
theorem Zpq {α:Type} {caps:List Nat} {it:FI} {t:FT} {me:FE} {cs δ δ1:Zr} (xs:List α) (mk:α→PyData) (p:α→Bool) (f:α→OT) (hi:it δ = some (xs.map mk,δ1)) (hz:xs.length ≤ sizeLine) (hb:blk 1 caps δ1 = none :: cs)
  (ht:∀ x ∈ xs,Zc5 (mk x) = true∧t (some (.fz (mk x)) :: cs) = some (p x,some (.fz (mk x)) :: cs)) (h:∀ x ∈ xs,p x = true→me (some (.fz (mk x)) :: cs) = some (f x,some (.fz (mk x)) :: cs)):Jw 1 caps it (Zp3 0) t me δ = some (.nd ((xs.filter p).map f),δ1):=by
 unfold Jw
 rw [hi,Option.bind_some]
 dsimp only
 rw [if_pos (by rw [List.length_map]; exact hz),hb]
 obtain ⟨z',e⟩:=Zlx (t:=t) (me:=me) (cs:=cs) mk p f xs none ht h
 rw [e]; rfl
theorem Zrt {α:Type} {me:FE} {cs:Zr} (mk:α→PyData) (f:α→OT):∀ (xs:List α) (z:Option OT),(∀ x ∈ xs,me (some (.fz (mk x)) :: cs) = some (f x,some (.fz (mk x)) :: cs)) →
  ∃ z',compLoop (gNm 0) Zem me (xs.map mk) (z :: cs) = some (xs.map f,z' :: cs)
 | [],z,_=>⟨z,rfl⟩
 | x :: xs,z,h=>by
  obtain ⟨z',e⟩:=Zrt mk f xs (some (.fz (mk x))) fun y hy=>h y (.tail _ hy)
  refine ⟨z',?_⟩
  rw [List.map_cons,compLoop]
  show (some (some (OT.fz (mk x)) :: cs)).bind _ = _
  rw [Option.bind_some]
  show (some (true,some (OT.fz (mk x)) :: cs)).bind _ = _
  rw [Option.bind_some,if_pos rfl,h x (.head _),Option.bind_some,e]; rfl
theorem Zfx {α:Type} {caps:List Nat} {it:FI} {me:FE} {cs δ δ1:Zr} (xs:List α) (mk:α→PyData) (f:α→OT) (hi:it δ = some (xs.map mk,δ1)) (hz:xs.length ≤ sizeLine) (hb:blk 1 caps δ1 = none :: cs)
  (h:∀ x ∈ xs,me (some (.fz (mk x)) :: cs) = some (f x,some (.fz (mk x)) :: cs)):Jw 1 caps it (gNm 0) Zem me δ = some (.nd (xs.map f),δ1):=by
 unfold Jw
 rw [hi,Option.bind_some]
 dsimp only
 rw [if_pos (by rw [List.length_map]; exact hz),hb]
 obtain ⟨z',e⟩:=Zrt (me:=me) (cs:=cs) mk f xs none h
 rw [e]; rfl
theorem Zo4 {α:Type} (f:α→PyData) (xs:List α):(xs.map fun x=>OT.fz (f x)).map OT.data = xs.map f:=by
 rw [List.map_map]; exact List.map_congr_left fun x _=>OT.data_fz _
theorem Zrc {α:Type} {j:Int} {x:α} (h0:0 ≤ j) (h1:j ≤ 1000000):(if rOk j = true then some x else none) = some x:=if_pos (Znj (by omega) h1)
theorem Zzc {α:Type} {i j:Int} {x:α} (h0:0 ≤ i) (h1:i ≤ 1000000) (h2:0 ≤ j) (h3:j ≤ 1000000):(if (rOk i && rOk j) = true then some x else none) = some x:=if_pos (by rw [Znj (by omega) h1,Znj (by omega) h3]; rfl)
theorem Z22 {r:RS} {k:Nat} (h:k ≤ 1000000):(if k < sizeLine then r else .bad) = r:=if_pos (by rw [sizeLine_eq]; omega)
end L2
namespace L2
open PySem PySem.Spec PyProof.Rows
noncomputable def EvV (e:FE) (δ:Zr) (d:PyData):Prop:=∃ t,e δ = some (t,δ)∧t.data = d
noncomputable def EvA (a:FA) (δ:Zr) (ds:List PyData):Prop:=∃ ts,a δ = some (ts,δ)∧OT.datas ts = ds
noncomputable def EvT (t:FT) (δ:Zr) (b:Bool):Prop:=t δ = some (b,δ)
noncomputable def Told (F:FD) (ds:List PyData) (d:PyData):Prop:=∃ t,F ds = .ok t∧t.data = d
section
variable {e a b:FE} {as:FA} {δ δ':Zr} {x y d:PyData} {xs ds:List PyData} {i j:Nat} {p q:Bool} {t u:FT} {S S':FS} {r:RS}
theorem EvV.cast {e:FE} {δ:Zr} {x y:PyData} (h:EvV e δ x) (k:x = y):EvV e δ y:=k ▸ h
theorem Zc (h:δ[i]? = some (some (.fz d)):=by rfl):EvV (Zk i) δ d:=⟨_,by rw [Zxe,h,Zzx],OT.data_fz _⟩
theorem Ze1 {t:OT} (h:δ[i]? = some (some t)) (hd:t.data = d):EvV (Zek i) δ d:=⟨_,by rw [Zxu,h,Zx7],by rw [OT.data_fz,hd]⟩
theorem Yc:EvV (fC d) δ d:=⟨_,rfl,OT.data_fz _⟩
theorem Zw {g:PyData→PyData→Option PyData} (ha:EvV a δ x) (hb:EvV b δ y) (h:g x y = some d):EvV (Zq g a b) δ d:=by
 obtain ⟨_,e1,d1⟩:=ha
 obtain ⟨_,e2,d2⟩:=hb
 exact ⟨_,by rw [Zn2,e1,Option.bind_some,e2,Option.bind_some,d1,d2,h,Option.bind_some],OT.data_fz _⟩
theorem Zqu {g:PyData→PyData→Option OT} {o:OT} (ha:EvV a δ x) (hb:EvV b δ y) (h:g x y = some o) (hd:o.data = d):EvV (Wa g a b) δ d:=by
 obtain ⟨_,e1,d1⟩:=ha
 obtain ⟨_,e2,d2⟩:=hb
 exact ⟨_,by rw [Zsd,e1,Option.bind_some,e2,Option.bind_some,d1,d2,h,Option.bind_some],hd⟩
theorem Zam (ha:EvV a δ x) (hb:EvV b δ y) (h:gIx x y = some (.fz d)):EvV (Wa gIx a b) δ d:=Zqu ha hb h (OT.data_fz _)
theorem Zaf {i j:Int} (ha:EvV a δ (.int i)) (hb:EvV b δ (.int j)):EvV (Zq Zc6 a b) δ (.int (i + j)):=Zw ha hb rfl
theorem Ziw {i j:Int} (ha:EvV a δ (.int i)) (hb:EvV b δ (.int j)):EvV (Zq gSb a b) δ (.int (i - j)):=Zw ha hb rfl
theorem Z40 {g:PyData→Option PyData} (ha:EvV a δ x) (h:g x = some d):EvV (fUn g a) δ d:=by
 obtain ⟨_,e1,d1⟩:=ha
 exact ⟨_,by rw [Z32,e1,Option.bind_some,d1,h,Option.bind_some],OT.data_fz _⟩
theorem Zt9 (ha:EvV a δ (.bool true)) (hb:EvV b δ d):EvV (Z0d a b) δ d:=by
 obtain ⟨_,e1,d1⟩:=ha
 obtain ⟨_,e2,d2⟩:=hb
 exact ⟨_,by rw [Zx1,e1,Option.bind_some,d1,Z6c,e2],d2⟩
theorem Z37 {T:String} (ha:EvV a δ x) (hf:Zii x = false:=by rfl):EvV (Zv4 T a) δ (.bool (Zp5 T x)):=by
 obtain ⟨_,e1,d1⟩:=ha
 exact ⟨_,by rw [Zzk,e1,Option.bind_some,d1,if_neg (by rw [hf]; decide)],OT.data_fz _⟩
theorem Zm:EvA Zy δ []:=⟨_,rfl,Zfz⟩
theorem Zd (h:EvV e δ d) (k:EvA as δ ds):EvA (Ze e as) δ (d :: ds):=by
 obtain ⟨_,e1,d1⟩:=h
 obtain ⟨_,e2,d2⟩:=k
 exact ⟨_,by rw [Zj3,e1,Option.bind_some,e2,Option.bind_some],by rw [Zfb,d1,d2]⟩
theorem Yr {F:FD} (h:EvA as δ ds) (k:Told F ds d):EvV (Wc F as) δ d:=by
 obtain ⟨_,e1,d1⟩:=h
 obtain ⟨_,e2,d2⟩:=k
 exact ⟨_,by rw [Zkg,e1,Option.bind_some,d1,e2,Z0v],d2⟩
theorem Jc {g:List PyData→Option PyData} (h:EvA as δ ds) (k:g ds = some d):EvV (Zdq g as) δ d:=by
 obtain ⟨_,e1,d1⟩:=h
 exact ⟨_,by rw [Zxf,e1,Option.bind_some,d1,k,Option.bind_some],OT.data_fz _⟩
theorem Z3w {g:List PyData→Option OT} {o:OT} (h:EvA as δ ds) (k:g ds = some o) (hd:o.data = d):EvV (fBl g as) δ d:=by
 obtain ⟨_,e1,d1⟩:=h
 exact ⟨_,by rw [Z11,e1,Option.bind_some,d1,k,Option.bind_some],hd⟩
theorem Zds:∀ ts:List OT,(OT.datas ts).length = ts.length
 | []=>by rw [Zfz]; rfl
 | t :: ts=>by rw [Zfb,List.length_cons,List.length_cons,Zds ts]
theorem datas_map:∀ ts:List OT,OT.datas ts = ts.map OT.data
 | []=>Zfz
 | t :: ts=>by rw [Zfb,List.map_cons,datas_map ts]
theorem Zd2 (h:EvA as δ ds) (hl:ds.length ≤ 1000):EvV (Zj8 as) δ (.tuple ds):=by
 obtain ⟨ts,e1,d1⟩:=h
 have:=Zds ts
 rw [d1] at this
 exact ⟨_,by rw [Zyl,e1,Option.bind_some,if_pos (by rw [sizeLine_eq]; show ts.length ≤ _; omega)],by rw [OT.data_fz]; exact congrArg _ d1⟩
theorem Zat (h:EvA as δ ds) (hl:ds.length ≤ 1000):EvV (Zd3 as) δ (.list ds):=by
 obtain ⟨ts,e1,d1⟩:=h
 have:=Zds ts
 rw [d1] at this
 exact ⟨_,by rw [Zhu,e1,Option.bind_some,if_pos (by rw [sizeLine_eq]; show ts.length ≤ _; omega)],by rw [OT.data_nd,← datas_map,d1]⟩
theorem Zh3 {o:OT} {b:Bool} (h:o.data = .bool b):o = .fz (.bool b):=by
 cases o with
 | fz d=>rw [OT.data_fz] at h; rw [h]
 | nd ts=>rw [OT.data_nd] at h; cases h
 | tp ts=>rw [OT.data_tp] at h; cases h
 | dc _ _ _=>rw [OT.data_dc] at h; cases h
theorem Zea (h:EvV e δ (.bool p)):EvT (tV e) δ p:=by
 obtain ⟨_,e1,d1⟩:=h
 unfold EvT
 rw [Z51,e1,Option.bind_some,Zh3 d1,Z30]
theorem Z87 (h:EvV e δ d) (k:Z4b d = some p):EvT (tD e) δ p:=by
 obtain ⟨_,e1,d1⟩:=h
 unfold EvT
 rw [Z6l,e1,Option.bind_some,d1,k,Option.bind_some]
theorem Zj2 (h:EvV e δ (.bool p)):EvT (tD e) δ p:=Z87 h rfl
theorem Zne (h:EvT t δ p):EvT (tNo t) δ (!p):=by
 unfold EvT at h ⊢
 rw [Z3j,h,Option.bind_some]
theorem Z6e (h:EvT t δ true) (k:EvT u δ p):EvT (tAn t u) δ p:=by
 unfold EvT at h k ⊢
 rw [Zws,h,Option.bind_some,if_pos rfl,k]
theorem Zw4 (h:EvT t δ false):EvT (tAn t u) δ false:=by
 unfold EvT at h ⊢
 rw [Zws,h,Option.bind_some,if_neg Bool.false_ne_true]
theorem Zxw (h:EvT t δ false) (k:EvT u δ p):EvT (tO t u) δ p:=by
 unfold EvT at h k ⊢
 rw [Z5i,h,Option.bind_some,if_neg Bool.false_ne_true,k]
theorem Zf1 (h:S δ = .nx δ') (k:S' δ' = r):Yj S S' δ = r:=by rw [Zhf,h,Zqs,k]
theorem Zlr {o:OT} (h:S δ = .rt o δ'):Yj S S' δ = .rt o δ':=by rw [Zhf,h,Zvr]
theorem Yp (h:EvV e δ d):wE e (Jb i) δ = .nx (δ.set i (some (.fz d))):=by
 obtain ⟨_,e1,d1⟩:=h
 rw [Zel,e1,Jd,Zyw,d1]
theorem Z3o (h:EvV e δ d):∃ o,wE e Zar δ = .rt o δ∧o.data = d:=by
 obtain ⟨_,e1,d1⟩:=h
 exact ⟨_,by rw [Zel,e1,Jd,Zx3],d1⟩
theorem Zjv (h:EvT t δ true) (k:S δ = r):Zc3 t S S' δ = r:=by
 unfold EvT at h
 rw [Zsn,h,Jd,if_pos rfl,k]
theorem J2 (h:EvT t δ false) (k:S' δ = r):Zc3 t S S' δ = r:=by
 unfold EvT at h
 rw [Zsn,h,Jd,if_neg (by decide),k]
noncomputable def Zpw (S:FS) (δ:Zr) (d:PyData):Prop:=∃ o δ',S δ = .rt o δ'∧o.data = d
theorem Jj (h:S δ = .nx δ') (k:Zpw S' δ' d):Zpw (Yj S S') δ d:=by
 obtain ⟨o,δ2,e,hd⟩:=k
 exact ⟨o,δ2,Zf1 h e,hd⟩
theorem Zn0 (k:Zpw S δ d):Zpw (Yj S S') δ d:=by
 obtain ⟨o,δ2,e,hd⟩:=k
 exact ⟨o,δ2,Zlr e,hd⟩
theorem Zbp (h:EvV e δ d):Zpw (wE e Zar) δ d:=by
 obtain ⟨o,e1,hd⟩:=Z3o h
 exact ⟨o,δ,e1,hd⟩
theorem Zqx (h:EvT t δ true) (k:Zpw S δ d):Zpw (Zc3 t S S') δ d:=by
 obtain ⟨o,δ2,e,hd⟩:=k
 exact ⟨o,δ2,Zjv h e,hd⟩
theorem Jv {np n:Nat} (hl:xs.length = np) (k:Zpw S (Zep n xs) d):Told (Zdi np n S) xs d:=by
 obtain ⟨o,δ2,e,hd⟩:=k
 exact ⟨o,by rw [Zdo hl,e,Zfn],hd⟩
noncomputable def EvO (o:FO) (δ:Zr) (l:Option Int):Prop:=o δ = some (l,δ)
theorem Z8o:EvO oN δ none:=rfl
theorem Z86 {i:Int} (h:EvV e δ (.int i)):EvO (oI e) δ (some i):=by
 obtain ⟨_,e1,d1⟩:=h
 unfold EvO
 rw [Z5b,e1,Option.bind_some,d1,Zxp]
theorem Z6f {lo hi:FO} {l h:Option Int} (he:EvV e δ (.list ds)) (hl:EvO lo δ l) (hh:EvO hi δ h):EvV (fSl e lo hi) δ (.list (cutD ds l h)):=by
 obtain ⟨_,e1,d1⟩:=he
 unfold EvO at hl hh
 exact ⟨_,by rw [Z1g,e1,Option.bind_some,hl,Option.bind_some,hh,Option.bind_some,d1,Zq3],by rw [OT.data_nd,OT.map_fz]⟩
theorem Zhm {es:List PyData} (ha:EvV a δ (.list ds)) (hb:EvV b δ (.list es)) (h:ds.length + es.length ≤ 1000000):EvV (Wa Zp2 a b) δ (.list (ds ++ es)) :=
 Zqu ha hb (Z17 (by rw [sizeLine_eq]; omega)) (by rw [OT.data_nd,OT.map_fz])
noncomputable def EvI (it:FI) (δ:Zr) (ds:List PyData):Prop:=it δ = some (ds,δ)
theorem Zaw (h:EvV e δ (.list ds)):EvI (Zga e) δ ds:=by
 obtain ⟨_,e1,d1⟩:=h
 unfold EvI
 rw [Zzv,e1,Option.bind_some,d1,Zq3]
theorem Zcs {n:Nat} (h:EvA as δ [.int n]) (hn:n ≤ 1000000):EvI (iRa as) δ (Zc4 0 n):=by
 obtain ⟨_,e1,d1⟩:=h
 unfold EvI
 rw [Zvp,e1,Option.bind_some,d1,Zxn,Zrc (by omega) (by omega),Int.toNat_natCast]
theorem Zol {it:FI} {g:FG} (h:EvI it δ ds) (k:forLoop g S ds δ = r):Zaz it g S δ = r:=by
 unfold EvI at h
 rw [Zy6,h,Jd,k]
theorem Zck {α:Type} {caps:List Nat} {it:FI} {me:FE} {cs:Zr} (xs:List α) (mk f:α→PyData) (hi:EvI it δ (xs.map mk)) (hz:xs.length ≤ 1000000) (hb:blk 1 caps δ = none :: cs) (h:∀ x ∈ xs,EvV me (some (.fz (mk x)) :: cs) (f x)):EvV (Jw 1 caps it (gNm 0) Zem me) δ (.list (xs.map f)):=by
 have g:∀ x,∃ o:OT,x ∈ xs→me (some (.fz (mk x)) :: cs) = some (o,some (.fz (mk x)) :: cs)∧o.data = f x:=fun x=>by
  by_cases c:x ∈ xs
  ·obtain ⟨o,h1,h2⟩:=h x c
   exact ⟨o,fun _=>⟨h1,h2⟩⟩
  ·exact ⟨.fz .none,fun z=>absurd z c⟩
 obtain ⟨o,ho⟩:=Classical.axiomOfChoice g
 unfold EvI at hi
 refine ⟨_,Zfx (cs:=cs) xs mk o hi (by rw [sizeLine_eq]; omega) hb (fun x hx=>(ho x hx).1),?_⟩
 rw [OT.data_nd,List.map_map]
 exact congrArg _ (List.map_congr_left fun x hx=>(ho x hx).2)
theorem Zq0 {ts:List OT} (h:EvV e δ d) (hi:δ[i]? = some (some (.nd ts))) (hl:ts.length ≤ 1000000):Zah i e δ = .nx (δ.set i (some (.nd (ts ++ [.fz d])))):=by
 obtain ⟨_,e1,d1⟩:=h
 rw [Zo3,hi,Z05,e1,Jd,hi,Z05,Z22 hl,d1]
theorem Zso {o:OT} (h:e δ = some (o,δ)):wE e (Zdr i) δ = .nx (δ.set i (some o)):=by rw [Zel,h,Jd,Zt7]
theorem Z7x {o:OT} (h:δ[i]? = some (some o)) (hd:o.data = d):Zpw (Zfw i) δ d:=⟨o,_,by rw [Znl,h,Zyk],hd⟩
theorem Zsv {o:OT} (h:δ[i]? = some (some o)) (k:S (δ.set i (some (.fz o.data))) = r):Zh1 i S δ = r:=by rw [Zo9,h,Zyk,k]
theorem Told.ok {F:FD} {b:Bool} (h:Told F ds (.bool b)):F ds = .ok (.fz (.bool b)):=by
 obtain ⟨o,e1,d1⟩:=h
 rw [e1,Zh3 d1]
theorem Zje {o:OT} {i:Int} (h:o.data = .int i):o = .fz (.int i):=by
 cases o with
 | fz d=>rw [OT.data_fz] at h; rw [h]
 | nd ts=>rw [OT.data_nd] at h; cases h
 | tp ts=>rw [OT.data_tp] at h; cases h
 | dc _ _ _=>rw [OT.data_dc] at h; cases h
theorem Told.int {F:FD} {i:Int} (h:Told F ds (.int i)):F ds = .ok (.fz (.int i)):=by
 obtain ⟨o,e1,d1⟩:=h
 rw [e1,Zje d1]
theorem Told.of {F:FD} {o:OT} (h:F ds = .ok o) (hd:o.data = d):Told F ds d:=⟨o,h,hd⟩
end
end L2
namespace L2
open PySem PySem.Spec PyProof.Rows
section
variable {e a b:FE} {as:FA} {δ δ':Zr} {x y d:PyData} {xs ds:List PyData} {i j:Int} {k:Nat} {p q:Bool} {t u:FT} {S S':FS} {r:RS} {Q:PyData→Prop}
theorem Zk0 (ha:EvV a δ (.int i)) (hb:EvV b δ (.int j)) (h:j ≠ 0):EvV (Zq Zjt a b) δ (.int (i.fmod j)):=Zw ha hb (Z1q h)
theorem Z2c {i j:Int} (h:(decide (0 < j) && decide (j < 18446744073709551616)) = true):Zdf (.int i) (.int j) = some (.int (i.fdiv j)):=by
 rw [Bool.and_eq_true,decide_eq_true_eq,decide_eq_true_eq] at h
 exact Zgi (Zgb (n:=64) (by omega) (Bt.of_lt (by omega) (by omega)))
theorem Zym (ha:EvV a δ (.int i)) (hb:EvV b δ (.int j)) (h:(decide (0 < j) && decide (j < 18446744073709551616)) = true:=by decide):EvV (Zq Zdf a b) δ (.int (i.fdiv j)):=Zw ha hb (Z2c h)
theorem Zzm (ha:EvV a δ (.int i)) (hb:EvV b δ (.int j)) (h:i.natAbs < 2 ^ 64:=by decide):EvV (Zq Zic a b) δ (.int (i * j)):=Zw ha hb (Ze0 (Z0x h))
theorem Z0y (ha:EvV a δ (.int i)) (hb:EvV b δ (.int j)) (h:decide (i < j) = p):EvV (Zq gLt a b) δ (.bool p):=h ▸ Zw ha hb rfl
theorem Zmb (ha:EvV a δ (.int i)) (hb:EvV b δ (.int j)) (h:decide (j < i) = p):EvV (Zq gGt a b) δ (.bool p):=h ▸ Zw ha hb (Z4w _ _)
theorem Z2f (ha:EvV a δ (.int i)) (hb:EvV b δ (.int j)) (h:decide (j ≤ i) = p):EvV (Zq gGe a b) δ (.bool p):=h ▸ Zw ha hb (Z5h _ _)
theorem Zky (ha:EvV a δ (.int i)) (hb:EvV b δ (.int j)) (h:decide (i = j) = p):EvV (Zq gEq a b) δ (.bool p):=h ▸ Zw ha hb (Z2t _ _)
theorem Zjd (ha:EvV a δ (.int i)) (hb:EvV b δ (.int j)) (h:(!decide (i = j)) = p):EvV (Zq gNe a b) δ (.bool p):=h ▸ Zw ha hb (Z5n _ _)
theorem Zq8 (ha:EvV a δ (.int i)):EvV (fUn Zwf a) δ (.int (-i)):=Z40 ha (Z1j _)
theorem Zwa {ds:List PyData} (h:EvV e δ (.list ds)):EvV (Zdq Zft (Ze e Zy)) δ (.int ds.length):=Jc (Zd h Zm) (Znm ds)
theorem Zwc (ha:EvV a δ (.list ds)) (hb:EvV b δ (.int i)) (h:atI ds i = some d):EvV (Wa gIx a b) δ d:=Zam ha hb (by rw [Zlu,h]; rfl)
noncomputable def Zz9 (S:FS) (δ:Zr) (Q:PyData→Prop):Prop:=∃ d,Zpw S δ d∧Q d
theorem Zlj (h:S δ = .nx δ') (k:Zz9 S' δ' Q):Zz9 (Yj S S') δ Q:=k.imp fun _ k=>⟨Jj h k.1,k.2⟩
theorem Zqa (h:EvV e δ d) (k:Q d):Zz9 (wE e Zar) δ Q:=⟨d,Zbp h,k⟩
theorem Zy0 {np n:Nat} (hl:xs.length = np) (h:Zz9 S (Zep n xs) Q):∃ d,Told (Zdi np n S) xs d∧Q d:=h.imp fun _ k=>⟨Jv hl k.1,k.2⟩
theorem Zvt {it:FI} {g:FG} (I:Nat→Zr→Prop) (hi:EvI it δ ds) (h0:I 0 δ) (turn:∀ (i:Nat) (d:PyData) (δ:Zr),ds[i]? = some d→I i δ→∃ δ1 δ2,g d δ = some δ1∧(S δ1 = .nx δ2∨S δ1 = .ct δ2)∧I (i + 1) δ2) (k:∀ δ',I ds.length δ'→Zz9 S' δ' Q):Zz9 (Yj (Zaz it g S) S') δ Q:=by
 obtain ⟨δ',e,h⟩:=Zob I h0 turn
 exact Zlj (Zol hi e) (k δ' h)
theorem Znf {it:FI} {g:FG} (I:Nat→Zr→Prop) (hi:EvI it δ ds) (h0:I 0 δ) (turn:∀ (i:Nat) (d:PyData) (δ:Zr),ds[i]? = some d→I i δ→∃ δ1 δ2,g d δ = some δ1∧(S δ1 = .nx δ2∨S δ1 = .ct δ2)∧I (i + 1) δ2) (k:∀ δ',I ds.length δ'→Zpw S' δ' d):Zpw (Yj (Zaz it g S) S') δ d:=by
 obtain ⟨δ',e,h⟩:=Zob I h0 turn
 exact Jj (Zol hi e) (k δ' h)
theorem Zxt {it:FI} {g:FG} (I:Nat→Zr→Prop) (hi:EvI it δ ds) (h0:I 0 δ) (turn:∀ (i:Nat) (d:PyData) (δ:Zr),ds[i]? = some d→I i δ→∃ δ1 δ2,g d δ = some δ1∧(S δ1 = .nx δ2∨S δ1 = .ct δ2)∧I (i + 1) δ2):∃ δ',Zaz it g S δ = .nx δ'∧I ds.length δ':=by
 obtain ⟨δ',e,h⟩:=Zob I h0 turn
 exact ⟨δ',Zol hi e,h⟩
theorem Zqp {m n:Nat} (h:EvA as δ [.int m,.int n]) (hm:m ≤ 1000000) (hn:n ≤ 1000000):EvI (iRb as) δ (Zc4 m (n - m)):=by
 obtain ⟨_,e1,d1⟩:=h
 unfold EvI
 rw [Z2q,e1,Option.bind_some,d1,Z5r,Zzc (by omega) (by omega) (by omega) (by omega),show ((n:Int) - (m:Int)).toNat = n - m by omega]
theorem Zk2:wE (Zd3 Zy) (Zdr k) δ = .nx (δ.set k (some (.nd []))):=Zso (by rw [Zhu]; rfl)
theorem Zmc {i:Int} (h:0 < j):0 ≤ i.fmod j:=by rw [Zg8 h]; exact Int.emod_nonneg _ (by omega)
theorem Zmx {i:Int} (h:0 < j):i.fmod j < j:=by rw [Zg8 h]; exact Int.emod_lt_of_pos _ h
theorem Z6n {n:Int} (h:EvA as δ [.int n]) (h0:0 ≤ n) (h1:n ≤ 1000000):EvV (Zz8 as) δ (.list (Zc4 0 n.toNat)):=by
 obtain ⟨_,e1,d1⟩:=h
 exact ⟨_,by rw [Zww,e1,Option.bind_some,d1,Zxn,if_pos ⟨Znj (by omega) (by omega),by rw [sizeLine_eq]; omega⟩],by rw [OT.data_nd,OT.map_fz]⟩
theorem Zzq {es:List PyData} (h:EvA as δ ds) (hz:Z2u ds = some es):EvI (Zpk as) δ es:=by
 obtain ⟨_,e1,d1⟩:=h
 unfold EvI Zpk
 rw [e1,Option.bind_some,d1,hz,Option.bind_some]
theorem Zt8 {it:FI} {g gg:FG} {δ1:Zr} (I:Nat→Zr→Prop) {J:Zr→Prop} (hg:gg d δ = some δ1) (hi:EvI it δ1 ds) (h0:I 0 δ1) (turn:∀ (i:Nat) (d:PyData) (δ:Zr),ds[i]? = some d→I i δ→∃ δ1 δ2,g d δ = some δ1∧(S δ1 = .nx δ2∨S δ1 = .ct δ2)∧I (i + 1) δ2) (hJ:∀ δ',I ds.length δ'→J δ'):∃ δ1 δ2,gg d δ = some δ1∧(Zaz it g S δ1 = .nx δ2∨Zaz it g S δ1 = .ct δ2)∧J δ2:=by
 obtain ⟨δ',e,h⟩:=Zob I h0 turn
 exact ⟨δ1,δ',hg,.inl (Zol hi e),hJ δ' h⟩
theorem Zrj {T:String} (ha:EvV a δ x) (h:Zp5 T x = p) (hf:Zii x = false:=by rfl):EvV (Zv4 T a) δ (.bool p):=(Z37 ha hf).cast (by rw [h])
theorem Zzt {a b:FE} {bs es:List PyData} {as:List PyData} (ha:EvV a δ (.list as)) (hb:EvV b δ (.list bs)) (hz:Zp6 as bs = es):EvI (Zpk (Ze a (Ze b Zy))) δ es:=Zzq (Zd ha (Zd hb Zm)) (congrArg some hz)
end
end L2
namespace My
open PySem L2 PySem.Spec
noncomputable def Za6:FS :=
 (Yj (wE (Zdq Zl9 (Ze (Zk 0) Zy)) (Jb 0))
  (Yj (wE (Zdq Zl9 (Ze (Zk 1) Zy)) (Jb 1))
  (Yj (Ziv (tV (Zq gNe (Zk 1) (fC (.int 0)))) (Yj (wE (Zq Zjt (Zk 0) (Zk 1)) (Jb 2))
  (Yj (wE (Zk 1) (Jb 0))
  (wE (Zk 2) (Jb 1)))))
  (wE (Zk 0) Zar))))
noncomputable def Yz:FD:=Zdi 2 3 Za6
theorem Zj9 {f1 f2:Int→Int→Option OT→Zr} {t:FT} {u:FS} (ht:∀ x y z,t (f1 x y z) = some (!decide (y = 0),f1 x y z)) (hu:∀ x y z,y ≠ 0→∃ z',u (f1 x y z) = .nx (f1 y (x.fmod y) z')) :
  ∀ (n:Nat) (x y:Int) (z:Option OT),0 ≤ x→0 ≤ y→y.toNat < n→∃ z',whileLoop t u n (f1 x y z) = .nx (f1 (Int.gcd x y:Int) 0 z')
 | 0,_,_,_,_,_,h=>absurd h (Nat.not_lt_zero _)
 | n + 1,x,y,z,hx,hy,h=>by
  unfold whileLoop
  rw [ht]
  dsimp only
  by_cases c:y = 0
  ·subst c
   refine ⟨z,?_⟩
   simp only [decide_true,Bool.not_true,Bool.false_eq_true,if_false]
   rw [Int.gcd_zero_right]
   congr 2
   omega
  ·simp only [c,decide_false,Bool.not_false,if_true]
   obtain ⟨z1,e1⟩:=hu x y z c
   rw [e1]
   dsimp only
   have hm:x.fmod y = x % y:=Zg8 (by omega)
   have h1:0 ≤ x % y:=Int.emod_nonneg x c
   have h2:x % y < y:=Int.emod_lt_of_pos x (by omega)
   obtain ⟨z2,e2⟩:=Zj9 (f1:=f1) (f2:=f2) ht hu n y (x.fmod y) z1 hy (by omega) (by omega)
   exact ⟨z2,by rw [e2,Zto hx (by omega)]⟩
theorem Zcp (a b:Int):Yz [.int a,.int b] = .ok (.fz (.int (Int.gcd a b:Int))):=by
 obtain ⟨z',e⟩:=Zj9 (f1:=fun x y z=>[some (.fz (.int x)),some (.fz (.int y)),z]) (f2:=fun x y z=>[]) (t:=tV (Zq gNe (Zk 1) (fC (.int 0)))) (u:=Yj (wE (Zq Zjt (Zk 0) (Zk 1)) (Jb 2)) (Yj (wE (Zk 1) (Jb 0)) (wE (Zk 2) (Jb 1)))) (fun x y z=>Zea (Zjd Zc Yc rfl)) (fun x y z hy=>⟨_,Zf1 (Yp (Zk0 Zc Zc hy)) (Zf1 (Yp Zc) (Yp Zc))⟩) ((b.natAbs:Int).toNat + 1) (a.natAbs:Int) (b.natAbs:Int) none (by omega) (by omega) (by omega)
 rw [Int.gcd_eq_natAbs_gcd_natAbs,Int.natAbs_natCast,Int.natAbs_natCast] at e
 exact Told.int <| Jv rfl <| Jj (Yp (Jc (Zd Zc Zm) (Zfv a))) <| Jj (Yp (Jc (Zd Zc Zm) (Zfv b))) <| Jj (Zls _ e (by intro z; cases z)) (Zbp Zc)
noncomputable def Ze8:FS :=
 (Yj (wE (Wc Yz (Ze (Zk 0) (Ze (Zk 1) Zy))) (Jb 2))
  (Yj (Zc3 (tV (Zq gLt (Zk 1) (fC (.int 0))))
  (wE (fUn Zwf (Zk 2)) (Jb 2))
  fNx)
  (wE (Zj8 (Ze (Zq Zdf (Zk 0) (Zk 2)) (Ze (Zq Zdf (Zk 1) (Zk 2)) Zy))) Zar)))
noncomputable def Zcl:FD:=Zdi 2 3 Ze8
theorem Z14 {n:Nat} {t b:Int} (hb:b ≠ 0) (hB:Bt n b) (hn:n ≤ 9000) (s:Int) (e:s = shr t b):Zdf (.int t) (.int s) = some (.int (Rat.divInt t b).num)∧Zdf (.int b) (.int s) = some (.int ((Rat.divInt t b).den:Int)):=by
 subst e
 rw [Zgi (Zgb (Zv7 hb) (Zv3 hb hB) hn),Zgi (Zgb (Zv7 hb) (Zv3 hb hB) hn),Zw9 hb,Zyd hb]
 exact ⟨rfl,rfl⟩
theorem Zm4 {n:Nat} {t b:Int} (hb:b ≠ 0) (hB:Bt n b) (hn:n ≤ 9000:=by decide):Told Zcl [.int t,.int b] (frD (Rat.divInt t b)):=by
 have fin:∀ {δ:Zr} {s:Int},s = shr t b→δ[0]? = some (some (.fz (.int t)))→δ[1]? = some (some (.fz (.int b)))→δ[2]? = some (some (.fz (.int s)))→Zpw (wE (Zj8 (Ze (Zq Zdf (Zk 0) (Zk 2)) (Ze (Zq Zdf (Zk 1) (Zk 2)) Zy))) Zar) δ (frD (Rat.divInt t b)):=fun e h0 h1 h2=>by
  obtain ⟨e1,e2⟩:=Z14 hb hB hn _ e
  exact Zbp (Zd2 (Zd (Zw (Zc h0) (Zc h2) e1) (Zd (Zw (Zc h1) (Zc h2) e2) Zm)) (show 2 ≤ 1000 by decide))
 have g:Told Yz [.int t,.int b] _:=.of (Zcp t b) (OT.data_fz _)
 by_cases c:b < 0
 ·exact Jv rfl <| Jj (Yp (Yr (Zd Zc (Zd Zc Zm)) g)) <| Jj (Zjv (Zea (Z0y Zc Yc (decide_eq_true c))) (Yp (Zq8 Zc))) (fin (by unfold shr; rw [if_pos c]) rfl rfl rfl)
 ·exact Jv rfl <| Jj (Yp (Yr (Zd Zc (Zd Zc Zm)) g)) <| Jj (J2 (Zea (Z0y Zc Yc (decide_eq_false c))) rfl) (fin (by unfold shr; rw [if_neg c]) rfl rfl rfl)
noncomputable def Zer:FS :=
 (wE (Z0d (Zv4 "int" (Zk 0)) (fUn Z65 (Zv4 "bool" (Zk 0)))) Zar)
noncomputable def J6:FD:=Zdi 1 1 Zer
theorem Zk7 (i:Int):J6 [.int i] = .ok (.fz (.bool true)):=rfl
noncomputable def Zcn:FS :=
 (Yj (Zc3 (tO (tNo (tD (Wc J6 (Ze (Zk 0) Zy)))) (tO (tNo (tD (Wc J6 (Ze (Zk 1) Zy)))) (tV (Zq gEq (Zk 1) (fC (.int 0))))))
  (Znq "NoNumber")
  fNx)
  (wE (Wc Zcl (Ze (Zk 0) (Ze (Zk 1) Zy))) Zar))
noncomputable def Za1:FD:=Zdi 2 2 Zcn
theorem Zmo {n:Nat} {t b:Int} (hb:b ≠ 0) (hB:Bt n b) (hn:n ≤ 9000:=by decide):Told Za1 [.int t,.int b] (frD (Rat.divInt t b)):=by
 have w:∀ {i:Int},Told J6 [.int i] (.bool true):=fun {i}=>.of (Zk7 i) (OT.data_fz _)
 exact Jv rfl <| Jj (J2 (Zxw (Zne (p:=true) (Zj2 (Yr (Zd Zc Zm) w))) (Zxw (Zne (p:=true) (Zj2 (Yr (Zd Zc Zm) w))) (Zea (Zky Zc Yc (decide_eq_false hb))))) rfl) (Zbp (Yr (Zd Zc (Zd Zc Zm)) (Zm4 hb hB hn)))
noncomputable def Zby:FS :=
 (Yj (wE (fC (.int 1)) (Jb 1))
  (Yj (Zaz (Zga (Zk 0)) (gNm 2)
  (wE (Zq Zic (Zq Zdf (Zk 1) (Wc Yz (Ze (Zk 1) (Ze (Wa gIx (Zk 2) (fC (.int 1))) Zy)))) (Wa gIx (Zk 2) (fC (.int 1)))) (Jb 1)))
  (wE (Zk 1) Zar)))
noncomputable def W5:FD:=Zdi 1 3 Zby
noncomputable def prD (p:Int × Int):PyData:=.tuple [.int p.1,.int p.2]
theorem Ztv {a b B:Int} (ha:0 < a) (hb:0 < b) (h1:a ∣ B) (h2:b ∣ B) (hB:0 < B):0 < a.fdiv (Int.gcd a b) * b∧a ∣ a.fdiv (Int.gcd a b) * b∧b ∣ a.fdiv (Int.gcd a b) * b∧a.fdiv (Int.gcd a b) * b ∣ B:=by
 have hg:0 < (Int.gcd a b:Int):=Zfu (by omega)
 have d1:(Int.gcd a b:Int) ∣ a:=Int.gcd_dvd_left ..
 have d2:(Int.gcd a b:Int) ∣ b:=Int.gcd_dvd_right ..
 rw [Zak hg]
 have e:a / (Int.gcd a b:Int) * b = (Int.lcm a b:Int):=by
  have q:=Int.gcd_mul_lcm a b
  have h3:(Int.gcd a b:Int) * (Int.lcm a b:Int) = a * b:=by
   rw [← Int.natCast_mul,q,Int.natCast_mul,Int.natAbs_of_nonneg (by omega),Int.natAbs_of_nonneg (by omega)]
  obtain ⟨k,hk⟩:=d1
  have e1:a / (Int.gcd a b:Int) = k:=Int.ediv_eq_of_eq_mul_right (by omega) hk
  rw [e1]
  apply Int.eq_of_mul_eq_mul_left (a:=(Int.gcd a b:Int)) (by omega)
  rw [h3,← Int.mul_assoc,← hk]
 rw [e]
 refine ⟨?_,Int.dvd_lcm_left ..,Int.dvd_lcm_right ..,Int.coe_lcm_dvd h1 h2⟩
 have:Int.lcm a b ≠ 0:=by
  rw [Ne,Int.lcm_eq_zero_iff]
  omega
 omega
theorem Zkz {n:Nat} {a B:Int} (hB:0 < B) (h:a ∣ B) (b:Bt n B):Bt n a:=by
 refine Bt.of_le b ?_
 have:=Int.natAbs_dvd_natAbs.mpr h
 exact Nat.le_of_dvd (by omega) this
theorem Zg1 {n:Nat} {B:Int} (hB:0 < B) (bB:Bt n B) (hn:n ≤ 9000:=by decide) (ps:List (Int × Int)) (h:∀ p ∈ ps,0 < p.2∧p.2 ∣ B) :
  ∃ m,Told W5 [.list (ps.map prD)] (.int m)∧0 < m∧(∀ p ∈ ps,p.2 ∣ m)∧m ∣ B:=by
 have key:∃ d,Told W5 [.list (ps.map prD)] d∧∃ m,d = .int m∧0 < m∧(∀ p ∈ ps,p.2 ∣ m)∧m ∣ B:=by
  refine Zy0 rfl <| Zlj (Yp Yc) <| Zvt (ds:=ps.map prD) (fun i δ=>∃ m z,δ = [some (.fz (.list (ps.map prD))),some (.fz (.int m)),z]∧0 < m∧(∀ j p,j < i→ps[j]? = some p→p.2 ∣ m)∧m ∣ B) (Zaw Zc) ⟨1,none,rfl,by decide,fun j p hj=>absurd hj (Nat.not_lt_zero j),Int.one_dvd _⟩ (fun i d δ hd hi=>?_) fun δ' hi=>?_
  ·obtain ⟨m,z,hδ,h1,h2,h3⟩:=hi
   subst hδ
   rw [List.getElem?_map] at hd
   cases e:ps[i]? with
   | none=>rw [e] at hd; cases hd
   | some p =>
    rw [e] at hd
    cases hd
    obtain ⟨q1,q2⟩:=h p (List.mem_of_getElem? e)
    obtain ⟨s1,s2,s3,s4⟩:=Ztv h1 q1 h3 q2 hB
    have g0:0 < (Int.gcd m p.2:Int):=Zfu (by omega)
    have bg:Bt n (Int.gcd m p.2:Int):=Zkz hB (Int.dvd_trans (Int.gcd_dvd_right ..) q2) bB
    have bm:Bt n (m.fdiv (Int.gcd m p.2)):=by
     rw [Zak g0]
     exact Bt.of_le (Zkz hB h3 bB) (Int.natAbs_ediv_le_natAbs _ _)
    have at1:∀ {δ:Zr},δ[2]? = some (some (.fz (prD p)))→EvV (Wa gIx (Zk 2) (fC (.int 1))) δ (.int p.2):=fun h=>Zam (Zc h) Yc rfl
    refine ⟨_,_,rfl,.inl (Yp (Zw (Zw Zc (Yr (Zd Zc (Zd (at1 rfl) Zm)) (.of (Zcp m p.2) (OT.data_fz _))) (Zgi (Zgb (by omega) bg hn))) (at1 rfl) (Ze0 (Zdn bm (Zkz hB q2 bB) (by omega))))),_,_,rfl,s1,fun j p' hj hp=>?_,s4⟩
    by_cases z:j = i
    ·subst z
     rw [e] at hp; cases hp
     exact s3
    ·exact Int.dvd_trans (h2 j p' (by omega) hp) s2
  ·obtain ⟨m,z,rfl,h1,h2,h3⟩:=hi
   refine Zqa Zc ⟨m,rfl,h1,fun p hp=>?_,h3⟩
   obtain ⟨j,hj⟩:=List.getElem?_of_mem hp
   exact h2 j p (by have:=(List.getElem?_eq_some_iff.mp hj).1; rwa [List.length_map]) hj
 obtain ⟨d,h,m,rfl,hm⟩:=key
 exact ⟨m,h,hm⟩
noncomputable def Zcj:FS :=
 (Yj (wE (fC (.int 1)) (Jb 1))
  (Yj (Zaz (Zga (Zk 0)) (gNm 2)
  (wE (Wc W5 (Ze (Wa Zp2 (Zd3 (Ze (Zj8 (Ze (fC (.int 1)) (Ze (Zk 1) Zy))) Zy)) (Zk 2)) Zy)) (Jb 1)))
  (wE (Zk 1) Zar)))
noncomputable def Je:FD:=Zdi 1 3 Zcj
theorem Zyt (r:List Rat):r.map frD = (r.map fun q=>(q.num,(q.den:Int))).map prD:=by rw [List.map_map]; rfl
noncomputable def Z0q (T:List (List Rat)) (B:Int):Prop:=∀ r ∈ T,∀ q ∈ r,(q.den:Int) ∣ B
theorem Zhc {n:Nat} {B:Int} (hB:0 < B) (bB:Bt n B) (hn:n ≤ 9000:=by decide) (T:List (List Rat)) (hz:∀ r ∈ T,r.length ≤ 1000) (h:Z0q T B) :
  ∃ m,Told Je [tbD T] (.int m)∧0 < m∧Z0q T m∧m ∣ B:=by
 have key:∃ d,Told Je [.list (T.map Zlt)] d∧∃ m,d = .int m∧0 < m∧Z0q T m∧m ∣ B:=by
  refine Zy0 rfl <| Zlj (Yp Yc) <| Zvt (ds:=T.map Zlt) (fun i δ=>∃ m z,δ = [some (.fz (.list (T.map Zlt))),some (.fz (.int m)),z]∧0 < m∧(∀ j r,j < i→T[j]? = some r→∀ q ∈ r,(q.den:Int) ∣ m)∧m ∣ B) (Zaw Zc) ⟨1,none,rfl,by decide,fun j p hj=>absurd hj (Nat.not_lt_zero j),Int.one_dvd _⟩ (fun i d δ hd hi=>?_) fun δ' hi=>?_
  ·obtain ⟨m,z,hδ,h1,h2,h3⟩:=hi
   subst hδ
   rw [List.getElem?_map] at hd
   cases e:T[i]? with
   | none=>rw [e] at hd; cases hd
   | some r =>
    rw [e] at hd
    cases hd
    have hr:=List.mem_of_getElem? e
    obtain ⟨m',e1,p1,p2,p3⟩:=Zg1 hB bB hn ((1,m) :: r.map fun q=>(q.num,(q.den:Int))) fun p hp=>by
     rcases List.mem_cons.mp hp with rfl | hp
     ·exact ⟨h1,h3⟩
     ·obtain ⟨q,hq,rfl⟩:=List.mem_map.mp hp
      exact ⟨Zi5 q,h r hr q hq⟩
    rw [List.map_cons,← Zyt] at e1
    have hl:=hz r hr
    refine ⟨_,_,rfl,.inl (Yp (Yr (Zd (Zhm (ds:=[prD (1,m)]) (es:=r.map frD) (Zat (Zd (Zd2 (Zd Yc (Zd Zc Zm)) (show 2 ≤ 1000 by decide)) Zm) (show 1 ≤ 1000 by decide)) Zc (by rw [List.length_map,List.length_singleton]; omega)) Zm) e1)),m',_,rfl,p1,fun j r' hj hr' q hq=>?_,p3⟩
    by_cases z:j = i
    ·subst z
     rw [e] at hr'; cases hr'
     exact p2 (q.num,(q.den:Int)) (.tail _ (List.mem_map.mpr ⟨q,hq,rfl⟩))
    ·exact Int.dvd_trans (h2 j r' (by omega) hr' q hq) (p2 (1,m) (.head _))
  ·obtain ⟨m,z,rfl,h1,h2,h3⟩:=hi
   refine Zqa Zc ⟨m,rfl,h1,fun r hr q hq=>?_,h3⟩
   obtain ⟨j,hj⟩:=List.getElem?_of_mem hr
   exact h2 j r (by have:=(List.getElem?_eq_some_iff.mp hj).1; rwa [List.length_map]) hj q hq
 obtain ⟨d,h,m,rfl,hm⟩:=key
 exact ⟨m,h,hm⟩
noncomputable def scI (m:Int) (q:Rat):Int:=q.num * (m / (q.den:Int))
theorem Z18 {m:Int} {q:Rat} (h:(q.den:Int) ∣ m):(scI m q:Rat) = q * (m:Rat):=by
 obtain ⟨k,rfl⟩:=h
 unfold scI
 rw [Int.mul_ediv_cancel_left _ (Zsw q)]
 rw [Rat.intCast_mul,Rat.intCast_mul,Z8b,Rat.mul_assoc]
noncomputable def Zej:FS :=
 (wE (Jw 1 [0] (Zga (Zk 1)) (gNm 0) Zem (Zq Zic (Wa gIx (Zk 0) (fC (.int 0))) (Zq Zdf (Zk 1) (Wa gIx (Zk 0) (fC (.int 1)))))) Zar)
noncomputable def Zbv:FD:=Zdi 2 2 Zej
theorem Zli {n:Nat} {m:Int} (hm:0 < m) (bm:Bt n m) (r:List Rat) (hz:r.length ≤ 1000) (h:∀ q ∈ r,(q.den:Int) ∣ m∧Bt n q.num) (hn:n ≤ 9000:=by decide) :
  Told Zbv [.int m,Zlt r] (.list (r.map fun q=>.int (scI m q))) :=
 Jv rfl <| Zbp <| Zck (cs:=[some (.fz (.int m))]) r frD (fun q=>.int (scI m q)) (Zaw Zc) (by omega) rfl fun q hq=>by
  obtain ⟨h1,h2⟩:=h q hq
  refine (Zw (Zam (d:=.int q.num) Zc Yc rfl) (Zw Zc (Zam (d:=.int (q.den:Int)) Zc Yc rfl) (Zgi (Zgb (Zsw q) (Zkz hm h1 bm) hn))) (Ze0 ?_)).cast ?_
  ·rw [Zak (Zi5 q)]
   exact Zdn h2 (Bt.of_le bm (Int.natAbs_ediv_le_natAbs _ _)) (by omega)
  ·rw [Zak (Zi5 q)]; rfl
noncomputable def Zdt:FS :=
 (wE (Jw 1 [0] (Zga (Zk 1)) (gNm 0) Zem (Wc Zbv (Ze (Zk 1) (Ze (Zk 0) Zy)))) Zar)
noncomputable def Zbm:FD:=Zdi 2 2 Zdt
theorem Zjk {n:Nat} {m:Int} (hm:0 < m) (bm:Bt n m) (T:List (List Rat)) (hT:T.length ≤ 1000) (hz:∀ r ∈ T,r.length ≤ 1000) (h:Z0q T m) (hb:∀ r ∈ T,∀ q ∈ r,Bt n q.num) (hn:n ≤ 9000:=by decide) :
  Told Zbm [.int m,tbD T] (.list (T.map fun r=>.list (r.map fun q=>.int (scI m q)))) :=
 Jv rfl <| Zbp <| Zck (cs:=[some (.fz (.int m))]) T Zlt (fun r=>.list (r.map fun q=>.int (scI m q))) (Zaw Zc) (by omega) rfl fun r hr=>Yr (Zd Zc (Zd Zc Zm)) (Zli hm bm r (hz r hr) (fun q hq=>⟨h r hr q hq,hb r hr q hq⟩) hn)
noncomputable def Zes:FS :=
 (Yj (wE (Zd3 Zy) (Zdr 1))
  (Yj (Zaz (iRa (Ze (Zk 0) Zy)) (gNm 2)
  (Zaz (iRb (Ze (Zq Zc6 (Zk 2) (fC (.int 1))) (Ze (Zk 0) Zy))) (gNm 3)
  (Zah 1 (Zj8 (Ze (Zk 2) (Ze (Zk 3) Zy))))))
  (Zfw 1)))
noncomputable def Zcq:FD:=Zdi 1 4 Zes
noncomputable def Zcr (n:Nat):List (Nat × Nat):=(List.range n).flatMap fun i=>(List.range (n - (i + 1))).map fun j=>(i,i + 1 + j)
noncomputable def ptD (p:Nat × Nat):PyData:=.tuple [.int p.1,.int p.2]
theorem Zio {n:Nat} {p:Nat × Nat} (h:p ∈ Zcr n):p.1 < p.2∧p.2 < n:=by
 unfold Zcr at h
 obtain ⟨i,hi,hp⟩:=List.mem_flatMap.mp h
 obtain ⟨j,hj,rfl⟩:=List.mem_map.mp hp
 have:=List.mem_range.mp hi
 have:=List.mem_range.mp hj
 dsimp only
 omega
theorem Zpd {n i j:Nat} (h:i < j) (hj:j < n):(i,j) ∈ Zcr n:=by
 unfold Zcr
 exact List.mem_flatMap.mpr ⟨i,List.mem_range.mpr (by omega),List.mem_map.mpr ⟨j - (i + 1),List.mem_range.mpr (by omega),by congr 1; omega⟩⟩
noncomputable def Zlg (n i:Nat):List (Nat × Nat):=(List.range i).flatMap fun i=>(List.range (n - (i + 1))).map fun j=>(i,i + 1 + j)
theorem Zl2 (n:Nat):∀ i,(Zlg n i).length ≤ i * n
 | 0=>by simp [Zlg]
 | i + 1=>by
  have:=Zl2 n i
  unfold Zlg at this ⊢
  rw [List.range_succ,List.flatMap_append,List.length_append]
  simp only [List.flatMap_cons,List.flatMap_nil,List.append_nil,List.length_map,List.length_range]
  have e:(i + 1) * n = i * n + n:=by rw [Nat.succ_mul]
  omega
theorem Zph (n i:Nat):Zlg n (i + 1) = Zlg n i ++ (List.range (n - (i + 1))).map fun j=>(i,i + 1 + j):=by
 unfold Zlg; rw [List.range_succ,List.flatMap_append]; simp
theorem Zma (n:Nat) (hn:n ≤ 1000):Told Zcq [.int n] (.list ((Zcr n).map ptD)):=by
 refine Jv rfl <| Jj Zk2 <| Znf (ds:=Zc4 0 n) (fun i δ=>∃ z1 z2,δ = [some (.fz (.int n)),some (.nd (((Zlg n i).map ptD).map OT.fz)),z1,z2]) (Zcs (Zd Zc Zm) (by omega)) ⟨_,_,rfl⟩ (fun i d δ hd h=>?_) fun δ' h=>?_
 ·obtain ⟨z1,z2,rfl⟩:=h
  obtain ⟨hi,rfl⟩:=Wh hd
  rw [Int.zero_add]
  have ln:=Zl2 n i
  have l2:i * n ≤ 999 * 1000:=Nat.mul_le_mul (by omega) hn
  refine Zt8 (ds:=Zc4 ((i + 1:Nat):Int) (n - (i + 1))) (fun j δ=>∃ z,δ = [some (.fz (.int n)),some (.nd (((Zlg n i ++ (List.range j).map fun j=>(i,i + 1 + j)).map ptD).map OT.fz)),some (.fz (.int i)),z]) rfl (Zqp (m:=i + 1) (Zd (EvV.cast (Zaf Zc Yc) rfl) (Zd Zc Zm)) (by omega) (by omega)) ⟨z2,by rw [List.range_zero,List.map_nil,List.append_nil]; rfl⟩ (fun j d δ hd h=>?_) fun δ' h=>?_
  ·obtain ⟨z,rfl⟩:=h
   obtain ⟨hj,rfl⟩:=Wh hd
   refine ⟨_,_,rfl,.inl (Zq0 (Zd2 (Zd Zc (Zd Zc Zm)) (show 2 ≤ 1000 by decide)) rfl (by rw [List.length_map,List.length_map,List.length_append,List.length_map,List.length_range]; omega)),some (.fz (.int (((i + 1:Nat):Int) + j))),?_⟩
   rw [List.range_succ]
   simp only [List.map_append,List.append_assoc]
   rfl
  ·obtain ⟨z,rfl⟩:=h
   rw [Yb,← Zph]
   exact ⟨_,_,rfl⟩
 ·obtain ⟨z1,z2,rfl⟩:=h
  rw [Yb]
  exact Z7x rfl (by rw [OT.data_nd,OT.map_fz]; rfl)
end My
namespace My
open PySem L2 PySem.Spec
noncomputable def Zcx:FS :=
 (Yj (wE (Wa gIx (Zk 1) (Zdq Zft (Ze (Zk 2) Zy))) (Jb 4))
  (Yj (Zaz (iRa (Ze (Zdq Zft (Ze (Zk 2) Zy)) Zy)) (gNm 5)
  (Zc3 (tV (Zq gNe (Zdq Zl9 (Ze (Zq gSb (Wa gIx (Zk 2) (Zk 5)) (Zk 3)) Zy)) (Wa gIx (Wa gIx (Zk 0) (Wa gIx (Zk 1) (Zk 5))) (Zk 4))))
  (wE (fC (.bool false)) Zar)
  fNx))
  (wE (fC (.bool true)) Zar)))
noncomputable def J4:FD:=Zdi 4 6 Zcx
noncomputable def Za4:FS :=
 (Yj (wE (Zd3 (Ze (fC (.int 0)) Zy)) (Zdr 2))
  (Yj (Zaz (iRb (Ze (fC (.int 1)) (Ze (Zdq Zft (Ze (Zk 1) Zy)) Zy))) (gNm 3)
  (Yj (wE (Wa gIx (Wa gIx (Zk 0) (Wa gIx (Zk 1) (fC (.int 0)))) (Wa gIx (Zk 1) (Zk 3))) (Jb 4))
  (Yj (wE (Zd3 Zy) (Zdr 5))
  (Yj (Zaz (iTp (Zj8 (Ze (Zk 4) (Ze (Zq gSb (fC (.int 0)) (Zk 4)) Zy)))) (gNm 6)
  (Zc3 (tD (Wc J4 (Ze (Zk 0) (Ze (Zk 1) (Ze (Zek 2) (Ze (Zk 6) Zy))))))
  (Zah 5 (Zk 6))
  fNx))
  (Yj (Zc3 (tV (Zq gEq (Zek 5) (Zd3 Zy)))
  (wE (fC .none) Zar)
  fNx)
  (Zah 2 (Zht (Wa gIx (Zek 5) (fC (.int 0))))))))))
  (Zfw 2)))
noncomputable def Yx:FD:=Zdi 2 7 Za4
noncomputable def Zc2:FS :=
 (Yj (wE (Zdq Zft (Ze (Zk 0) Zy)) (Jb 1))
  (Yj (wE (Zd3 Zy) (Jb 2))
  (Yj (Zaz (iRa (Ze (Zk 1) Zy)) (gNm 3)
  (wE (Wa Zp2 (Zk 2) (Jw 1 [3] (iRa (Ze (Zk 3) Zy)) (gNm 0) Zem (Zj8 (Ze (Zk 0) (Ze (Zk 1) Zy))))) (Jb 2)))
  (Yj (wE (Zd3 Zy) (Jb 4))
  (Yj (Zaz (Zga (fBl (Zn9 kdP ltP) (Ze (Zk 2) Zy))) (gTp 2 (gCn (gNm 5) (gCn (gNm 3) gNl)))
  (wE (Wa Zp2 (Zk 4) (Jw 1 [5,3] (iRb (Ze (Zq Zc6 (Zk 3) (fC (.int 1))) (Ze (Zk 1) Zy))) (gNm 0) Zem (Zj8 (Ze (Zk 1) (Ze (Zk 2) (Ze (Zk 0) Zy)))))) (Jb 4)))
  (Yj (wE (Zd3 Zy) (Jb 6))
  (Yj (Zaz (Zga (Zk 4)) (gTp 3 (gCn (gNm 5) (gCn (gNm 3) (gCn (gNm 7) gNl))))
  (wE (Wa Zp2 (Zk 6) (Jw 1 [5,3,7] (iRb (Ze (Zq Zc6 (Zk 7) (fC (.int 1))) (Ze (Zk 1) Zy))) (gNm 0) Zem (Zj8 (Ze (Zk 1) (Ze (Zk 2) (Ze (Zk 3) (Ze (Zk 0) Zy))))))) (Jb 6)))
  (Yj (Zaz (Zga (Wa Zp2 (Zk 4) (Zk 6))) (gNm 8)
  (Zc3 (tV (Zq gIs (Wc Yx (Ze (Zk 0) (Ze (Zk 8) Zy))) (fC .none)))
  (wE (Zk 8) Zar)
  fNx))
  (wE (fC .none) Zar)))))))))
noncomputable def Za9:FD:=Zdi 1 9 Zc2
noncomputable def Ze2:FS :=
 (Yj (wE (Zq Zjt (Wa gIx (Zek 0) (fC (.int 0))) (Zk 1)) (Jb 2))
  (Yj (Zzr 0 (Zq Zdf (Wa gIx (Zek 0) (fC (.int 0))) (Zk 1)) (fC (.int 0)))
  (wE (Zk 2) Zar)))
noncomputable def Zj:FIO:=Zns 2 3 Ze2
noncomputable def Zd1:FS :=
 (wE (Zq Zc6 (fC (.int 1)) (Yh 0 Zj (Ze (Wa gIx (Zd3 (Ze (fC (.int 1)) (Ze (fC (.int 12)) (Ze (Zq Zg4 (fC (.int 10)) (fC (.int 9))) Zy)))) (Yh 0 Zj (Ze (fC (.int 3)) Zy))) Zy))) Zar)
noncomputable def Zbh:FIO:=Zns 1 1 Zd1
noncomputable def Zeo:FS :=
 (Yj (wE (Zq Zc6 (Zq Zc6 (Zq Zic (Zq Zjt (Zk 0) (Zq Zg4 (fC (.int 10)) (fC (.int 40)))) (fC (.int 48271))) (Zq Zic (Zq Zic (Zq Zg4 (fC (.int 3)) (fC (.int 60))) (Zq Zc6 (Zk 1) (fC (.int 1)))) (Zq Zc6 (Zk 1) (fC (.int 1))))) (Zk 1)) (Jb 2))
  (Yj (wE (Zq Zc6 (Zq Zic (Zk 2) (Zk 2)) (Zq Zic (fC (.int 69621)) (Zk 2))) (Jb 2))
  (wE (Zq Zdf (Zq Zjt (Zq Zic (Zk 2) (Zk 2)) (Zq Zc6 (Zq Zg4 (fC (.int 10)) (fC (.int 61))) (fC (.int 7)))) (fC (.int 8))) Zar)))
noncomputable def Wb:FD:=Zdi 2 3 Zeo
noncomputable def Za2:FS :=
 (Yj (Zc3 (tV (Zq gGe (Zk 0) (Zq Zg4 (fC (.int 10)) (fC (.int 18)))))
  (wE (Zd3 (Ze (Zq gSb (Zk 0) (Zq Zg4 (fC (.int 10)) (fC (.int 18)))) Zy)) Zar)
  fNx)
  (wE (Zd3 (Ze (Zq Zc6 (Zq Zic (Zq Zc6 (Zq Zic (Wc Wb (Ze (Zk 0) (Ze (fC (.int 1)) Zy))) (Zq Zg4 (fC (.int 10)) (fC (.int 60)))) (Wc Wb (Ze (Zk 0) (Ze (fC (.int 2)) Zy)))) (Zq Zg4 (fC (.int 10)) (fC (.int 60)))) (Wc Wb (Ze (Zk 0) (Ze (fC (.int 3)) Zy)))) Zy)) Zar))
noncomputable def Zav:FD:=Zdi 1 1 Za2
noncomputable def Zbw:FS :=
 (wE (Jw 1 [0] (Zga (Zk 0)) (gNm 0) Zem (Jw 1 [0] (Zga (Zk 1)) (gNm 0) Zem (Zdq Zl9 (Ze (Zq gSb (Zk 1) (Zk 0)) Zy)))) Zar)
noncomputable def Ji:FD:=Zdi 1 1 Zbw
noncomputable def Zdc:FS :=
 (Zaz (iRa (Ze (Zdq Zft (Ze (Zek 0) Zy)) Zy)) (gNm 3)
  (Zaz (iRa (Ze (Zdq Zft (Ze (Zek 0) Zy)) Zy)) (gNm 4)
  (Zc3 (tV (Zq gNe (Zq Z4i (Zq Z04 (Zk 1) (Zk 3)) (fC (.int 1))) (Zq Z4i (Zq Z04 (Zk 1) (Zk 4)) (fC (.int 1)))))
  (Zb3 0 (Zq Zc6 (Wa gIx (Wa gIx (Zek 0) (Zk 3)) (Zk 4)) (Zk 2)) (Zk 3) (Zk 4))
  fNx)))
noncomputable def Jz:FIO:=Zns 3 5 Zdc
noncomputable def J7:FS :=
 (wE (Jw 1 [0] (iRa (Ze (Zk 0) Zy)) (gNm 0) Zem (Jw 1 [] (iRa (Ze (Zk 1) Zy)) (gNm 0) Zem (fC (.int 0)))) Zar)
noncomputable def Wo:FD:=Zdi 1 1 J7
noncomputable def Zcw:FS :=
 (Yj (wE (Zdq Zft (Ze (Zek 0) Zy)) (Jb 1))
  (Zaz (iRa (Ze (Zk 1) Zy)) (gNm 2)
  (Zaz (iRa (Ze (Zk 1) Zy)) (gNm 3)
  (Zaz (iRa (Ze (Zk 1) Zy)) (gNm 4)
  (Zb3 0 (Zdq Z3c (Ze (Wa gIx (Wa gIx (Zek 0) (Zk 3)) (Zk 4)) (Ze (Zq Zc6 (Wa gIx (Wa gIx (Zek 0) (Zk 3)) (Zk 2)) (Wa gIx (Wa gIx (Zek 0) (Zk 2)) (Zk 4))) Zy))) (Zk 3) (Zk 4))))))
noncomputable def Zaj:FIO:=Zns 1 5 Zcw
noncomputable def Zez:FS :=
 (Yj (wE (Wc Wo (Ze (Zk 1) Zy)) (Zdr 2))
  (Yj (wE (Yh 0 Zj (Ze (fC (.int 4)) Zy)) (Jb 3))
  (Yj (Zc3 (tV (Zq gNe (Zk 3) (fC (.int 1))))
  (Zaz (iRa (Ze (Yh 0 Zj (Ze (fC (.int 7)) Zy)) Zy)) (gNm 4)
  (Yj (wE (Yh 0 Zj (Ze (Zq Z4n (fC (.int 1)) (Zk 1)) Zy)) (Jb 5))
  (wE (Yh 2 Jz (Ze (Zk 5) (Ze (Zq Zc6 (fC (.int 1)) (Yh 0 Zj (Ze (Wa gIx (Zd3 (Ze (fC (.int 3)) (Ze (Zq Zg4 (fC (.int 10)) (fC (.int 20))) Zy))) (Yh 0 Zj (Ze (fC (.int 2)) Zy))) Zy))) Zy))) Ztc)))
  fNx)
  (Yj (Zc3 (tV (Zq gGt (Zk 3) (fC (.int 0))))
  (Yj (wE (Wc Wo (Ze (Zk 1) Zy)) (Zdr 6))
  (Yj (wE (Wa gIx (Zd3 (Ze (fC (.int 3)) (Ze (fC (.int 7)) (Ze (Zq Zg4 (fC (.int 10)) (fC (.int 20))) Zy)))) (Yh 0 Zj (Ze (fC (.int 3)) Zy))) (Jb 7))
  (Yj (Zaz (iRa (Ze (Zk 1) Zy)) (gNm 8)
  (Zaz (iRa (Ze (Zk 8) Zy)) (gNm 9)
  (Yj (Zb3 6 (Wa gIx (Zd3 (Ze (Zq Zc6 (fC (.int 1)) (Yh 0 Zj (Ze (Zk 7) Zy))) (Ze (Zk 7) Zy))) (Zdq Z0f (Ze (Zq gEq (Zk 3) (fC (.int 3))) Zy))) (Zk 8) (Zk 9))
  (Yj (Zc3 (tAn (tV (Zq gEq (Zk 3) (fC (.int 3)))) (tV (Zq gEq (Yh 0 Zj (Ze (fC (.int 2)) Zy)) (fC (.int 0)))))
  (Zb3 6 (fC (.int 1)) (Zk 8) (Zk 9))
  fNx)
  (Zb3 6 (Zht (Wa gIx (Wa gIx (Zek 6) (Zk 8)) (Zk 9))) (Zk 9) (Zk 8))))))
  (Yj (wE (Yh 6 Zaj Zy) Ztc)
  (Zaz (iRa (Ze (Zk 1) Zy)) (gNm 8)
  (Zzr 2 (Jw 2 [] (Zpk (Ze (Wa gIx (Zek 2) (Zk 8)) (Ze (Wa gIx (Zek 6) (Zk 8)) Zy))) (gTp 2 (gCn (Zp3 0) (gCn (Zp3 1) gNl))) Zem (Zq Zc6 (Zk 0) (Zk 1))) (Zk 8)))))))
  fNx)
  (Zfw 2)))))
noncomputable def Zcy:FIO:=Zns 2 10 Zez
noncomputable def Zd0:FS :=
 (Yj (wE (Wa gIx (Zd3 (Ze (fC (.int 4)) (Ze (fC (.int 9)) (Ze (Zq Zg4 (fC (.int 10)) (fC (.int 20))) Zy)))) (Yh 0 Zj (Ze (fC (.int 3)) Zy))) (Jb 2))
  (wE (Zk4 1 [0,2] 0 1 (iRa (Ze (Zk 1) Zy)) (gNm 0) Zem (Zq gSb (Yh 1 Zj (Ze (Zq Zc6 (Zq Zic (fC (.int 2)) (Zk 2)) (fC (.int 1))) Zy)) (Zk 2))) Zar))
noncomputable def J8:FIO:=Zns 2 3 Zd0
noncomputable def Zew:FS :=
 (Yj (wE (Zq Zc6 (fC (.int 1)) (Yh 0 Zj (Ze (fC (.int 5)) Zy))) (Jb 2))
  (Yj (wE (Zq Zc6 (fC (.int 1)) (Yh 0 Zj (Ze (fC (.int 5)) Zy))) (Jb 3))
  (Yj (wE (Zd3 (Ze (Zd3 (Ze (fC (.int 0)) (Ze (Zk 2) (Ze (Zq Zc6 (Zk 2) (Zk 3)) (Ze (Zk 3) Zy))))) (Ze (Zd3 (Ze (Zk 2) (Ze (fC (.int 0)) (Ze (Zk 3) (Ze (Zq Zc6 (Zk 2) (Zk 3)) Zy))))) Zy))) (Jb 4))
  (Yj (wE (Wa Zp2 (Zk 4) (Zd3 (Ze (Zd3 (Ze (Zq Zc6 (Zk 2) (Zk 3)) (Ze (Zk 3) (Ze (fC (.int 0)) (Ze (Zk 2) Zy))))) (Ze (Zd3 (Ze (Zk 3) (Ze (Zq Zc6 (Zk 2) (Zk 3)) (Ze (Zk 2) (Ze (fC (.int 0)) Zy))))) Zy)))) (Jb 4))
  (Yj (wE (Zd3 Zy) (Zdr 5))
  (Yj (Zaz (iRa (Ze (Zk 1) Zy)) (gNm 6)
  (Zhd 5 (Ze (Yh 0 Zj (Ze (Zq Zc6 (Zk 6) (fC (.int 1))) Zy)) (Ze (Wa gIx (Zd3 (Ze (Zk 6) (Ze (Yh 0 Zj (Ze (fC (.int 4)) Zy)) Zy))) (Zdq Z0f (Ze (Zq gGt (Zk 6) (fC (.int 3))) Zy))) Zy))))
  (wE (Jw 1 [5,4] (Zga (Zek 5)) (Zp3 0) Zem (Jw 1 [2,0] (Zga (Zek 1)) (Zp3 0) Zem (Wa gIx (Wa gIx (Zk 1) (Zk 2)) (Zk 0)))) Zar)))))))
noncomputable def Zci:FIO:=Zns 2 7 Zew
noncomputable def Zbr:FS :=
 (Yj (wE (Yh 0 Zj (Ze (fC (.int 6)) Zy)) (Jb 2))
  (Yj (Zc3 (tV (Zq gEq (Zk 2) (fC (.int 3))))
  (wE (Yh 0 Zcy (Ze (Zk 1) Zy)) Zar)
  fNx)
  (Yj (Zc3 (tAn (tV (Zq gEq (Zk 2) (fC (.int 4)))) (tV (Zq gGt (Zk 1) (fC (.int 3)))))
  (wE (Yh 0 Zci (Ze (Zk 1) Zy)) Zar)
  fNx)
  (Yj (wE (Wc Ji (Ze (Yh 0 J8 (Ze (Zk 1) Zy)) Zy)) (Zdr 3))
  (Yj (Zaz (iRa (Ze (Wa gIx (Zd3 (Ze (fC (.int 0)) (Ze (fC (.int 1)) (Ze (fC (.int 2)) (Ze (fC (.int 1)) (Ze (fC (.int 1)) (Ze (fC (.int 1)) Zy))))))) (Zk 2)) Zy)) (gNm 4)
  (Yj (wE (Yh 0 Zj (Ze (Zk 1) Zy)) (Jb 5))
  (Yj (wE (Yh 0 Zj (Ze (Zk 1) Zy)) (Jb 6))
  (Zc3 (tV (Zq gNe (Zk 5) (Zk 6)))
  (Yj (wE (Zq gSb (Zq Zc6 (Zht (Wa gIx (Wa gIx (Zek 3) (Zk 5)) (Zk 6))) (Yh 0 Zj (Ze (fC (.int 5)) Zy))) (fC (.int 2))) (Jb 7))
  (Yj (Zb3 3 (Zdq Zl9 (Ze (Zk 7) Zy)) (Zk 5) (Zk 6))
  (Zb3 3 (Zdq Zl9 (Ze (Zk 7) Zy)) (Zk 6) (Zk 5))))
  fNx))))
  (Yj (Zc3 (tV (Zq gEq (Zk 2) (fC (.int 5))))
  (Zaz (iRa (Ze (Zk 1) Zy)) (gNm 5)
  (Zaz (iRa (Ze (Zk 5) Zy)) (gNm 6)
  (Yj (Zb3 3 (Yh 0 Zj (Ze (fC (.int 4)) Zy)) (Zk 5) (Zk 6))
  (Zb3 3 (Zht (Wa gIx (Wa gIx (Zek 3) (Zk 5)) (Zk 6))) (Zk 6) (Zk 5)))))
  fNx)
  (Zfw 3)))))))
noncomputable def J5:FIO:=Zns 2 8 Zbr
noncomputable def Zcu:FS :=
 (Yj (wE (Zdq Zl9 (Ze (Zk 0) Zy)) (Jb 2))
  (Yj (wE (Zk 1) (Jb 3))
  (Yj (Ziv (tV (Zq gNe (Zk 3) (fC (.int 0)))) (Yj (wE (Zq Zjt (Zk 2) (Zk 3)) (Jb 4))
  (Yj (wE (Zk 3) (Jb 2))
  (wE (Zk 4) (Jb 3)))))
  (wE (Zj8 (Ze (Zq Zdf (Zk 0) (Zk 2)) (Ze (Zq Zdf (Zk 1) (Zk 2)) Zy))) Zar))))
noncomputable def Zal:FD:=Zdi 2 5 Zcu
noncomputable def Zef:FS :=
 (wE (Jw 1 [1] (Zga (Zk 0)) (gNm 0) Zem (Jw 1 [1] (Zga (Zk 0)) (gNm 0) Zem (Wc Zal (Ze (Zk 0) (Ze (Zk 1) Zy))))) Zar)
noncomputable def Jl:FD:=Zdi 2 2 Zef
noncomputable def Zen:FS :=
 (wE (Zlo (fun i j=>decide (i ≤ j)) (fun i j=>decide (i < j)) (fC (.int 0)) (Zk 1) (Zdq Zft (Ze (Zk 0) Zy))) Zar)
noncomputable def Zc1:FD:=Zdi 2 2 Zen
noncomputable def Zfg:FS :=
 (Yj (Zaz (Zga (Zk 1)) (gNm 2)
  (Zc3 (tNo (tD (Wc Zc1 (Ze (Zk 0) (Ze (Zk 2) Zy)))))
  (wE (fC (.bool false)) Zar)
  fNx))
  (wE (Z0d (Zq gGt (Zdq Zft (Ze (Zk 1) Zy)) (fC (.int 0))) (Zq gEq (Zkd (Ze (Zk 1) Zy)) (Zdq Zft (Ze (Zk 1) Zy)))) Zar))
noncomputable def Zdh:FD:=Zdi 2 3 Zfg
noncomputable def Zdl:FS :=
 (Yj (Zc3 (tNo (tD (Wc Zdh (Ze (Zk 0) (Ze (Zk 1) Zy)))))
  (Znq "NoPoint")
  fNx)
  (Yj (wE (Zd3 Zy) (Zdr 2))
  (Yj (Zaz (Zga (Zk 1)) (gNm 3)
  (Zah 2 (Jw 1 [0,3] (Zga (Zk 1)) (gNm 0) Zem (Wa gIx (Wa gIx (Zk 1) (Zk 2)) (Zk 0)))))
  (Zfw 2))))
noncomputable def Zae:FD:=Zdi 2 4 Zdl
noncomputable def Zax:FS :=
 (Yj (Zaz (iRa (Ze (Zdq Zft (Ze (Zk 0) Zy)) Zy)) (gNm 1)
  (Zc3 (tV (Zq gGt (Wa gIx (Wa gIx (Zk 0) (fC (.int 0))) (Zk 1)) (fC (.int 0))))
  (wE (Zk 1) Zar)
  fNx))
  (wE (fC (.int 0)) Zar))
noncomputable def Jy:FD:=Zdi 1 2 Zax
noncomputable def Za7:FS :=
 (Yj (Zaz (Zga (Wc Zcq (Ze (Zdq Zft (Ze (Zk 0) Zy)) Zy))) (gTp 2 (gCn (gNm 2) (gCn (gNm 3) gNl)))
  (Zc3 (tV (Zq gNe (Zdq Zl9 (Ze (Zq gSb (Wa gIx (Zk 1) (Zk 2)) (Wa gIx (Zk 1) (Zk 3))) Zy)) (Wa gIx (Wa gIx (Zk 0) (Zk 2)) (Zk 3))))
  (wE (fC (.bool false)) Zar)
  fNx))
  (wE (fC (.bool true)) Zar))
noncomputable def Wv:FD:=Zdi 2 4 Za7
noncomputable def Ze6:FS :=
 (Yj (wE (Wa gIx (Wa gIx (Zk 0) (fC (.int 0))) (Zk 2)) (Jb 3))
  (Yj (Zc3 (tV (Zq gEq (Zdq Zl9 (Ze (Zq gSb (Wa gIx (Wa gIx (Zk 0) (fC (.int 0))) (Zk 1)) (Zk 3)) Zy)) (Wa gIx (Wa gIx (Zk 0) (Zk 1)) (Zk 2))))
  (wE (Zk 3) Zar)
  fNx)
  (wE (fUn Zwf (Zk 3)) Zar)))
noncomputable def Zc0:FD:=Zdi 3 4 Ze6
noncomputable def Zeg:FS :=
 (Yj (wE (Wc Jy (Ze (Zk 0) Zy)) (Jb 1))
  (Yj (wE (Jw 1 [0,1] (iRa (Ze (Zdq Zft (Ze (Zk 0) Zy)) Zy)) (gNm 0) Zem (Wc Zc0 (Ze (Zk 1) (Ze (Zk 2) (Ze (Zk 0) Zy))))) (Jb 2))
  (wE (fIf (tD (Wc Wv (Ze (Zk 0) (Ze (Zk 2) Zy)))) (Zk 2) (fC .none)) Zar)))
noncomputable def Jp:FD:=Zdi 1 3 Zeg
noncomputable def Zbz:FS :=
 (Yj (wE (Zd3 (Ze (Zj8 Zy) Zy)) (Jb 2))
  (Yj (Zaz (iRa (Ze (Zk 1) Zy)) (gNm 3)
  (Yj (wE (Zd3 Zy) (Zdr 4))
  (Yj (Zaz (Zga (Zk 2)) (gNm 5)
  (Yj (wE (fIf (tV (Zq gGt (Zdq Zft (Ze (Zk 5) Zy)) (fC (.int 0)))) (Zq Zc6 (Wa gIx (Zk 5) (fUn Zwf (fC (.int 1)))) (fC (.int 1))) (fC (.int 0))) (Jb 6))
  (Zgl 4 (Jw 1 [5] (iRb (Ze (Zk 6) (Ze (Zk 0) Zy))) (gNm 0) Zem (Wa Zpj (Zk 1) (Zj8 (Ze (Zk 0) Zy)))))))
  (Zh1 4 (wE (Zk 4) (Jb 2))))))
  (wE (Zk 2) Zar)))
noncomputable def Zad:FD:=Zdi 2 7 Zbz
noncomputable def J3:FS :=
 (Yj (Zaz (iTp (Zj8 (Ze (fC (.int 3)) (Ze (fC (.int 4)) Zy)))) (gNm 1)
  (Zaz (Zga (Wc Zad (Ze (Zdq Zft (Ze (Zk 0) Zy)) (Ze (Zk 1) Zy)))) (gNm 2)
  (Zc3 (tV (Zq gIs (Wc Jp (Ze (Wc Zae (Ze (Zk 0) (Ze (fBl Zrd (Ze (Zk 2) Zy)) Zy))) Zy)) (fC .none)))
  (wE (Zk 2) Zar)
  fNx)))
  (wE (fC .none) Zar))
noncomputable def Ww:FD:=Zdi 1 3 J3
noncomputable def Zeh:FS :=
 (Yj (wE (Wc Je (Ze (Zk 0) Zy)) (Jb 1))
  (Yj (wE (Wc Zbm (Ze (Zk 1) (Ze (Zk 0) Zy))) (Jb 2))
  (Yj (wE (Wc Jp (Ze (Zk 2) Zy)) (Jb 3))
  (Yj (Zc3 (tV (Zq gIs (Zk 3) (fC .none)))
  (wE (Zj8 (Ze (fC (.str "bars")) (Ze (Wc Ww (Ze (Zk 2) Zy)) Zy))) Zar)
  fNx)
  (wE (Zug (Ze (fC (.str "line")) (Ze (Jw 1 [1] (Zga (Zk 3)) (gNm 0) Zem (Wc Za1 (Ze (Zk 0) (Ze (Zk 1) Zy)))) Zy))) Zar)))))
noncomputable def Zbt:FD:=Zdi 1 4 Zeh
noncomputable def Zgn:FS :=
 (Yj (Zaz (Zga (Wa Zp2 (Zd3 (Ze (Zq Zg4 (fC (.int 10)) (fC (.int 18))) Zy)) (fSl (Zk 0) oN (oI (fC (.int 2)))))) (gNm 1)
  (Yj (wE (Wc Zav (Ze (Zk 1) Zy)) (Zdr 2))
  (Yj (wE (Zq Zc6 (fC (.int 1)) (Yh 2 Zj (Ze (Wa gIx (Zd3 (Ze (fC (.int 8)) (Ze (fC (.int 8)) (Ze (fC (.int 8)) (Ze (fC (.int 10)) Zy))))) (Yh 2 Zj (Ze (fC (.int 4)) Zy))) Zy))) (Jb 3))
  (Yj (wE (Yh 2 J5 (Ze (Zk 3) Zy)) (Jb 4))
  (Yj (wE (Yh 2 Zbh Zy) (Jb 5))
  (Yj (wE (Wc Jl (Ze (Zk 4) (Ze (Zk 5) Zy))) (Jb 6))
  (Yj (wE (Wc Za9 (Ze (Zk 4) Zy)) (Jb 7))
  (Yj (wE (Zq Zi1 (Wc Yx (Ze (Zk 4) (Ze (Zz8 (Ze (Zk 3) Zy)) Zy))) (fC .none)) (Jb 8))
  (Zaz (iRa (Ze (fC (.int 2)) Zy)) (gNm 9)
  (Yj (wE (Wc Zbt (Ze (Zk 6) Zy)) (Jb 10))
  (Yj (Zc3 (tO (tNo (tD (Zv4 "tuple" (Zk 10)))) (tV (Zq gNe (Zdq Zft (Ze (Zk 10) Zy)) (fC (.int 2)))))
  (wE (fC (.bool false)) Zar)
  fNx)
  (Yj (Zc3 (tV (Zq gNe (Zk 6) (Wc Jl (Ze (Zk 4) (Ze (Zk 5) Zy)))))
  (wE (fC (.bool false)) Zar)
  fNx)
  (Yj (Zc3 (tO (tV (Zq gNe (Zk 8) (Zq gEq (Wa gIx (Zk 10) (fC (.int 0))) (fC (.str "line"))))) (tV (Zq gNe (Zk 8) (Zq gIs (Zk 7) (fC .none)))))
  (wE (fC (.bool false)) Zar)
  fNx)
  (Zc3 (tAn (tV (Zq Zi1 (Zk 7) (fC .none))) (tO (tV (Zq gNe (Zk 10) (Zj8 (Ze (fC (.str "bars")) (Ze (Zk 7) Zy))))) (tNo (tD (Zv4 "tuple" (Wa gIx (Zk 10) (fC (.int 1))))))))
  (wE (fC (.bool false)) Zar)
  fNx))))))))))))))
  (wE (fC (.bool true)) Zar))
noncomputable def Zgj:FD:=Zdi 1 11 Zgn
end My
namespace My
open PySem L2 PySem.Spec
noncomputable def Zf0:FS :=
 (Yj (Zc3 (tV (Zq gLt (Zk 1) (Zdq Zft (Ze (Zk 0) Zy))))
  (wE (Wa gIx (Zk 0) (Zk 1)) Zar)
  fNx)
  (wE (fC (.int 0)) Zar))
noncomputable def Znt:FD:=Zdi 2 2 Zf0
noncomputable def Zho:FS :=
 (Yj (Zc3 (tV (Zq gEq (Zq Zjt (Zq Zdf (Zk 0) (fC (.int 7))) (fC (.int 8))) (fC (.int 3))))
  (wE (Zq Zc6 (Zq Zc6 (Zk 2) (fC (.int 1))) (Zq Zjt (Zq Zdf (Zk 0) (fC (.int 56))) (Zq gSb (Zk 3) (Zk 2)))) Zar)
  fNx)
  (wE (Zq Zc6 (Zk 1) (Zq Zjt (Zk 0) (Zq gSb (Zq Zc6 (Zk 2) (fC (.int 1))) (Zk 1)))) Zar))
noncomputable def Zsz:FD:=Zdi 4 4 Zho
noncomputable def Zhs:FS :=
 (Yj (wE (Zq Zjt (Zq Zic (Zq Zc6 (Zq Zc6 (Zq Zjt (Zk 0) (fC (.int 2147483629))) (Zq Zic (fC (.int 9973)) (Zk 1))) (fC (.int 5))) (fC (.int 48271))) (fC (.int 2147483647))) (Jb 2))
  (Yj (wE (Zq Zjt (Zq Zic (Zk 2) (Zk 2)) (fC (.int 2147483587))) (Jb 2))
  (wE (Zq Zdf (Zq Zjt (Zq Zic (Zq Zc6 (Zk 2) (Zq Zic (fC (.int 7919)) (Zk 1))) (fC (.int 16807))) (fC (.int 2147483563))) (fC (.int 8))) Zar)))
noncomputable def Zh4:FD:=Zdi 2 3 Zhs
noncomputable def Zf2:FS :=
 (Yj (wE (Zd3 Zy) (Zdr 2))
  (Yj (wE (Zk 0) (Jb 3))
  (Yj (Zaz (iRa (Ze (Zk 1) Zy)) (gNm 4)
  (Yj (wE (Wc Zh4 (Ze (Zk 0) (Ze (Zk 4) Zy))) (Jb 5))
  (Yj (Zc3 (tV (Zq gGe (Zk 0) (Zq Zg4 (fC (.int 10)) (fC (.int 18)))))
  (wE (Zq Zjt (Zk 3) (fC (.int 720720))) (Jb 5))
  fNx)
  (Yj (wE (Zq Zdf (Zk 3) (fC (.int 720720))) (Jb 3))
  (Zah 2 (Zk 5))))))
  (Zfw 2))))
noncomputable def Znw:FD:=Zdi 2 6 Zf2
noncomputable def Zdx (p:List Int):PyData:=.list (p.map PyData.int)
theorem Zup {p:List Int} {i:Int} (h0:0 ≤ i) (h1:i < p.length):atI (p.map PyData.int) i = some (.int (p.getD i.toNat 0)):=by
 rw [Zla h0,List.getElem?_map,List.getElem?_eq_getElem (by omega)]
 simp [List.getD_eq_getElem?_getD,List.getElem?_eq_getElem (show i.toNat < p.length by omega)]
theorem Zl0 {a b:FE} {δ:Zr} {p:List Int} {i:Int} (ha:EvV a δ (Zdx p)) (hb:EvV b δ (.int i)) (h0:0 ≤ i) (h1:i < p.length):EvV (Wa gIx a b) δ (.int (p.getD i.toNat 0)):=Zwc ha hb (Zup h0 h1)
theorem Zis {a:FE} {δ:Zr} {p:List Int} (ha:EvV a δ (Zdx p)):EvV (Zdq Zft (Ze a Zy)) δ (.int p.length):=by
 have:=Zwa (ds:=p.map PyData.int) ha
 rwa [List.length_map] at this
theorem Z5m:Zg4 (.int 10) (.int 18) = some (.int 1000000000000000000):=rfl
theorem Zui {i:Nat} {e:FE} {δ:Zr} {vs:List Int} {v:Int} (h:EvV e δ (.int v)) (hi:δ[i]? = some (some (.nd (vs.map fun v=>.fz (.int v))))) (hl:vs.length ≤ 1000000):Zah i e δ = .nx (δ.set i (some (.nd ((vs ++ [v]).map fun v=>.fz (.int v))))):=by
 rw [Zq0 h hi (by rw [List.length_map]; exact hl),List.map_append]; rfl
theorem Ztn (vs:List Int):(OT.nd (vs.map fun v=>OT.fz (.int v))).data = Zdx vs:=by rw [OT.data_nd,Zo4]; rfl
end My
namespace L2
open PySem PySem.Spec
noncomputable def EvP (e:FE) (δ:Zr) (Q:PyData→Zr→Prop):Prop:=∃ t δ',e δ = some (t,δ')∧Q t.data δ'
noncomputable def EpA (a:FA) (δ:Zr) (Q:List PyData→Zr→Prop):Prop:=∃ ts δ',a δ = some (ts,δ')∧Q (OT.datas ts) δ'
noncomputable def EpT (t:FT) (δ:Zr) (Q:Bool→Zr→Prop):Prop:=∃ b δ',t δ = some (b,δ')∧Q b δ'
noncomputable def EpS (S:FS) (δ:Zr) (N:Zr→Prop) (R:PyData→Zr→Prop):Prop:=(∃ δ',S δ = .nx δ'∧N δ')∨∃ o δ',S δ = .rt o δ'∧R o.data δ'
noncomputable def ToldI (F:FIO) (t:OT) (ds:List PyData) (Q:PyData→OT→Prop):Prop:=∃ r t',F t ds = some (r,t')∧Q r.data t'
section
variable {e a b:FE} {as:FA} {δ:Zr} {Q:PyData→Zr→Prop} {QA:List PyData→Zr→Prop} {T:Bool→Zr→Prop} {t u:FT} {S S':FS} {N:Zr→Prop} {R:PyData→Zr→Prop} {i:Nat} {d:PyData}
theorem Z4 (h:EvV e δ d) (q:Q d δ):EvP e δ Q:=by
 obtain ⟨t,e1,e2⟩:=h
 exact ⟨t,δ,e1,e2 ▸ q⟩
theorem Zdg {g:PyData→PyData→Option PyData} (h:EvP a δ fun x δ1=>EvP b δ1 fun y δ2=>∃ d,g x y = some d∧Q d δ2):EvP (Zq g a b) δ Q:=by
 obtain ⟨t,δ1,e1,t2,δ2,e2,d,e3,q⟩:=h
 exact ⟨.fz d,δ2,by rw [Zn2,e1]; show (b δ1).bind _ = _; rw [e2]; show (g _ _).bind _ = _; rw [e3]; rfl,by rw [OT.data_fz]; exact q⟩
theorem Zia {g:PyData→PyData→Option OT} (h:EvP a δ fun x δ1=>EvP b δ1 fun y δ2=>∃ o,g x y = some o∧Q o.data δ2):EvP (Wa g a b) δ Q:=by
 obtain ⟨t,δ1,e1,t2,δ2,e2,d,e3,q⟩:=h
 exact ⟨d,δ2,by rw [Zsd,e1]; show (b δ1).bind _ = _; rw [e2]; show (g _ _).bind _ = _; rw [e3]; rfl,q⟩
theorem Zay (q:QA [] δ):EpA Zy δ QA:=⟨[],δ,rfl,by rw [Zfz]; exact q⟩
theorem W4 (h:EvP e δ fun d δ1=>EpA as δ1 fun ds δ2=>QA (d :: ds) δ2):EpA (Ze e as) δ QA:=by
 obtain ⟨t,δ1,e1,ts,δ2,e2,q⟩:=h
 exact ⟨t :: ts,δ2,by rw [Zj3,e1]; show (as δ1).bind _ = _; rw [e2]; rfl,by rw [Zfb]; exact q⟩
theorem Zoc {ds:List PyData} (h:EvA as δ ds) (q:QA ds δ):EpA as δ QA:=by
 obtain ⟨ts,e1,e2⟩:=h
 exact ⟨ts,δ,e1,e2 ▸ q⟩
theorem Za8 {F:FIO} {t0:OT} (h0:δ[i]? = some (some t0)) (h:EpA as δ fun ds δ1=>∃ t,δ1[i]? = some (some t)∧ToldI F t ds fun d t'=>Q d (δ1.set i (some t'))):EvP (Yh i F as) δ Q:=by
 obtain ⟨ts,δ1,e1,t,e2,r,t',e3,q⟩:=h
 refine ⟨r,δ1.set i (some t'),?_,q⟩
 rw [Ztb,h0]
 show (as δ).bind _ = _
 rw [e1]
 show atO δ1[i]? _ = _
 rw [e2]
 show (F t _).bind _ = _
 rw [e3]; rfl
theorem Zwl (h:EpA as δ fun ds δ1=>ds.length ≤ 1000∧Q (.list ds) δ1):EvP (Zd3 as) δ Q:=by
 obtain ⟨ts,δ1,e1,hl,q⟩:=h
 refine ⟨.nd ts,δ1,?_,by rw [OT.data_nd,← datas_map]; exact q⟩
 rw [Zhu,e1]
 show (if ts.length ≤ sizeLine then _ else _) = _
 rw [if_pos (by rw [Zds] at hl; rw [sizeLine_eq]; omega)]
theorem Z6w (h:EvP e δ fun d δ'=>∃ p,d = .bool p∧T p δ'):EpT (tV e) δ T:=by
 obtain ⟨t,δ',e1,p,e2,q⟩:=h
 have:=Zh3 e2
 subst this
 exact ⟨p,δ',by unfold tV; rw [e1]; rfl,q⟩
theorem Wu {p:Bool} (h:EvT t δ p) (q:T p δ):EpT t δ T:=⟨p,δ,h,q⟩
theorem Zwr (h:EpT t δ fun p δ1=>(p = true→EpT u δ1 T)∧(p = false→T false δ1)):EpT (tAn t u) δ T:=by
 obtain ⟨p,δ1,e1,q1,q2⟩:=h
 cases p with
 | true =>
  obtain ⟨p2,δ2,e2,q⟩:=q1 rfl
  exact ⟨p2,δ2,by unfold tAn; rw [e1]; exact e2,q⟩
 | false=>exact ⟨false,δ1,by unfold tAn; rw [e1]; rfl,q2 rfl⟩
theorem Y8 {δ':Zr} (h:S δ = .nx δ') (q:N δ'):EpS S δ N R:=.inl ⟨δ',h,q⟩
theorem Zv (h:EpS S δ (fun δ'=>EpS S' δ' N R) R):EpS (Yj S S') δ N R:=by
 rcases h with ⟨δ',e,h⟩ | ⟨o,δ',e,h⟩
 ·rcases h with ⟨δ2,e2,q⟩ | ⟨o,δ2,e2,q⟩
  ·exact .inl ⟨δ2,by rw [Zhf,e,Zqs,e2],q⟩
  ·exact .inr ⟨o,δ2,by rw [Zhf,e,Zqs,e2],q⟩
 ·exact .inr ⟨o,δ',by rw [Zhf,e,Zvr],h⟩
theorem Zbn (h:EvP e δ fun d δ'=>N (δ'.set i (some (.fz d)))):EpS (wE e (Jb i)) δ N R:=by
 obtain ⟨t,δ',e1,q⟩:=h
 exact .inl ⟨_,by rw [Zel,e1]; rfl,q⟩
theorem Jx (h:EvP e δ R):EpS (wE e Zar) δ N R:=by
 obtain ⟨t,δ',e1,q⟩:=h
 exact .inr ⟨t,δ',by rw [Zel,e1]; rfl,q⟩
theorem Zc8 (h:EpT t δ fun p δ'=>(p = true→EpS S δ' N R)∧(p = false→EpS S' δ' N R)):EpS (Zc3 t S S') δ N R:=by
 obtain ⟨p,δ',e1,q1,q2⟩:=h
 have e:Zc3 t S S' δ = if p = true then S δ' else S' δ':=by unfold Zc3; rw [e1]
 cases p with
 | true =>
  have g:=q1 rfl
  unfold EpS at g ⊢
  rw [e]; exact g
 | false =>
  have g:=q2 rfl
  unfold EpS at g ⊢
  rw [e]; exact g
theorem Zcm (q:N δ):EpS fNx δ N R:=.inl ⟨δ,rfl,q⟩
theorem EpS.mono {N':Zr→Prop} {R':PyData→Zr→Prop} (h:EpS S δ N R) (k:∀ δ',N δ'→N' δ') (k2:∀ d δ',R d δ'→R' d δ'):EpS S δ N' R' :=
 h.imp (fun ⟨δ',e,q⟩=>⟨δ',e,k _ q⟩) fun ⟨o,δ',e,q⟩=>⟨o,δ',e,k2 _ _ q⟩
theorem Zvi {g:FG} (I:Nat→Zr→Prop) (ds:List PyData) (m:Nat) (h0:I m δ) (turn:∀ (k:Nat) (d:PyData) (δ:Zr),ds[k]? = some d→I (m + k) δ→∃ δ1,g d δ = some δ1∧EpS S δ1 (I (m + k + 1)) R) (fin:∀ δ',I (m + ds.length) δ'→N δ') :
  (∃ δ',forLoop g S ds δ = .nx δ'∧N δ')∨∃ o δ',forLoop g S ds δ = .rt o δ'∧R o.data δ':=by
 induction ds generalizing m δ with
 | nil=>exact .inl ⟨δ,rfl,fin δ h0⟩
 | cons d ds ih =>
  obtain ⟨δ1,e1,h⟩:=turn 0 d δ rfl h0
  rcases h with ⟨δ2,e2,q⟩ | ⟨o,δ2,e2,q⟩
  ·have e:forLoop g S (d :: ds) δ = forLoop g S ds δ2:=by rw [forLoop,e1]; show (match S δ1 with | .nx δ2=>_ | .ct δ2=>_ | .bk δ2=>_ | r=>_) = _; rw [e2]
   rw [e]
   refine ih (m + 1) q (fun k d' δ' hk hI=>?_) fun δ' hI=>fin δ' (by rw [List.length_cons]; rw [show m + 1 + ds.length = m + (ds.length + 1) by omega] at hI; exact hI)
   have:=turn (k + 1) d' δ' hk (by rw [show m + (k + 1) = m + 1 + k by omega]; exact hI)
   rwa [show m + (k + 1) + 1 = m + 1 + k + 1 by omega] at this
  ·refine .inr ⟨o,δ2,?_,q⟩
   rw [forLoop,e1]; show (match S δ1 with | .nx δ2=>_ | .ct δ2=>_ | .bk δ2=>_ | r=>_) = _; rw [e2]
theorem Wj {it:FI} {g:FG} {ds:List PyData} {δ0:Zr} (I:Nat→Zr→Prop) (hi:it δ = some (ds,δ0)) (h0:I 0 δ0) (turn:∀ (k:Nat) (d:PyData) (δ:Zr),ds[k]? = some d→I k δ→∃ δ1,g d δ = some δ1∧EpS S δ1 (I (k + 1)) R) (fin:∀ δ',I ds.length δ'→N δ'):EpS (Zaz it g S) δ N R:=by
 have e:Zaz it g S δ = forLoop g S ds δ0:=by unfold Zaz; rw [hi]
 have h:=Zvi (R:=R) (N:=N) (S:=S) (g:=g) (δ:=δ0) I ds 0 h0 (fun k d δ hk hI=>by rw [Nat.zero_add] at hI ⊢; exact turn k d δ hk hI) (fun δ' hI=>by rw [Nat.zero_add] at hI; exact fin δ' hI)
 unfold EpS
 rw [e]; exact h
noncomputable def EpI (it:FI) (δ:Zr) (Q:List PyData→Zr→Prop):Prop:=∃ ds δ',it δ = some (ds,δ')∧Q ds δ'
theorem Z1x (h:EpA as δ fun ds δ'=>∃ n:Nat,ds = [.int n]∧n ≤ 1000000∧QA (Zc4 0 n) δ'):EpI (iRa as) δ QA:=by
 obtain ⟨ts,δ',e1,n,e2,hn,q⟩:=h
 exact ⟨_,δ',by rw [Zvp,e1,Option.bind_some,e2,Zxn,Zrc (by omega) (by omega),Int.toNat_natCast],q⟩
theorem Zuq {it:FI} {g:FG} (h:EpI it δ fun ds δ0=>∃ I:Nat→Zr→Prop,I 0 δ0∧(∀ (k:Nat) (d:PyData) (δ:Zr),ds[k]? = some d→I k δ→∃ δ1,g d δ = some δ1∧EpS S δ1 (I (k + 1)) R)∧∀ δ',I ds.length δ'→N δ'):EpS (Zaz it g S) δ N R:=by
 obtain ⟨ds,δ0,e,I,h0,turn,fin⟩:=h
 exact Wj I e h0 turn fin
theorem ToldI.mono {F:FIO} {t0:OT} {ds:List PyData} {Q Q':PyData→OT→Prop} (h:ToldI F t0 ds Q) (k:∀ d t,Q d t→Q' d t):ToldI F t0 ds Q':=by
 obtain ⟨r,t',e,q⟩:=h
 exact ⟨r,t',e,k _ _ q⟩
theorem Z1k {g:FG} (I:Nat→List PyData→Zr→Prop) (ds:List PyData) (m:Nat) (acc:List PyData) (h0:I m acc δ) (turn:∀ (k:Nat) (d:PyData) (acc:List PyData) (δ:Zr),ds[k]? = some d→I (m + k) acc δ→∃ δ1,g d δ = some δ1∧EpT t δ1 fun p δ2=>(p = true→EvP e δ2 fun d δ3=>I (m + k + 1) (acc ++ [d]) δ3)∧(p = false→I (m + k + 1) acc δ2)) :
  ∃ ts δ',compLoop g t e ds δ = some (ts,δ')∧I (m + ds.length) (acc ++ ts.map OT.data) δ':=by
 induction ds generalizing m acc δ with
 | nil=>exact ⟨[],δ,rfl,by rw [List.map_nil,List.append_nil]; exact h0⟩
 | cons d ds ih =>
  obtain ⟨δ1,e1,p,δ2,e2,q1,q2⟩:=turn 0 d acc δ rfl h0
  have next:∀ (k:Nat) (d:PyData) (acc:List PyData) (δ:Zr),ds[k]? = some d→I (m + 1 + k) acc δ→∃ δ1,g d δ = some δ1∧EpT t δ1 fun p δ2=>(p = true→EvP e δ2 fun d δ3=>I (m + 1 + k + 1) (acc ++ [d]) δ3)∧(p = false→I (m + 1 + k + 1) acc δ2):=fun k d acc δ hk hI=>by
   have:=turn (k + 1) d acc δ hk (by rw [show m + (k + 1) = m + 1 + k by omega]; exact hI)
   rwa [show m + (k + 1) + 1 = m + 1 + k + 1 by omega] at this
  have el:m + 1 + ds.length = m + (ds.length + 1):=by omega
  cases p with
  | true =>
   obtain ⟨o,δ3,e3,hI⟩:=q1 rfl
   obtain ⟨ts,δ',e4,hf⟩:=ih (m + 1) (acc ++ [o.data]) hI next
   refine ⟨o :: ts,δ',?_,?_⟩
   ·rw [compLoop,e1]; show (t δ1).bind _ = _; rw [e2]; show (e δ2).bind _ = _; rw [e3]; show (compLoop g t e ds δ3).bind _ = _; rw [e4]; rfl
   ·rw [List.length_cons,← el,List.map_cons]; rw [List.append_assoc] at hf; exact hf
  | false =>
   obtain ⟨ts,δ',e4,hf⟩:=ih (m + 1) acc (q2 rfl) next
   refine ⟨ts,δ',?_,by rw [List.length_cons,← el]; exact hf⟩
   rw [compLoop,e1]; show (t δ1).bind _ = _; rw [e2]; exact e4
theorem Z44 {g:FG} {it:FI} {caps:List Nat} {n o q:Nat} {ds:List PyData} {t0:OT} (I:Nat→List PyData→Zr→Prop) (hi:EvI it δ ds) (hz:ds.length ≤ 1000000) (hc:Zkq caps o δ = true) (ho:δ[o]? = some (some t0)) (h0:I 0 [] (blk n caps δ))
  (turn:∀ (k:Nat) (d:PyData) (acc:List PyData) (δ:Zr),ds[k]? = some d→I k acc δ→∃ δ1,g d δ = some δ1∧EpT t δ1 fun p δ2=>(p = true→EvP e δ2 fun d δ3=>I (k + 1) (acc ++ [d]) δ3)∧(p = false→I (k + 1) acc δ2)) (fin:∀ acc δ',I ds.length acc δ'→∃ t,δ'[q]? = some (some t)) :
  ∃ ts t' δ',Zk4 n caps o q it g t e δ = some (.nd ts,δ.set o (some t'))∧I ds.length (ts.map OT.data) δ'∧δ'[q]? = some (some t'):=by
 obtain ⟨ts,δ',e1,hI⟩:=Z1k (t:=t) (e:=e) I ds 0 [] h0 (fun k d acc δ hk h=>by rw [Nat.zero_add] at h ⊢; exact turn k d acc δ hk h)
 rw [Nat.zero_add,List.nil_append] at hI
 obtain ⟨t',e2⟩:=fin _ _ hI
 refine ⟨ts,t',δ',?_,hI,e2⟩
 unfold Zk4
 unfold EvI at hi
 rw [hi]
 show (if ds.length ≤ sizeLine∧Zkq caps o δ = true then _ else none) = _
 rw [if_pos ⟨by rw [sizeLine_eq]; omega,hc⟩,e1]
 show (match δ[o]?,δ'[q]? with | some (some _),some (some t)=>some (OT.nd ts,δ.set o (some t)) | _,_=>none) = _
 rw [ho,e2]
theorem Zg5 {o:OT} {δ':Zr} (h:e δ = some (o,δ')) (q:N (δ'.set i (some o))):EpS (wE e (Zdr i)) δ N R:=.inl ⟨_,by rw [Zel,h]; rfl,q⟩
theorem Zda {np n:Nat} {t0:OT} {ds:List PyData} {Q:PyData→OT→Prop} (hl:ds.length + 1 = np) (h:EpS S (Zjp n t0 ds) (fun δ'=>∃ t',δ'[0]? = some (some t')∧Q .none t') fun d δ'=>∃ t',δ'[0]? = some (some t')∧Q d t'):ToldI (Zns np n S) t0 ds Q:=by
 unfold ToldI
 rw [Zz2 hl]
 rcases h with ⟨δ',e,t',e2,q⟩ | ⟨o,δ',e,t',e2,q⟩
 ·exact ⟨.fz .none,t',by rw [e]; show (match δ'[0]? with | some (some t)=>some (OT.fz .none,t) | _=>none) = _; rw [e2],by rw [OT.data_fz]; exact q⟩
 ·exact ⟨o,t',by rw [e]; show (match δ'[0]? with | some (some t)=>some (o,t) | _=>none) = _; rw [e2],q⟩
end
end L2
namespace My
open PySem L2 PySem.Spec
noncomputable def dk (x:Int):OT:=.nd [.fz (.int x)]
theorem Zy4 (x:Int):(dk x).data = .list [.int x]:=by unfold dk; rw [OT.data_nd]; rfl
theorem btc {n:Nat} {m:Int} (h1:decide (-(2 ^ n) < m) = true) (h2:decide (m < 2 ^ n) = true):Bt n m:=Bt.of_lt (of_decide_eq_true h1) (of_decide_eq_true h2)
theorem Zv1 {δ:Zr} {i n:Nat} {e j:FE} {ts:List OT} {d:PyData} {k:Int} (h:EvV e δ d) (hi:δ[i]? = some (some (.nd ts))) (hj:EvV j δ (.int k)) (hx:ixN ts.length k = some n):Zzr i e j δ = .nx (δ.set i (some (.nd (ts.set n (.fz d))))):=by
 obtain ⟨t,e1,e2⟩:=h
 obtain ⟨u,e3,e4⟩:=hj
 rw [Zxi,e1,Jd,hi]
 show onO (j δ) _ = _
 rw [e3,Jd,e4]
 show onX (ixN ts.length k) _ = _
 rw [hx,e2]; rfl
theorem Zjs (x:Int) {m:Int} (h0:0 < m) (hb:Bt 400 m):ToldI Zj (dk x) [.int m] fun d t'=>∃ r x',d = .int r∧0 ≤ r∧r < m∧t' = dk x':=by
 have i0:∀ {δ:Zr},δ[0]? = some (some (dk x))→EvV (Wa gIx (Zek 0) (fC (.int 0))) δ (.int x):=fun h=>Zwc (Ze1 h (Zy4 x)) Yc rfl
 exact Zda rfl (Zv (Y8 (Yp (Zk0 (i0 rfl) Zc (by omega))) (Zv (Y8 (Zv1 (n:=0) (Zw (i0 rfl) Zc (Zgi (Zgb (by omega) hb))) rfl Yc rfl) (Jx (Z4 Zc ⟨_,rfl,_,_,rfl,Zmc h0,Zmx h0,rfl⟩))))))
theorem W7 {δ:Zr} {i:Nat} {x:Int} {as:FA} {many:Int} {Q:PyData→Zr→Prop} (hi:δ[i]? = some (some (dk x))) (ha:EvA as δ [.int many]) (h0:0 < many) (hb:Bt 400 many) (q:∀ r x',0 ≤ r→r < many→Q (.int r) (δ.set i (some (dk x')))):EvP (Yh i Zj as) δ Q :=
 Za8 hi (Zoc ha ⟨dk x,hi,(Zjs x h0 hb).mono fun d t' z=>by
  obtain ⟨r,x',rfl,r0,r1,rfl⟩:=z
  exact q r x' r0 r1⟩)
theorem Zhk {n:Nat} {t b:Int} (hb:0 < b) (hB:Bt n b) (hn:n ≤ 9000:=by decide):Told Zal [.int t,.int b] (frD (Rat.divInt t b)):=by
 obtain ⟨z',e⟩:=Zj9 (f1:=fun x y z=>[some (.fz (.int t)),some (.fz (.int b)),some (.fz (.int x)),some (.fz (.int y)),z]) (f2:=fun x y z=>[]) (t:=tV (Zq gNe (Zk 3) (fC (.int 0)))) (u:=Yj (wE (Zq Zjt (Zk 2) (Zk 3)) (Jb 4)) (Yj (wE (Zk 3) (Jb 2)) (wE (Zk 4) (Jb 3)))) (fun x y z=>Zea (Zjd Zc Yc rfl)) (fun x y z hy=>⟨_,Zf1 (Yp (Zk0 Zc Zc hy)) (Zf1 (Yp Zc) (Yp Zc))⟩) (b.toNat + 1) (t.natAbs:Int) b none (by omega) (by omega) (by omega)
 have eg:(Int.gcd (t.natAbs:Int) b:Int) = shr t b:=by
  unfold shr
  rw [if_neg (by omega),Int.gcd_eq_natAbs_gcd_natAbs,Int.gcd_eq_natAbs_gcd_natAbs,Int.natAbs_natCast]
 obtain ⟨e1,e2⟩:=Z14 (t:=t) (b:=b) (by omega) hB hn _ eg
 exact Jv rfl <| Jj (Yp (Jc (Zd Zc Zm) (Zfv t))) <| Jj (Yp Zc) <| Jj (Zls _ e (by intro z; cases z)) (Zbp (Zd2 (Zd (Zw Zc Zc e1) (Zd (Zw Zc Zc e2) Zm)) (show 2 ≤ 1000 by decide)))
theorem Zz4 {a b c lo hi:Int} (ha:lo ≤ a∧a ≤ hi) (hb:lo ≤ b∧b ≤ hi) (hc:lo ≤ c∧c ≤ hi) {r:Int} (h0:0 ≤ r) (h1:r < 3):∃ x,gIx (.list [.int a,.int b,.int c]) (.int r) = some (.fz (.int x))∧lo ≤ x∧x ≤ hi:=by
 obtain rfl | rfl | rfl:r = 0∨r = 1∨r = 2:=by omega
 ·exact ⟨a,rfl,ha⟩
 ·exact ⟨b,rfl,hb⟩
 ·exact ⟨c,rfl,hc⟩
theorem Zly {m n:Nat} {x:Int} (h0:0 ≤ x) (h1:x ≤ 2 ^ m) (h:m < n):Bt n x:=by
 have:(2:Int) ^ m < 2 ^ n:=by
  have:=Nat.pow_lt_pow_right (a:=2) (by decide) h
  exact_mod_cast this
 exact Bt.of_lt (Int.lt_of_lt_of_le (Int.neg_neg_of_pos (Int.pow_pos (by decide))) h0) (Int.lt_of_le_of_lt h1 this)
theorem gP9:Zg4 (.int 10) (.int 9) = some (.int 1000000000):=rfl
theorem Zr6 (x:Int):ToldI Zbh (dk x) [] fun d t'=>∃ b x',d = .int b∧1 ≤ b∧b ≤ 1000000000∧t' = dk x':=by
 refine Zda rfl (Jx (Zdg (Z4 Yc (Za8 rfl (W4 (Zia (Z4 (Zat (Zd Yc (Zd Yc (Zd (Zw Yc Yc gP9) Zm))) (show 3 ≤ 1000 by decide)) (W7 rfl (Zd Yc Zm) (by decide) (btc (by decide) (by decide)) fun r x1 r0 r1=>?_))))))))
 obtain ⟨m,em,m0,m1⟩:=Zz4 (a:=1) (b:=12) (c:=1000000000) (lo:=1) (hi:=1000000000) (by decide) (by decide) (by decide) r0 r1
 refine ⟨_,em,Zay ⟨dk x1,rfl,?_⟩⟩
 rw [OT.data_fz]
 refine (Zjs x1 (m:=m) (by omega) (Bt.mono (m:=40) (Bt.of_lt (by omega) (by omega)) (by decide))).mono fun d t' z=>?_
 obtain ⟨q,x',rfl,q0,q1,rfl⟩:=z
 exact ⟨_,rfl,_,rfl,_,_,rfl,by omega,by omega,rfl⟩
theorem Z89:Zg4 (.int 10) (.int 40) = some (.int 10000000000000000000000000000000000000000):=rfl
theorem Z63:Zg4 (.int 10) (.int 60) = some (.int 1000000000000000000000000000000000000000000000000000000000000):=rfl
theorem Z8w:Zg4 (.int 10) (.int 61) = some (.int 10000000000000000000000000000000000000000000000000000000000000):=rfl
theorem Z6b:Zg4 (.int 3) (.int 60) = some (.int 42391158275216203514294433201):=rfl
theorem Zjq (c:Int) {k:Int} (h0:0 ≤ k) (h1:k ≤ 3):∃ v,Told Wb [.int c,.int k] (.int v)∧Bt 210 v:=by
 have bk:Bt 3 (k + 1):=Bt.of_lt (by omega) (by omega)
 have bk0:Bt 3 k:=Bt.of_lt (by omega) (by omega)
 have bc:Bt 134 (c.fmod 10000000000000000000000000000000000000000):=Bt.of_lt (Int.lt_of_lt_of_le (by decide +kernel) (Zmc (by decide))) (Int.lt_trans (Zmx (by decide)) (by decide +kernel))
 have b3:Bt 96 42391158275216203514294433201:=btc (by decide +kernel) (by decide +kernel)
 have b4:Bt 16 48271:=btc (by decide +kernel) (by decide +kernel)
 have b5:Bt 17 69621:=btc (by decide +kernel) (by decide +kernel)
 have bn:=((bc.mul b4).add ((b3.mul bk).mul bk)).add bk0
 have key:∃ d,Told Wb [.int c,.int k] d∧∃ v,d = .int v∧Bt 210 v:=by
  refine Zy0 rfl (Zlj (Yp (Zaf (Zaf (Zw (Zk0 Zc (Zw Yc Yc Z89) (by decide)) Yc (Ze0 (Zdn bc b4))) (Zw (Zw (Zw Yc Yc Z6b) (Zaf Zc Yc) (Ze0 (Zdn b3 bk))) (Zaf Zc Yc) (Ze0 (Zdn (b3.mul bk) bk)))) Zc)) ?_)
  generalize c.fmod 10000000000000000000000000000000000000000 * 48271 + 42391158275216203514294433201 * (k + 1) * (k + 1) + k = N at bn ⊢
  refine Zlj (Yp (Zaf (Zw Zc Zc (Ze0 (Zdn bn bn))) (Zw Yc Zc (Ze0 (Zdn b5 bn))))) ?_
  have bN:=(bn.mul bn).add (b5.mul bn)
  generalize N * N + 69621 * N = M at bN ⊢
  refine Zqa (Zym (Zk0 (Zw Zc Zc (Ze0 (Zdn bN bN))) (Zaf (Zw Yc Yc Z8w) Yc) (by decide)) Yc) ⟨_,rfl,?_⟩
  have q0:=Zmc (i:=M * M) (j:=10000000000000000000000000000000000000000000000000000000000000 + 7) (by decide)
  have q1:=Zmx (i:=M * M) (j:=10000000000000000000000000000000000000000000000000000000000000 + 7) (by decide)
  rw [Zak (by decide)]
  exact Bt.of_le (x:=(M * M).fmod (10000000000000000000000000000000000000000000000000000000000000 + 7)) (Bt.of_lt (Int.lt_of_lt_of_le (by decide +kernel) q0) (Int.lt_trans q1 (by decide +kernel))) (Int.natAbs_ediv_le_natAbs _ _)
 obtain ⟨d,h,v,rfl,b⟩:=key
 exact ⟨v,h,b⟩
theorem Z7b {as:FA} {δ:Zr} {ts:List OT} (h:as δ = some (ts,δ)) (hl:ts.length ≤ 1000):Zd3 as δ = some (.nd ts,δ):=by
 rw [Zhu,h]
 exact if_pos (e:=none) (show ts.length ≤ sizeLine by rw [sizeLine_eq]; omega)
theorem Z1t {e:FE} {as:FA} {δ:Zr} {o:OT} {ts:List OT} (h:e δ = some (o,δ)) (k:as δ = some (ts,δ)):Ze e as δ = some (o :: ts,δ):=by
 rw [Zj3,h]
 show (as δ).bind _ = _
 rw [k]; rfl
theorem Zr7 {e:FE} {δ:Zr} {i:Int} (h:EvV e δ (.int i)):e δ = some (.fz (.int i),δ):=by
 obtain ⟨t,e1,e2⟩:=h
 rw [e1,Zje e2]
theorem Zmj {e:FE} {δ:Zr} {o:OT} (h:e δ = some (o,δ)):wE e Zar δ = .rt o δ:=by rw [Zel,h]; rfl
theorem Zwz (c:Int):∃ x,Zav [.int c] = .ok (dk x):=by
 have key:∃ x δ',Za2 [some (.fz (.int c))] = .rt (dk x) δ':=by
  by_cases h:1000000000000000000 ≤ c
  ·exact ⟨c - 1000000000000000000,_,Zlr (Zjv (Zea (Z2f Zc (Zw Yc Yc Z5m) (decide_eq_true h))) (Zmj (Z7b (Z1t (Zr7 (Ziw Zc (Zw Yc Yc Z5m))) rfl) (Nat.le_of_ble_eq_true rfl))))⟩
  ·obtain ⟨v1,e1,b1⟩:=Zjq c (k:=1) (by decide) (by decide)
   obtain ⟨v2,e2,b2⟩:=Zjq c (k:=2) (by decide) (by decide)
   obtain ⟨v3,e3,b3⟩:=Zjq c (k:=3) (by decide) (by decide)
   have bp:Bt 200 1000000000000000000000000000000000000000000000000000000000000:=btc (by decide +kernel) (by decide +kernel)
   have st:∀ {k v:Int},Told Wb [.int c,.int k] (.int v)→EvV (Wc Wb (Ze (Zk 0) (Ze (fC (.int k)) Zy))) [some (.fz (.int c))] (.int v):=fun e=>Yr (Zd Zc (Zd Yc Zm)) e
   exact ⟨_,_,Zf1 (J2 (Zea (Z2f Zc (Zw Yc Yc Z5m) (decide_eq_false h))) rfl) (Zmj (Z7b (Z1t (Zr7 (Zaf (Zw (Zaf (Zw (st e1) (Zw Yc Yc Z63) (Ze0 (Zdn b1 bp))) (st e2)) (Zw Yc Yc Z63) (Ze0 (Zdn ((b1.mul bp).add b2) bp))) (st e3))) rfl) (Nat.le_of_ble_eq_true rfl)))⟩
 obtain ⟨x,δ',e⟩:=key
 refine ⟨x,?_⟩
 unfold Zav
 rw [Zdo (np:=1) (by rfl)]
 show (Za2 [some (.fz (.int c))]).told = _
 rw [e]; rfl
noncomputable def Wl (n:Nat) (f:Nat→Nat→PyData):OT:=.nd ((List.range n).map fun i=>.nd ((List.range n).map fun j=>.fz (f i j)))
noncomputable def Zmt (n:Nat) (f:Nat→Nat→PyData):PyData:=.list ((List.range n).map fun i=>.list ((List.range n).map fun j=>f i j))
theorem Zcf (n:Nat) (f:Nat→Nat→PyData):(Wl n f).data = Zmt n f:=by
 unfold Wl Zmt
 rw [OT.data_nd,List.map_map]
 refine congrArg PyData.list (List.map_congr_left fun i _=>?_)
 show (OT.nd _).data = _
 rw [OT.data_nd,List.map_map]
 exact congrArg PyData.list (List.map_congr_left fun j _=>OT.data_fz _)
theorem Zua {n:Nat} {f g:Nat→Nat→PyData} (h:∀ i j,i < n→j < n→f i j = g i j):Wl n f = Wl n g:=by
 unfold Wl
 refine congrArg OT.nd (List.map_congr_left fun i hi=>congrArg OT.nd (List.map_congr_left fun j hj=>congrArg OT.fz (h i j (List.mem_range.mp hi) (List.mem_range.mp hj))))
noncomputable def upG (f:Nat→Nat→PyData) (a b:Nat) (d:PyData):Nat→Nat→PyData:=fun i j=>if i = a∧j = b then d else f i j
theorem Zhe {α:Type} {n a:Nat} (f:Nat→α) (x:α):((List.range n).map f).set a x = (List.range n).map fun i=>if i = a then x else f i:=by
 refine List.ext_getElem? fun i=>?_
 rw [List.getElem?_set,List.length_map,List.length_range,List.getElem?_map,List.getElem?_map]
 by_cases h:a = i
 ·subst h
  by_cases c:a < n
  ·rw [if_pos rfl,if_pos c,List.getElem?_range c]; simp
  ·rw [if_pos rfl,if_neg c,List.getElem?_eq_none (by simp; omega)]; rfl
 ·rw [if_neg h]
  by_cases c:i < n
  ·rw [List.getElem?_range c]; simp [Ne.symm h]
  ·rw [List.getElem?_eq_none (by simp; omega)]; rfl
theorem Zqf {i n:Nat} {e j j2:FE} {δ:Zr} {d:PyData} {f:Nat→Nat→PyData} {a b:Nat} (he:EvV e δ d) (hi:δ[i]? = some (some (Wl n f))) (hj:EvV j δ (.int a)) (ha:a < n) (hk:EvV j2 δ (.int b)) (hb:b < n) :
  Zb3 i e j j2 δ = .nx (δ.set i (some (Wl n (upG f a b d)))):=by
 obtain ⟨_,e2,d2⟩:=he
 obtain ⟨_,e3,d3⟩:=hj
 obtain ⟨_,e4,d4⟩:=hk
 unfold Zb3 Wl at *
 rw [Zel,e2,Jd,hi]
 dsimp only
 rw [Zel,e3,Jd,d3]
 dsimp only
 rw [Zqc (by rw [List.length_map,List.length_range]; exact ha)]
 dsimp only
 rw [List.getElem?_map,List.getElem?_range ha,Option.map_some]
 dsimp only
 rw [Zel,e4,Jd,d4]
 dsimp only
 rw [Zqc (by rw [List.length_map,List.length_range]; exact hb)]
 dsimp only
 rw [d2,Zhe,Zhe]
 refine congrArg RS.nx (congrArg (δ.set i) (congrArg some (congrArg OT.nd (List.map_congr_left fun k _=>?_))))
 by_cases c:k = a
 ·subst c
  rw [if_pos rfl]
  refine congrArg OT.nd (List.map_congr_left fun l _=>?_)
  unfold upG
  by_cases c2:l = b
  ·rw [if_pos c2,if_pos ⟨rfl,c2⟩]
  ·rw [if_neg c2,if_neg fun z=>c2 z.2]
 ·rw [if_neg c]
  refine congrArg OT.nd (List.map_congr_left fun l _=>?_)
  unfold upG
  rw [if_neg fun z=>c z.1]
noncomputable def inG (R:Nat→Nat→Int):Nat→Nat→PyData:=fun i j=>.int (R i j)
noncomputable def upR (R:Nat→Nat→Int) (a b:Nat) (v:Int):Nat→Nat→Int:=fun i j=>if i = a∧j = b then v else R i j
theorem Z2n (R:Nat→Nat→Int) (a b:Nat) (v:Int):upG (inG R) a b (.int v) = inG (upR R a b v):=by
 funext i j
 unfold upG inG upR
 by_cases c:i = a∧j = b
 ·rw [if_pos c,if_pos c]
 ·rw [if_neg c,if_neg c]
theorem Zmu {i n:Nat} {e j j2:FE} {δ:Zr} {v:Int} {R:Nat→Nat→Int} {a b:Nat} (he:EvV e δ (.int v)) (hi:δ[i]? = some (some (Wl n (inG R)))) (hj:EvV j δ (.int a)) (ha:a < n) (hk:EvV j2 δ (.int b)) (hb:b < n) :
  Zb3 i e j j2 δ = .nx (δ.set i (some (Wl n (inG (upR R a b v))))):=by
 rw [← Z2n]
 exact Zqf he hi hj ha hk hb
theorem Zfl {n a b i0 i9 i10:Nat} {f:Nat→Nat→PyData} {δ:Zr} (ha:a < n) (hb:b < n) (h6:δ[i0]? = some (some (Wl n f))) (h9:δ[i9]? = some (some (.fz (.int a)))) (h10:δ[i10]? = some (some (.fz (.int b)))):EvV (Wa gIx (Wa gIx (Zek i0) (Zk i9)) (Zk i10)) δ (f a b):=by
 refine Zam (Zam (Ze1 h6 (Zcf n f)) (Zc h9) (d:=.list ((List.range n).map fun j=>f a j)) ?_) (Zc h10) ?_
 ·unfold Zmt
  rw [Zlu,Zn3,List.getElem?_map,List.getElem?_range ha]; rfl
 ·rw [Zlu,Zn3,List.getElem?_map,List.getElem?_range hb]; rfl
theorem Zmf {n i0:Nat} {f:Nat→Nat→PyData} {δ:Zr} (h:δ[i0]? = some (some (Wl n f))):EvV (Zdq Zft (Ze (Zek i0) Zy)) δ (.int n):=by
 have:=Zwa (δ:=δ) (e:=Zek i0) (ds:=(List.range n).map fun i=>.list ((List.range n).map fun j=>f i j)) (Ze1 h (Zcf n f))
 rwa [List.length_map,List.length_range] at this
theorem Zlc {n:Nat} (hn:n ≤ 10):Wo [.int n] = .ok (Wl n (inG fun _ _=>0)):=by
 have e:(Jw 1 [0] (iRa (Ze (Zk 0) Zy)) (gNm 0) Zem (Jw 1 [] (iRa (Ze (Zk 1) Zy)) (gNm 0) Zem (fC (.int 0)))) [some (.fz (.int n))] = some (Wl n (inG fun _ _=>0),[some (.fz (.int n))]) :=
  Zfx (cs:=[some (.fz (.int n))]) (List.range n) (fun i:Nat=>PyData.int (0 + (i:Int))) (fun i=>.nd ((List.range n).map fun j=>.fz (inG (fun _ _=>0) i j))) (Zcs (Zd Zc Zm) (by omega)) (by rw [List.length_range,sizeLine_eq]; omega) rfl fun i _ =>
   Zfx (cs:=[]) (List.range n) (fun i:Nat=>PyData.int (0 + (i:Int))) (fun j=>.fz (inG (fun _ _=>0) i j)) (Zcs (Zd Zc Zm) (by omega)) (by rw [List.length_range,sizeLine_eq]; omega) rfl fun j _=>rfl
 unfold Wo
 rw [Zdo (np:=1) (by rfl)]
 show (J7 [some (.fz (.int n))]).told = _
 unfold J7
 rw [Zmj e]; rfl
noncomputable def ph (R:Nat→Nat→Int) (k:Nat):Nat→Nat→Int:=fun i j=>min (R i j) (R i k + R k j)
noncomputable def fw (R:Nat→Nat→Int):Nat→Nat→Nat→Int
 | 0=>R
 | k + 1=>ph (fw R k) k
structure Nn (R:Nat→Nat→Int):Prop where
 z:∀ i,R i i = 0
 nn:∀ i j,0 ≤ R i j
theorem Nn.ph {R:Nat→Nat→Int} (h:Nn R) (k:Nat):Nn (ph R k) where
 z:=fun i=>by
  unfold My.ph
  have:=h.nn i k
  have:=h.nn k i
  rw [h.z]; omega
 nn:=fun i j=>by
  unfold My.ph
  have:=h.nn i j
  have:=h.nn i k
  have:=h.nn k j
  omega
theorem Nn.fw {R:Nat→Nat→Int} (h:Nn R) (k:Nat):Nn (fw R k):=by
 induction k with
 | zero=>exact h
 | succ k ih=>exact ih.ph k
noncomputable def mix (R:Nat→Nat→Int) (k a b:Nat):Nat→Nat→Int:=fun i j=>if i < a∨(i = a∧j < b) then ph R k i j else R i j
theorem Z3e {R:Nat→Nat→Int} (h:Nn R) (k a b i:Nat):mix R k a b i k = R i k:=by
 unfold mix
 split
 ·unfold ph; rw [h.z]; have:=h.nn i k; omega
 ·rfl
theorem Z35 {R:Nat→Nat→Int} (h:Nn R) (k a b j:Nat):mix R k a b k j = R k j:=by
 unfold mix
 split
 ·unfold ph; rw [h.z]; have:=h.nn k j; omega
 ·rfl
theorem Zwm (a b:Int):Z3c [.int a,.int b] = some (.int (min a b)):=by
 show some (PyData.int (if b < a then b else a)) = _
 refine congrArg (fun z=>some (PyData.int z)) ?_
 split <;> omega
theorem Zih {n:Nat} {R S:Nat→Nat→Int} (h:∀ i j,i < n→j < n→R i j = S i j):Wl n (inG R) = Wl n (inG S):=Zua fun i j hi hj=>congrArg PyData.int (h i j hi hj)
theorem Zm0 {n:Nat} (hn:n ≤ 10) {R:Nat→Nat→Int} (h:Nn R):ToldI Zaj (Wl n (inG R)) [] fun _ t'=>t' = Wl n (inG (fw R n)):=by
 refine Zda rfl (Zv (Y8 (Yp (Zmf rfl)) ?_))
 refine Wj (ds:=Zc4 0 n) (fun k δ=>∃ z2 z3 z4,δ = [some (Wl n (inG (fw R k))),some (.fz (.int n)),z2,z3,z4]) (Zcs (Zd Zc Zm) (by omega)) ⟨none,none,none,rfl⟩ (fun k d δ hd q=>?_) fun δ' q=>?_
 ·obtain ⟨z2,z3,z4,rfl⟩:=q
  obtain ⟨hk,rfl⟩:=Wh hd
  rw [Int.zero_add]
  have hN:=h.fw k
  refine ⟨_,rfl,Wj (ds:=Zc4 0 n) (fun a δ=>∃ z3 z4,δ = [some (Wl n (inG (mix (fw R k) k a 0))),some (.fz (.int n)),some (.fz (.int k)),z3,z4]) (Zcs (Zd Zc Zm) (by omega)) ⟨z3,z4,?_⟩ (fun a d δ hd q=>?_) fun δ' q=>?_⟩
  ·rw [Zih (R:=mix (fw R k) k 0 0) (S:=fw R k) fun i j _ _=>if_neg (by omega)]; rfl
  ·obtain ⟨z3,z4,rfl⟩:=q
   obtain ⟨ha,rfl⟩:=Wh hd
   rw [Int.zero_add]
   refine ⟨_,rfl,Wj (ds:=Zc4 0 n) (fun b δ=>∃ z4,δ = [some (Wl n (inG (mix (fw R k) k a b))),some (.fz (.int n)),some (.fz (.int k)),some (.fz (.int a)),z4]) (Zcs (Zd Zc Zm) (by omega)) ⟨z4,rfl⟩ (fun b d δ hd q=>?_) fun δ' q=>?_⟩
   ·obtain ⟨z4,rfl⟩:=q
    obtain ⟨hb,rfl⟩:=Wh hd
    rw [Int.zero_add]
    have v:min (mix (fw R k) k a b a b) (mix (fw R k) k a b a k + mix (fw R k) k a b k b) = ph (fw R k) k a b:=by
     rw [Z3e hN,Z35 hN,show mix (fw R k) k a b a b = fw R k a b from if_neg (by omega)]; rfl
    refine ⟨_,rfl,Y8 (Zmu (n:=n) (a:=a) (b:=b) (v:=ph (fw R k) k a b) (EvV.cast (Jc (Zd (Zfl (f:=inG (mix (fw R k) k a b)) (i0:=0) (i9:=3) (i10:=4) ha hb rfl rfl rfl) (Zd (Zaf (Zfl (f:=inG (mix (fw R k) k a b)) (i0:=0) (i9:=3) (i10:=2) ha hk rfl rfl rfl) (Zfl (f:=inG (mix (fw R k) k a b)) (i0:=0) (i9:=2) (i10:=4) hk hb rfl rfl rfl)) Zm)) (Zwm _ _)) (congrArg PyData.int v)) rfl Zc ha Zc hb) ⟨some (.fz (.int b)),?_⟩⟩
    rw [Zih (R:=upR (mix (fw R k) k a b) a b (ph (fw R k) k a b)) (S:=mix (fw R k) k a (b + 1)) fun i j _ _=>?_]
    ·rfl
    ·unfold upR mix
     by_cases c:i = a∧j = b
     ·rw [if_pos c,if_pos (by omega),c.1,c.2]
     ·rw [if_neg c]
      by_cases c2:i < a∨(i = a∧j < b)
      ·rw [if_pos c2,if_pos (by omega)]
      ·rw [if_neg c2,if_neg (by omega)]
   ·obtain ⟨z4,rfl⟩:=q
    refine ⟨some (.fz (.int a)),z4,?_⟩
    rw [Yb,Zih (R:=mix (fw R k) k a n) (S:=mix (fw R k) k (a + 1) 0) fun i j _ hj=>?_]
    ·unfold mix
     by_cases c:i < a∨(i = a∧j < n)
     ·rw [if_pos c,if_pos (by omega)]
     ·rw [if_neg c,if_neg (by omega)]
  ·obtain ⟨z3,z4,rfl⟩:=q
   refine ⟨some (.fz (.int k)),z3,z4,?_⟩
   rw [Yb,Zih (R:=mix (fw R k) k n 0) (S:=fw R (k + 1)) fun i j hi _=>if_pos (.inl hi)]
 ·obtain ⟨z2,z3,z4,rfl⟩:=q
  rw [Yb]
  exact ⟨_,rfl,rfl⟩
noncomputable def bb (bits:Int) (i:Nat):Int:=Builtin.bitAnd (bits / 2 ^ i) 1
noncomputable def adC (R:Nat→Nat→Int) (bits w:Int):Nat→Nat→Int:=fun i j=>if bb bits i = bb bits j then R i j else R i j + w
noncomputable def mxC (R:Nat→Nat→Int) (bits w:Int) (a b:Nat):Nat→Nat→Int:=fun i j=>if i < a∨(i = a∧j < b) then adC R bits w i j else R i j
theorem Zvv {δ:Zr} {k i:Nat} {bits:Int} (h1:δ[1]? = some (some (.fz (.int bits)))) (hk:δ[k]? = some (some (.fz (.int i)))):EvV (Zq Z4i (Zq Z04 (Zk 1) (Zk k)) (fC (.int 1))) δ (.int (bb bits i)):=by
 have e:Z04 (.int bits) (.int i) = some (.int (bits / 2 ^ i)):=by
  show (if decide ((0:Int) ≤ i) = true then some (PyData.int (bits / 2 ^ ((i:Int).toNat))) else none) = _
  rw [if_pos (decide_eq_true (by omega)),Int.toNat_natCast]
 exact Zw (Zw (Zc h1) (Zc hk) e) Yc rfl
theorem Zp1 {n:Nat} (hn:n ≤ 10) (R:Nat→Nat→Int) (bits w:Int):ToldI Jz (Wl n (inG R)) [.int bits,.int w] fun _ t'=>t' = Wl n (inG (adC R bits w)):=by
 refine Zda rfl (Wj (ds:=Zc4 0 n) (fun a δ=>∃ z3 z4,δ = [some (Wl n (inG (mxC R bits w a 0))),some (.fz (.int bits)),some (.fz (.int w)),z3,z4]) (Zcs (Zd (Zmf rfl) Zm) (by omega)) ⟨none,none,?_⟩ (fun a d δ hd q=>?_) fun δ' q=>?_)
 ·rw [Zih (R:=mxC R bits w 0 0) (S:=R) fun i j _ _=>if_neg (by omega)]; rfl
 ·obtain ⟨z3,z4,rfl⟩:=q
  obtain ⟨ha,rfl⟩:=Wh hd
  rw [Int.zero_add]
  refine ⟨_,rfl,Wj (ds:=Zc4 0 n) (fun b δ=>∃ z4,δ = [some (Wl n (inG (mxC R bits w a b))),some (.fz (.int bits)),some (.fz (.int w)),some (.fz (.int a)),z4]) (Zcs (Zd (Zmf rfl) Zm) (by omega)) ⟨z4,rfl⟩ (fun b d δ hd q=>?_) fun δ' q=>?_⟩
  ·obtain ⟨z4,rfl⟩:=q
   obtain ⟨hb,rfl⟩:=Wh hd
   rw [Int.zero_add]
   have v:mxC R bits w a b a b = R a b:=if_neg (by omega)
   have up:∀ x:Int,x = adC R bits w a b→Wl n (inG (upR (mxC R bits w a b) a b x)) = Wl n (inG (mxC R bits w a (b + 1))):=fun x hx=>Zih fun i j _ _=>by
    unfold upR mxC
    by_cases c:i = a∧j = b
    ·rw [if_pos c,if_pos (by omega),hx,c.1,c.2]
    ·rw [if_neg c]
     by_cases c2:i < a∨(i = a∧j < b)
     ·rw [if_pos c2,if_pos (by omega)]
     ·rw [if_neg c2,if_neg (by omega)]
   refine ⟨_,rfl,Zc8 (Wu (Zea (Zjd (Zvv rfl rfl) (Zvv rfl rfl) rfl)) ⟨fun c=>?_,fun c=>?_⟩)⟩
   ·have c':bb bits a ≠ bb bits b:=by simpa using c
    refine Y8 (Zmu (n:=n) (a:=a) (b:=b) (v:=R a b + w) (Zaf (EvV.cast (Zfl (f:=inG (mxC R bits w a b)) (i0:=0) (i9:=3) (i10:=4) ha hb rfl rfl rfl) (congrArg PyData.int v)) Zc) rfl Zc ha Zc hb) ⟨some (.fz (.int b)),?_⟩
    rw [up _ (show R a b + w = adC R bits w a b from (if_neg c').symm)]; rfl
   ·have c':bb bits a = bb bits b:=by simpa using c
    refine Zcm ⟨some (.fz (.int b)),?_⟩
    rw [Zih (R:=mxC R bits w a (b + 1)) (S:=mxC R bits w a b) fun i j _ _=>?_]
    ·rfl
    ·unfold mxC
     by_cases c:i = a∧j = b
     ·rw [if_pos (by omega),if_neg (by omega),c.1,c.2]
      exact if_pos c'
     ·by_cases c2:i < a∨(i = a∧j < b)
      ·rw [if_pos c2,if_pos (by omega)]
      ·rw [if_neg c2,if_neg (by omega)]
  ·obtain ⟨z4,rfl⟩:=q
   refine ⟨some (.fz (.int a)),z4,?_⟩
   rw [Yb,Zih (R:=mxC R bits w a n) (S:=mxC R bits w (a + 1) 0) fun i j _ hj=>?_]
   ·unfold mxC
    by_cases c:i < a∨(i = a∧j < n)
    ·rw [if_pos c,if_pos (by omega)]
    ·rw [if_neg c,if_neg (by omega)]
 ·obtain ⟨z3,z4,rfl⟩:=q
  rw [Yb,Zih (R:=mxC R bits w n 0) (S:=adC R bits w) fun i j hi _=>if_pos (.inl hi)]
  exact ⟨_,rfl,rfl⟩
theorem Nn.add {R:Nat→Nat→Int} (h:Nn R) {bits w:Int} (hw:0 ≤ w):Nn (adC R bits w) where
 z:=fun i=>by unfold adC; rw [if_pos rfl]; exact h.z i
 nn:=fun i j=>by
  unfold adC
  have:=h.nn i j
  split <;> omega
theorem Zye {F:FD} {as:FA} {δ:Zr} {ds:List PyData} {o:OT} (h:EvA as δ ds) (k:F ds = .ok o):Wc F as δ = some (o,δ):=by
 obtain ⟨ts,e1,e2⟩:=h
 rw [Zkg,e1]
 show okO (F (OT.datas ts)) δ = _
 rw [e2,k]; rfl
section
variable {δ:Zr} {e j j2:FE} {i:Nat} {N:Zr→Prop} {R:PyData→Zr→Prop}
theorem Zoj (h:EvP e δ fun _ δ'=>N δ'):EpS (wE e Ztc) δ N R:=by
 obtain ⟨o,δ',e1,q⟩:=h
 exact .inl ⟨δ',by rw [Zel,e1]; rfl,q⟩
theorem Z28 {o:OT} (h:δ[i]? = some (some o)) (q:R o.data (δ.set i none)):EpS (Zfw i) δ N R:=.inr ⟨o,_,by rw [Znl,h,Zyk],q⟩
theorem Zd8 (h:EvP e δ fun d δ'=>∃ v S n a b,d = .int v∧δ'[i]? = some (some (Wl n (inG S)))∧EvV j δ' (.int (a:Nat))∧a < n∧EvV j2 δ' (.int (b:Nat))∧b < n∧N (δ'.set i (some (Wl n (inG (upR S a b v)))))):EpS (Zb3 i e j j2) δ N R:=by
 obtain ⟨o,δ',e1,v,S,n,a,b,hd,hi,hj,ha,hk,hb,q⟩:=h
 have e2:Zb3 i e j j2 δ = Zb3 i (fC (.int v)) j j2 δ':=by
  unfold Zb3
  rw [Zel,Zel,e1,Jd,Zje hd,Z6j,Jd]
 exact .inl ⟨_,by rw [e2]; exact Zmu Yc hi hj ha hk hb,q⟩
end
theorem Zud {α:Type} {δ:Zr} {it:FI} {g:FG} {me:FE} (xs:List α) (mk f:α→PyData) (hi:EvI it δ (xs.map mk)) (hz:xs.length ≤ 1000000) (h:∀ x ∈ xs,∀ z0 z1,∃ w0 w1,g (mk x) [z0,z1] = some [w0,w1]∧EvV me [w0,w1] (f x)):EvV (Jw 2 [] it g Zem me) δ (.list (xs.map f)):=by
 obtain ⟨ts,δ',e1,z0,z1,rfl,e2⟩:=Z1k (t:=Zem) (e:=me) (g:=g) (δ:=[none,none])
  (fun k acc δ=>∃ z0 z1,δ = [z0,z1]∧acc = (xs.take k).map f) (xs.map mk) 0 [] ⟨none,none,rfl,rfl⟩ (fun k d acc δ hd q=>by
   obtain ⟨z0,z1,rfl,rfl⟩:=q
   rw [Nat.zero_add] at *
   rw [List.getElem?_map] at hd
   cases e:xs[k]? with
   | none=>rw [e] at hd; cases hd
   | some p =>
    rw [e] at hd
    cases hd
    have et:xs.take (k + 1) = xs.take k ++ [p]:=by rw [List.take_succ,e]; rfl
    obtain ⟨w0,w1,e1,e2⟩:=h p (List.mem_of_getElem? e) z0 z1
    refine ⟨_,e1,Wu rfl ⟨fun _=>Z4 e2 ⟨_,_,rfl,?_⟩,fun z=>nomatch z⟩⟩
    rw [et,List.map_append]; rfl)
 rw [Nat.zero_add,List.length_map,List.take_length,List.nil_append] at e2
 refine ⟨.nd ts,?_,by rw [OT.data_nd,e2]⟩
 unfold EvI at hi
 unfold Jw
 rw [hi]
 show (if (xs.map mk).length ≤ sizeLine then _ else none) = _
 rw [if_pos (by rw [List.length_map,sizeLine_eq]; omega)]
 show (compLoop _ _ _ _ [none,none]).bind _ = _
 rw [e1]; rfl
theorem Zus {α:Type} (xs:List α) (f g:α→PyData):Zp6 (xs.map f) (xs.map g) = xs.map fun x=>.tuple [f x,g x]:=by
 unfold Zp6
 rw [List.zip_map',List.map_map]; rfl
theorem Z5e {a b lo hi:Int} (ha:lo ≤ a∧a ≤ hi) (hb:lo ≤ b∧b ≤ hi) (c:Bool):∃ x,gIx (.list [.int a,.int b]) (.int (if c = true then 1 else 0)) = some (.fz (.int x))∧lo ≤ x∧x ≤ hi:=by
 cases c with
 | true=>exact ⟨b,rfl,hb⟩
 | false=>exact ⟨a,rfl,ha⟩
theorem Zub (R:Nat→Nat→Int) (a b:Nat) (v w:Int):upR (upR R a b v) a b w = upR R a b w:=by
 funext i j
 unfold upR
 split <;> rfl
theorem Nn.put {R:Nat→Nat→Int} (h:Nn R) {a b:Nat} {v:Int} (hab:a ≠ b) (hv:0 ≤ v):Nn (upR (upR R a b v) b a v) where
 z:=fun i=>by
  unfold upR
  rw [if_neg (by omega),if_neg (by omega)]; exact h.z i
 nn:=fun i j=>by
  unfold upR
  have:=h.nn i j
  split
  ·exact hv
  ·split <;> omega
theorem Zix {R:Nat→Nat→Int} {M v:Int} (h:∀ i j,R i j ≤ M) (hv:v ≤ M) (a b:Nat):∀ i j,upR R a b v i j ≤ M:=fun i j=>by
 unfold upR
 split
 ·exact hv
 ·exact h i j
theorem Z52 {R:Nat→Nat→Int} {M:Int} (h:∀ i j,R i j ≤ M) (k:Nat):∀ i j,fw R k i j ≤ M:=by
 induction k with
 | zero=>exact h
 | succ k ih=>exact fun i j=>Int.le_trans (Int.min_le_left ..) (ih i j)
theorem Z0i {R:Nat→Nat→Int} {M w:Int} {k:Nat} (h:∀ i j,R i j ≤ k * M) (hw0:0 ≤ w) (hw:w ≤ M) (bits:Int):∀ i j,adC R bits w i j ≤ (k + 1:Nat) * M:=fun i j=>by
 have:=h i j
 rw [Int.natCast_add,Int.add_mul,Int.natCast_one,Int.one_mul]
 unfold adC
 split <;> omega
noncomputable def lE (x:Int) (n:Nat) (o:OT) (kd:Int) (z4 z5 z6 z7 z8 z9:Option OT):Zr:=[some (dk x),some (.fz (.int n)),some o,some (.fz (.int kd)),z4,z5,z6,z7,z8,z9]
theorem Nn.nought:Nn fun _ _=>0:=⟨fun _=>rfl,fun _ _=>Int.le_refl _⟩
theorem Z2x {a b lo hi:Int} (ha:lo ≤ a∧a ≤ hi) (hb:lo ≤ b∧b ≤ hi) {r:Int} (h0:0 ≤ r) (h1:r < 2):∃ x,gIx (.list [.int a,.int b]) (.int r) = some (.fz (.int x))∧lo ≤ x∧x ≤ hi:=by
 obtain rfl | rfl:r = 0∨r = 1:=by omega
 ·exact ⟨a,rfl,ha⟩
 ·exact ⟨b,rfl,hb⟩
theorem Z3v {n:Nat} (h:n ≤ 10):∃ m,Z4n (.int 1) (.int n) = some (.int m)∧0 < m∧m ≤ 1024:=by
 have f:∀ k:Fin 11,k.val = 0∨k.val = 1∨k.val = 2∨k.val = 3∨k.val = 4∨k.val = 5∨k.val = 6∨k.val = 7∨k.val = 8∨k.val = 9∨k.val = 10:=by decide +kernel
 have f:n = 0∨n = 1∨n = 2∨n = 3∨n = 4∨n = 5∨n = 6∨n = 7∨n = 8∨n = 9∨n = 10:=f ⟨n,Nat.lt_succ_of_le h⟩
 obtain rfl | rfl | rfl | rfl | rfl | rfl | rfl | rfl | rfl | rfl | rfl:=f
 all_goals exact ⟨_,rfl,by decide,by decide⟩
theorem Z41:Zg4 (.int 10) (.int 20) = some (.int 100000000000000000000):=rfl
theorem Z46 {n:Nat} (hn:n ≤ 10) {M:Int} (hM:M = 1000000000000000000000000000000000000001) (x kd:Int) (z6 z7 z8 z9:Option OT) {RR:PyData→Zr→Prop} :
  EpS (Zc3 (tV (Zq gNe (Zk 3) (fC (.int 1))))
  (Zaz (iRa (Ze (Yh 0 Zj (Ze (fC (.int 7)) Zy)) Zy)) (gNm 4)
  (Yj (wE (Yh 0 Zj (Ze (Zq Z4n (fC (.int 1)) (Zk 1)) Zy)) (Jb 5))
  (wE (Yh 2 Jz (Ze (Zk 5) (Ze (Zq Zc6 (fC (.int 1)) (Yh 0 Zj (Ze (Wa gIx (Zd3 (Ze (fC (.int 3)) (Ze (Zq Zg4 (fC (.int 10)) (fC (.int 20))) Zy))) (Yh 0 Zj (Ze (fC (.int 2)) Zy))) Zy))) Zy))) Ztc)))
  fNx) (lE x n (Wl n (inG fun _ _=>0)) kd none none z6 z7 z8 z9) (fun δ=>∃ x R z4 z5,δ = lE x n (Wl n (inG R)) kd z4 z5 z6 z7 z8 z9∧Nn R∧∀ i j,R i j ≤ (7:Nat) * M) RR:=by
 have M0:0 ≤ M:=by rw [hM]; decide +kernel
 refine Zc8 (Wu (Zea (Zjd Zc Yc rfl)) ⟨fun _=>?_,fun _=>Zcm ⟨_,_,_,_,rfl,Nn.nought,fun _ _=>Int.mul_nonneg (by decide) M0⟩⟩)
 refine Zuq (Z1x (W4 (W7 rfl (Zd Yc Zm) (by decide) (btc (by decide +kernel) (by decide +kernel)) fun r x1 r0 r1=>Zay ⟨r.toNat,?_,by omega,?_⟩)))
 ·rw [Int.toNat_of_nonneg r0]
 refine ⟨fun k δ=>∃ x R z4 z5,δ = lE x n (Wl n (inG R)) kd z4 z5 z6 z7 z8 z9∧Nn R∧∀ i j,R i j ≤ (k:Nat) * M,⟨_,_,_,_,rfl,Nn.nought,fun _ _=>Int.mul_nonneg (by decide) M0⟩,fun k d δ hd q=>?_,fun δ' q=>?_⟩
 ·obtain ⟨x,R,z4,z5,rfl,hR,bR⟩:=q
  obtain ⟨m,em,m0,m1⟩:=Z3v hn
  refine ⟨_,rfl,Zv (Zbn (W7 rfl (Zd (Zw Yc Zc em) Zm) m0 (Bt.mono (m:=11) (Bt.of_lt (by omega) (by omega)) (by decide)) fun b x2 b0 b1=>Zoj (Za8 rfl (W4 (Z4 Zc (W4 (Zdg (Z4 Yc (Za8 rfl (W4 (Zia (Z4 (Zat (Zd Yc (Zd (Zw Yc Yc Z41) Zm)) (show 2 ≤ 1000 by decide)) (W7 rfl (Zd Yc Zm) (by decide) (btc (by decide +kernel) (by decide +kernel)) fun r x3 r0 r1=>?_)))))))))))))⟩
  obtain ⟨y,ey,y0,y1⟩:=Z2x (a:=3) (b:=100000000000000000000) (lo:=1) (hi:=1000000000000000000000000000000000000000) (by decide +kernel) (by decide +kernel) r0 r1
  refine ⟨_,ey,Zay ⟨dk x3,rfl,?_⟩⟩
  rw [OT.data_fz]
  refine (Zjs x3 (m:=y) (Int.lt_of_lt_of_le (by decide) y0) (Zly (m:=130) (Int.le_trans (by decide) y0) (Int.le_trans y1 (by decide +kernel)) (by decide))).mono fun d t' z=>?_
  obtain ⟨q,x',rfl,q0,q1,rfl⟩:=z
  refine ⟨_,rfl,Zay ⟨Wl n (inG R),rfl,(Zp1 (n:=n) (by omega) R b (1 + q)).mono fun _ t' z=>?_⟩⟩
  subst z
  have w0:0 ≤ 1 + q:=by clear y1; omega
  have w1:1 + q ≤ M:=by
   rw [hM]
   generalize 1000000000000000000000000000000000000000 = W at *
   exact Int.le_trans (show 1 + q ≤ y + 1 by omega) (Int.le_trans (Int.add_le_add_right y1 1) (Int.le_of_eq (by decide +kernel)))
  exact ⟨_,_,_,_,rfl,hR.add w0,Z0i bR w0 w1 b⟩
 ·obtain ⟨x,R,z4,z5,rfl,hR,bR⟩:=q
  refine ⟨_,_,_,_,rfl,hR,fun i j=>Int.le_trans (bR i j) (Int.mul_le_mul_of_nonneg_right ?_ M0)⟩
  rw [Yb]; omega
noncomputable def Zhh (n:Nat) (f:Nat→Int):PyData:=.list ((List.range n).map fun j=>.int (f j))
noncomputable def Yv (n:Nat) (r:Nat→Nat→Int):PyData:=.list ((List.range n).map fun i=>Zhh n (r i))
theorem Zfy {α:Type} {n i:Nat} (f:Nat→α) (h:i < n):atI ((List.range n).map f) (i:Int) = some (f i):=by
 rw [Zn3,List.getElem?_map,List.getElem?_range h]; rfl
theorem Zex {n j:Nat} {f:Nat→Int} (h:j < n):gIx (Zhh n f) (.int (j:Int)) = some (.fz (.int (f j))):=by
 unfold Zhh; rw [Zlu,Zfy _ h]; rfl
theorem Zg9 {n i:Nat} {r:Nat→Nat→Int} (h:i < n):gIx (Yv n r) (.int (i:Int)) = some (.fz (Zhh n (r i))):=by
 unfold Yv; rw [Zlu,Zfy _ h]; rfl
theorem Zhp {n:Nat} {r:Nat→Nat→Int} (h:0 < n):gIx (Yv n r) (.int 0) = some (.fz (Zhh n (r 0))):=Zg9 (i:=0) h
theorem Zdz (n:Nat) (r:Nat→Nat→Int):Zft [Yv n r] = some (.int n):=by
 unfold Yv; rw [Znm,List.length_map,List.length_range]
theorem Nn.sum {R S:Nat→Nat→Int} (h:Nn R) (k:Nn S):Nn fun i j=>R i j + S i j where
 z:=fun i=>by show R i i + S i i = 0; rw [h.z,k.z]; rfl
 nn:=fun i j=>Int.add_nonneg (h.nn i j) (k.nn i j)
theorem long2 {n:Nat} (hn:n ≤ 10) {P:Int} (hP:P = 100000000000000000000) (x:Int) (o:OT) (kd:Int) (z4 z5 z6 z7 z8 z9:Option OT) {RR:PyData→Zr→Prop} {N:Zr→Prop} {S':FS} (next:∀ x S z7 z8 z9,Nn S→(∀ i j,S i j ≤ P)→EpS S' (lE x n o kd z4 z5 (some (Wl n (inG S))) z7 z8 z9) N RR) :
  EpS (Yj (wE (Wc Wo (Ze (Zk 1) Zy)) (Zdr 6))
  (Yj (wE (Wa gIx (Zd3 (Ze (fC (.int 3)) (Ze (fC (.int 7)) (Ze (Zq Zg4 (fC (.int 10)) (fC (.int 20))) Zy)))) (Yh 0 Zj (Ze (fC (.int 3)) Zy))) (Jb 7))
  (Yj (Zaz (iRa (Ze (Zk 1) Zy)) (gNm 8)
  (Zaz (iRa (Ze (Zk 8) Zy)) (gNm 9)
  (Yj (Zb3 6 (Wa gIx (Zd3 (Ze (Zq Zc6 (fC (.int 1)) (Yh 0 Zj (Ze (Zk 7) Zy))) (Ze (Zk 7) Zy))) (Zdq Z0f (Ze (Zq gEq (Zk 3) (fC (.int 3))) Zy))) (Zk 8) (Zk 9))
  (Yj (Zc3 (tAn (tV (Zq gEq (Zk 3) (fC (.int 3)))) (tV (Zq gEq (Yh 0 Zj (Ze (fC (.int 2)) Zy)) (fC (.int 0)))))
  (Zb3 6 (fC (.int 1)) (Zk 8) (Zk 9))
  fNx)
  (Zb3 6 (Zht (Wa gIx (Wa gIx (Zek 6) (Zk 8)) (Zk 9))) (Zk 9) (Zk 8)))))) S'))) (lE x n o kd z4 z5 z6 z7 z8 z9) N RR:=by
 have P1:1 ≤ P:=by rw [hP]; decide +kernel
 refine Zv (Zg5 (Zye (Zd Zc Zm) (Zlc (n:=n) (by omega))) (Zv (Zbn (Zia (Z4 (Zat (Zd Yc (Zd Yc (Zd (Zw Yc Yc Z41) Zm))) (show 3 ≤ 1000 by decide)) (W7 rfl (Zd Yc Zm) (by decide) (btc (by decide +kernel) (by decide +kernel)) fun r x1 r0 r1=>?_))))))
 obtain ⟨m,em,m0,m1⟩:=Zz4 (a:=3) (b:=7) (c:=100000000000000000000) (lo:=1) (hi:=P) (by rw [hP]; decide +kernel) (by rw [hP]; decide +kernel) (by rw [hP]; decide +kernel) r0 r1
 refine ⟨_,em,?_⟩
 rw [OT.data_fz]
 have bm:Bt 400 m:=Zly (m:=70) (Int.le_trans (by decide) m0) (Int.le_trans m1 (by rw [hP]; decide +kernel)) (by decide)
 clear em hP
 refine Zv (Wj (ds:=Zc4 0 n) (fun _ δ=>∃ x S z8 z9,δ = lE x n o kd z4 z5 (some (Wl n (inG S))) (some (.fz (.int m))) z8 z9∧Nn S∧∀ i j,S i j ≤ P) (Zcs (Zd Zc Zm) (by omega)) ⟨_,_,_,_,rfl,Nn.nought,fun _ _=>by omega⟩ (fun a d δ hd q=>?_) fun δ' q=>?_)
 ·obtain ⟨x,S,z8,z9,rfl,hS,bS⟩:=q
  obtain ⟨ha,rfl⟩:=Wh hd
  rw [Int.zero_add]
  refine ⟨_,rfl,Wj (ds:=Zc4 0 a) (fun _ δ=>∃ x S z9,δ = lE x n o kd z4 z5 (some (Wl n (inG S))) (some (.fz (.int m))) (some (.fz (.int a))) z9∧Nn S∧∀ i j,S i j ≤ P) (Zcs (Zd Zc Zm) (by omega)) ⟨_,_,_,rfl,hS,bS⟩ (fun b d δ hd q=>?_) fun δ' q=>?_⟩
  ·obtain ⟨x,S,z9,rfl,hS,bS⟩:=q
   obtain ⟨hb,rfl⟩:=Wh hd
   rw [Int.zero_add]
   refine ⟨_,rfl,Zv (Zd8 (Zia (Zwl (W4 (Zdg (Z4 Yc (W7 rfl (Zd Zc Zm) (by omega) bm fun r x2 r0 r1=>⟨_,Zl3 _ _,W4 (Z4 Zc (Zay ⟨show 2 ≤ 1000 by decide,Z4 (Jc (Zd (Zky Zc Yc rfl) Zm) (Zwq _)) ?_⟩))⟩)))))))⟩
   obtain ⟨v,ev,v0,v1⟩:=Z5e (a:=1 + r) (b:=m) (lo:=1) (hi:=P) (by omega) (by omega) (decide (kd = 3))
   refine ⟨_,ev,v,S,n,a,b,OT.data_fz _,rfl,Zc,ha,Zc,by omega,?_⟩
   refine Zv (EpS.mono (N:=fun δ=>∃ x v,δ = lE x n o kd z4 z5 (some (Wl n (inG (upR S a b v)))) (some (.fz (.int m))) (some (.fz (.int a))) (some (.fz (.int b)))∧1 ≤ v∧v ≤ P) (R:=fun _ _=>False) ?_ (fun δ q=>?_) fun _ _ z=>z.elim)
   ·refine Zc8 (Zwr (Wu (Zea (Zky Zc Yc rfl)) ⟨fun c=>?_,fun c=>⟨(fun z=>nomatch z),fun _=>Zcm ⟨_,v,rfl,v0,v1⟩⟩⟩))
    refine Z6w (Zdg (W7 rfl (Zd Yc Zm) (by decide) (btc (by decide +kernel) (by decide +kernel)) fun r x3 r0 r1=>Z4 Yc ⟨_,Z2t _ _,_,rfl,fun _=>?_,fun _=>Zcm ⟨_,v,rfl,v0,v1⟩⟩))
    refine Zd8 (Z4 Yc ⟨1,upR S a b v,n,a,b,rfl,rfl,Zc,ha,Zc,by omega,x3,1,?_,Int.le_refl _,P1⟩)
    rw [Zub]; rfl
   obtain ⟨x3,v,rfl,v0,v1⟩:=q
   have val:EvV (Wa gIx (Wa gIx (Zek 6) (Zk 8)) (Zk 9)) (lE x3 n o kd z4 z5 (some (Wl n (inG (upR S a b v)))) (some (.fz (.int m))) (some (.fz (.int a))) (some (.fz (.int b)))) (.int v):=(Zfl (f:=inG (upR S a b v)) (n:=n) (a:=a) (b:=b) (i0:=6) (i9:=8) (i10:=9) ha (by omega) rfl rfl rfl).cast (congrArg PyData.int (if_pos ⟨rfl,rfl⟩))
   refine Zd8 (Z4 (d:=.int v) ?_ ⟨v,upR S a b v,n,b,a,rfl,rfl,Zc,by omega,Zc,ha,x3,_,_,rfl,hS.put (by omega) (by omega),Zix (Zix bS v1 a b) v1 b a⟩)
   obtain ⟨t,e1,e2⟩:=val
   exact ⟨_,by rw [Zn5,e1,Option.bind_some,e2]; exact if_pos rfl,OT.data_fz _⟩
  ·obtain ⟨x,S,z9,rfl,hS,bS⟩:=q
   exact ⟨x,S,_,z9,rfl,hS,bS⟩
 ·obtain ⟨x,S,z8,z9,rfl,hS,bS⟩:=q
  exact next x S _ z8 z9 hS bS
theorem Zu7 {n k:Nat} {ts:List OT} {d:PyData} {f:Nat→PyData} (h:ts.map OT.data = (List.range n).map f):(ts.set k (.fz d)).map OT.data = (List.range n).map fun i=>if i = k then d else f i:=by
 rw [List.map_set,h,OT.data_fz,Zhe]
noncomputable def ad2 (R W:Nat→Nat→Int) (k:Nat) (i j:Nat):Int:=if i < k then R i j + W i j else R i j
theorem Z5z {n:Nat} (hn:n ≤ 10) (R W:Nat→Nat→Int) (x kd:Int) (z4 z5 z7 z8 z9:Option OT) {RR:PyData→Zr→Prop} :
  EpS (Zaz (iRa (Ze (Zk 1) Zy)) (gNm 8)
  (Zzr 2 (Jw 2 [] (Zpk (Ze (Wa gIx (Zek 2) (Zk 8)) (Ze (Wa gIx (Zek 6) (Zk 8)) Zy))) (gTp 2 (gCn (Zp3 0) (gCn (Zp3 1) gNl))) Zem (Zq Zc6 (Zk 0) (Zk 1))) (Zk 8))) (lE x n (Wl n (inG R)) kd z4 z5 (some (Wl n (inG W))) z7 z8 z9)
  (fun δ=>∃ o z8,δ = lE x n o kd z4 z5 (some (Wl n (inG W))) z7 z8 z9∧o.data = Zmt n (inG fun i j=>R i j + W i j)) RR:=by
 have eo:Wl n (inG R) = .nd ((List.range n).map fun i=>.nd ((List.range n).map fun j=>.fz (inG R i j))):=rfl
 rw [eo]
 refine Wj (ds:=Zc4 0 n) (fun k δ=>∃ ts z8,δ = lE x n (.nd ts) kd z4 z5 (some (Wl n (inG W))) z7 z8 z9∧ts.map OT.data = (List.range n).map fun i=>PyData.list ((List.range n).map fun j=>inG (ad2 R W k) i j)) (Zcs (Zd Zc Zm) (by omega)) ⟨_,z8,rfl,?_⟩ (fun k d δ hd q=>?_) fun δ' q=>?_
 ·have:=Zcf n (inG R)
  unfold Wl Zmt at this
  rw [OT.data_nd] at this
  exact PyData.list.inj this
 ·obtain ⟨ts,z8,rfl,ht⟩:=q
  obtain ⟨hk,rfl⟩:=Wh hd
  rw [Int.zero_add]
  have lt:ts.length = n:=by
   have:=congrArg List.length ht
   rwa [List.length_map,List.length_map,List.length_range] at this
  refine ⟨_,rfl,Y8 (Zv1 (n:=k) (d:=.list ((List.range n).map fun j=>.int (R k j + W k j))) (Zud (List.range n) (fun j=>.tuple [.int (R k j),.int (W k j)]) _ (Zzt (as:=(List.range n).map fun j=>.int (R k j)) (bs:=(List.range n).map fun j=>.int (W k j)) (Zam (Ze1 rfl (OT.data_nd ts)) (Zc (d:=.int k)) ?_) (Zam (Ze1 rfl (Zcf n (inG W))) (Zc (d:=.int k)) ?_) (Zus _ _ _)) (by rw [List.length_range]; omega) fun j _ z0 z1=>⟨_,_,rfl,Zaf Zc Zc⟩) rfl Zc ?_) ⟨_,_,rfl,?_⟩⟩
  ·rw [ht,Zlu,Zfy _ hk,Option.bind_some]
   refine congrArg (fun z=>some (OT.fz (PyData.list z))) (List.map_congr_left fun j _=>congrArg PyData.int (if_neg (by omega)))
  ·unfold Zmt
   rw [Zlu,Zfy _ hk,Option.bind_some]; rfl
  ·rw [lt]; exact Zqc hk
  ·rw [Zu7 ht]
   refine List.map_congr_left fun i _=>?_
   by_cases c:i = k
   ·rw [if_pos c,c]
    exact congrArg PyData.list (List.map_congr_left fun j _=>congrArg PyData.int (if_pos (by omega)).symm)
   ·rw [if_neg c]
    refine congrArg PyData.list (List.map_congr_left fun j _=>congrArg PyData.int ?_)
    unfold ad2
    by_cases c2:i < k
    ·rw [if_pos c2,if_pos (by omega)]
    ·rw [if_neg c2,if_neg (by omega)]
 ·obtain ⟨ts,z8,rfl,ht⟩:=q
  refine ⟨_,z8,rfl,?_⟩
  rw [OT.data_nd,ht,Yb]
  refine congrArg PyData.list (List.map_congr_left fun i hi=>congrArg PyData.list (List.map_congr_left fun j _=>congrArg PyData.int (if_pos (List.mem_range.mp hi))))
theorem Zvk {M P:Int} (hM:M = 1000000000000000000000000000000000000001) (hP:P = 100000000000000000000) {v:Int} (h0:0 ≤ v) (h1:v ≤ (7:Nat) * M + P):Bt 300 v :=
 Zly (m:=160) h0 (Int.le_trans h1 (by rw [hM,hP]; decide +kernel)) (by decide)
theorem Zyi {n:Nat} (hn:n ≤ 10) (x:Int):ToldI Zcy (dk x) [.int n] fun d t'=>∃ R x',d = Yv n R∧Nn R∧(∀ i j,Bt 300 (R i j))∧t' = dk x':=by
 obtain ⟨M,hM⟩:∃ M:Int,M = 1000000000000000000000000000000000000001:=⟨_,rfl⟩
 obtain ⟨P,hP⟩:∃ P:Int,P = 100000000000000000000:=⟨_,rfl⟩
 have P0:0 ≤ P:=by rw [hP]; decide +kernel
 refine Zda rfl (Zv (Zg5 (Zye (Zd Zc Zm) (Zlc (n:=n) (by omega))) (Zv (Zbn (W7 rfl (Zd Yc Zm) (by decide) (btc (by decide +kernel) (by decide +kernel)) fun kd x1 r0 r1=>Zv ((Z46 hn hM x1 kd none none none none (RR:=fun _ _=>False)).mono (fun δ q=>?_) fun _ _ z=>z.elim))))))
 obtain ⟨x2,R,z4,z5,rfl,hR,bR⟩:=q
 refine Zv (EpS.mono (N:=fun δ=>∃ x o R z4 z5 z6 z7 z8 z9,δ = lE x n o kd z4 z5 z6 z7 z8 z9∧o.data = Zmt n (inG R)∧Nn R∧∀ i j,Bt 300 (R i j)) (R:=fun _ _=>False) ?_ (fun δ q=>?_) fun _ _ z=>z.elim)
 ·refine Zc8 (Wu (Zea (Zmb Zc Yc rfl)) ⟨fun _=>?_,fun _=>Zcm ⟨_,_,_,_,_,_,_,_,_,rfl,Zcf n (inG R),hR,fun i j=>Zvk hM hP (hR.nn i j) (Int.le_trans (bR i j) (Int.le_add_of_nonneg_right P0))⟩⟩)
  refine long2 hn hP x2 _ kd z4 z5 none none none none fun x S z7 z8 z9 hS bS=>?_
  refine Zv (Zoj (Za8 rfl (Zay ⟨_,rfl,(Zm0 (n:=n) (by omega) hS).mono fun _ t' z=>?_⟩)))
  subst z
  refine (Z5z hn R (fw S n) x kd z4 z5 z7 z8 z9 (RR:=fun _ _=>False)).mono (fun δ q=>?_) fun _ _ z=>z.elim
  obtain ⟨o,z8,rfl,ho⟩:=q
  exact ⟨x,o,_,_,_,_,_,_,_,rfl,ho,hR.sum (hS.fw n),fun i j=>Zvk hM hP (Int.add_nonneg (hR.nn i j) ((hS.fw n).nn i j)) (Int.add_le_add (bR i j) (Z52 bS n i j))⟩
 ·obtain ⟨x,o,R,z4,z5,z6,z7,z8,z9,rfl,ho,hR,bR⟩:=q
  exact Z28 rfl ⟨dk x,rfl,R,x,ho,hR,bR,rfl⟩
noncomputable def EmM (m:Nat) (S:Nat→Nat→Int):Prop:=∃ g:Nat→Int,∀ i j,i < j→j < m→((g i - g j).natAbs:Int) = S i j
noncomputable def Nz (m:Nat) (g:Nat→Int):Prop:=g 0 = 0∧∀ k,k < m→(∀ j,j < k→g j = 0)→0 ≤ g k
theorem EmM.nz {m:Nat} {S:Nat→Nat→Int} (h:EmM m S):∃ g:Nat→Int,Nz m g∧∀ i j,i < j→j < m→((g i - g j).natAbs:Int) = S i j:=by
 obtain ⟨g,hg⟩:=h
 have mv:∃ g:Nat→Int,g 0 = 0∧∀ i j,i < j→j < m→((g i - g j).natAbs:Int) = S i j:=⟨fun i=>g i - g 0,by show g 0 - g 0 = 0; omega,fun i j h1 h2=>by have:=hg i j h1 h2; show ((g i - g 0 - (g j - g 0)).natAbs:Int) = _; omega⟩
 obtain ⟨g,g0,hg⟩:=mv
 rcases Nat.lt_or_ge 0 m with hm | hm
 ·by_cases c:∃ k,k < m∧(∀ j,j < k→g j = 0)∧g k < 0
  ·obtain ⟨k,k1,k2,k3⟩:=c
   refine ⟨fun i=>- g i,⟨by show - g 0 = 0; omega,fun i hi h=>?_⟩,fun i j h1 h2=>by have:=hg i j h1 h2; show ((- g i - - g j).natAbs:Int) = _; omega⟩
   show 0 ≤ - g i
   rcases Nat.lt_trichotomy i k with z | z | z
   ·have:=k2 i z; omega
   ·rw [z]; omega
   ·have:- g k = 0:=h k z
    omega
  ·refine ⟨g,⟨g0,fun k hk h=>?_⟩,hg⟩
   by_cases z:g k < 0
   ·exact absurd ⟨k,hk,h,z⟩ c
   ·omega
 ·exact ⟨g,⟨g0,fun k hk=>by omega⟩,hg⟩
noncomputable def plc (S:Nat→Nat→Int) (a i:Nat):Int:=if ((S 0 a - S 0 i).natAbs:Int) = S a i then S 0 i else - S 0 i
structure Dg (m:Nat) (S:Nat→Nat→Int):Prop where
 nn:∀ i j,i < m→j < m→0 ≤ S i j
 dg:∀ i,i < m→S i i = 0
noncomputable def Ap (m:Nat) (S:Nat→Nat→Int) (a:Nat):Prop:=a < m∧((0 < S 0 a∧∀ j,j < a→S 0 j ≤ 0)∨(a = 0∧∀ j,j < m→S 0 j ≤ 0))
theorem Zi8 {A B C q:Int} (pos:0 < A) (hq:(q.natAbs:Int) = B) (h:((A - q).natAbs:Int) = C):(if ((A - B).natAbs:Int) = C then B else -B) = q:=by
 by_cases s:0 ≤ q
 ·have:B = q:=by clear h; omega
  subst this; rw [if_pos h]
 ·have:B = -q:=by clear h; omega
  subst this
  rw [if_neg (by clear hq; omega)]; exact Int.neg_neg q
theorem Zqy {x:Int} (h:(x.natAbs:Int) = 0):x = 0:=by omega
theorem Z6t {c:Prop} [Decidable c]:(if c then (0:Int) else -0) = 0:=by split <;> rfl
theorem Zvm {m a:Nat} {S:Nat→Nat→Int} (d:Dg m S) (ha:Ap m S a) {g:Nat→Int} (z:Nz m g) (hg:∀ i j,i < j→j < m→((g i - g j).natAbs:Int) = S i j) {i:Nat} (hi:i < m):plc S a i = g i:=by
 obtain ⟨ham,ha⟩:=ha
 obtain ⟨g0,gz⟩:=z
 have s0:∀ j,j < m→((g j).natAbs:Int) = S 0 j:=fun j hj=>by
  rcases Nat.eq_zero_or_pos j with e | e
  ·subst e; have:=d.dg 0 hj; omega
  ·have:=hg 0 j e hj; omega
 have si:=s0 i hi
 rcases ha with ⟨a1,a2⟩ | ⟨rfl,a2⟩
 ·have sa:=s0 a ham
  have low:∀ j,j < a→g j = 0:=fun j hj=>Zqy (by
   have h1:=a2 j hj
   have h2:=s0 j (by omega)
   rw [h2]
   have:=d.nn 0 j (by omega) (by omega)
   omega)
  have ga:=gz a ham low
  unfold plc
  rcases Nat.lt_trichotomy i a with c | c | c
  ·have h:=low i c
   rw [h] at si
   rw [← si,h]
   exact Z6t
  ·subst c
   have h:=d.dg i hi
   rw [if_pos (by rw [h,Int.sub_self]; rfl),← sa]
   exact Int.natAbs_of_nonneg ga
  ·have h1:=hg a i c hi
   refine Zi8 a1 si ?_
   rw [← sa,Int.natAbs_of_nonneg ga]; exact h1
 ·have h1:=a2 i hi
  have h2:=d.nn 0 i (by omega) hi
  have e:S 0 i = 0:=by clear si; omega
  unfold plc
  rw [e] at si ⊢
  rw [Zqy si]
  exact Z6t
theorem Zoi {m a:Nat} {S:Nat→Nat→Int} (d:Dg m S) (ha:Ap m S a):EmM m S ↔ ∀ i j,i < j→j < m→((plc S a i - plc S a j).natAbs:Int) = S i j:=by
 constructor
 ·intro h i j h1 h2
  obtain ⟨g,z,hg⟩:=h.nz
  rw [Zvm d ha z hg (by omega),Zvm d ha z hg h2]
  exact hg i j h1 h2
 ·exact fun h=>⟨_,h⟩
theorem Z3x {m:Nat} (S:Nat→Nat→Int) (hm:0 < m):∃ a,Ap m S a:=by
 by_cases c:∃ a,a < m∧0 < S 0 a
 ·obtain ⟨a,h1,h2⟩:=c
  have key:∀ b,b < m→0 < S 0 b→∃ a,a < m∧0 < S 0 a∧∀ j,j < a→S 0 j ≤ 0:=fun b=>by
   induction b using Nat.strongRecOn with
   | ind b ih =>
    intro h1 h2
    by_cases c:∃ j,j < b∧0 < S 0 j
    ·obtain ⟨j,j1,j2⟩:=c
     exact ih j j1 (by omega) j2
    ·exact ⟨b,h1,h2,fun j hj=>Int.not_lt.mp fun z=>c ⟨j,hj,z⟩⟩
  obtain ⟨a,h1,h2,h3⟩:=key a h1 h2
  exact ⟨a,h1,.inl ⟨h2,h3⟩⟩
 ·exact ⟨0,hm,.inr ⟨rfl,fun j hj=>Int.not_lt.mp fun z=>c ⟨j,hj,z⟩⟩⟩
noncomputable def sb (R:Nat→Nat→Int) (ps:List Nat):Nat→Nat→Int:=fun i j=>R (ps.getD i 0) (ps.getD j 0)
theorem em3 {R:Nat→Nat→Int} {x y z:Nat} (h:EmM 3 (sb R [x,y,z])):∃ a b c:Int,((a - b).natAbs:Int) = R x y∧((a - c).natAbs:Int) = R x z∧((b - c).natAbs:Int) = R y z:=by
 obtain ⟨g,hg⟩:=h
 exact ⟨g 0,g 1,g 2,hg 0 1 (by decide) (by decide),hg 0 2 (by decide) (by decide),hg 1 2 (by decide) (by decide)⟩
theorem em4 {R:Nat→Nat→Int} {x y z w:Nat} (h:EmM 4 (sb R [x,y,z,w])):∃ a b c d:Int,((a - b).natAbs:Int) = R x y∧((a - c).natAbs:Int) = R x z∧((a - d).natAbs:Int) = R x w∧((b - c).natAbs:Int) = R y z∧((b - d).natAbs:Int) = R y w∧((c - d).natAbs:Int) = R z w:=by
 obtain ⟨g,hg⟩:=h
 exact ⟨g 0,g 1,g 2,g 3,hg 0 1 (by decide) (by decide),hg 0 2 (by decide) (by decide),hg 0 3 (by decide) (by decide),hg 1 2 (by decide) (by decide),hg 1 3 (by decide) (by decide),hg 2 3 (by decide) (by decide)⟩
theorem Zgp {R:Nat→Nat→Int} {a i:Nat} {o p q:Int} (hp:((o - p).natAbs:Int) = R 0 a) (hq:((o - q).natAbs:Int) = R 0 i) (h:a < i→((p - q).natAbs:Int) = R a i) (pos:0 < R 0 a) (low:i < a→R 0 i = 0) (ne:i ≠ a):plc R a i = if o < p then q - o else o - q:=by
 unfold plc
 rcases Nat.lt_trichotomy i a with c | c | c
 ·have l:=low c
  rw [l] at hq ⊢
  have e:=Zqy hq
  rw [Z6t]
  clear hp hq h pos low l
  split <;> omega
 ·exact absurd c ne
 ·have h:=h c
  clear low ne c
  by_cases k:o < p
  ·rw [if_pos k]
   have e:R 0 a = p - o:=by rw [← hp]; clear hp hq h pos; omega
   refine Zi8 pos (by rw [← Int.neg_sub,Int.natAbs_neg]; exact hq) ?_
   rw [e,show p - o - (q - o) = p - q by clear hp hq h pos e k; omega]; exact h
  ·rw [if_neg k]
   have e:R 0 a = o - p:=by rw [← hp]; clear hp hq h pos; omega
   refine Zi8 pos hq ?_
   rw [e,show o - p - (o - q) = -(p - q) by clear hp hq h pos e k; omega,Int.natAbs_neg]; exact h
theorem turned (o p z w:Int):(((if o < p then z - o else o - z) - (if o < p then w - o else o - w)).natAbs:Int) = ((z - w).natAbs:Int):=by
 split
 ·rw [show z - o - (w - o) = z - w by omega]
 ·rw [show o - z - (o - w) = -(z - w) by omega,Int.natAbs_neg]
theorem Zv9 {o p A:Int} (h:((o - p).natAbs:Int) = A):A = if o < p then p - o else o - p:=by
 subst h
 split <;> omega
theorem Zwn {n:Nat} {R:Nat→Nat→Int} (h:EmM n R) {ps:List Nat} (hr:ps.Pairwise (· < ·)) (hb:∀ x ∈ ps,x < n):EmM ps.length (sb R ps):=by
 obtain ⟨g,hg⟩:=h
 refine ⟨fun i=>g (ps.getD i 0),fun i j h1 h2=>?_⟩
 have gi:∀ i,i < ps.length→ps.getD i 0 = ps[i]!:=fun i hi=>by simp [List.getD_eq_getElem?_getD,hi]
 have e1:ps.getD i 0 = ps[i]'(by omega):=by rw [List.getD_eq_getElem?_getD,List.getElem?_eq_getElem (by omega)]; rfl
 have e2:ps.getD j 0 = ps[j]:=by rw [List.getD_eq_getElem?_getD,List.getElem?_eq_getElem h2]; rfl
 have lt:ps.getD i 0 < ps.getD j 0:=by rw [e1,e2]; exact List.pairwise_iff_getElem.mp hr i j (by omega) h2 h1
 exact hg _ _ lt (by rw [e2]; exact hb _ (List.getElem_mem _))
theorem Z2s {n:Nat} {R:Nat→Nat→Int} (d:Dg n R) (h3:∀ x y z,x < y→y < z→z < n→EmM 3 (sb R [x,y,z])) (h4:∀ x y z w,x < y→y < z→z < w→w < n→EmM 4 (sb R [x,y,z,w])) (hn:0 < n):EmM n R:=by
 obtain ⟨a,ha⟩:=Z3x R hn
 refine (Zoi d ha).mpr fun i j hij hj=>?_
 obtain ⟨ham,ha⟩:=ha
 rcases ha with ⟨a1,a2⟩ | ⟨rfl,a2⟩
 ·have a0:0 < a:=by
   rcases Nat.eq_zero_or_pos a with e | e
   ·subst e; have:=d.dg 0 ham; omega
   ·exact e
  have low:∀ x,x < n→x < a→R 0 x = 0:=fun x hx c=>by have:=a2 x c; have:=d.nn 0 x (by omega) hx; omega
  have p0:plc R a 0 = 0:=by
   have:=d.dg 0 (by omega)
   unfold plc; split <;> omega
  have pa:plc R a a = R 0 a:=by
   have:=d.dg a ham
   unfold plc; rw [if_pos (by omega)]
  rcases Nat.eq_zero_or_pos i with e | e
  ·subst e
   have nj:=d.nn 0 j (by omega) hj
   rw [p0]
   unfold plc; split <;> omega
  ·by_cases c1:i = a
   ·subst c1
    obtain ⟨x,y,z,e1,e2,e3⟩:=em3 (h3 0 i j e hij hj)
    rw [pa,Zv9 e1,Zgp (o:=x) (p:=y) (q:=z) e1 e2 (fun _=>e3) a1 (fun c=>absurd c (by omega)) (by omega),turned]; exact e3
   ·by_cases c2:j = a
    ·subst c2
     obtain ⟨x,y,z,e1,e2,e3⟩:=em3 (h3 0 i j e hij hj)
     rw [pa,Zv9 e2,Zgp (o:=x) (p:=z) (q:=y) e2 e1 (fun c=>absurd c (by omega)) a1 (fun c=>low i (by omega) c) c1,turned]; exact e3
    ·rcases Nat.lt_or_ge a i with c | c
     ·obtain ⟨x,y,z,w,e1,e2,e3,e4,e5,e6⟩:=em4 (h4 0 a i j a0 c hij hj)
      rw [Zgp (o:=x) (p:=y) (q:=z) e1 e2 (fun _=>e4) a1 (fun c=>low i (by omega) c) c1,Zgp (o:=x) (p:=y) (q:=w) e1 e3 (fun _=>e5) a1 (fun c=>low j hj c) c2,turned]; exact e6
     ·rcases Nat.lt_or_ge a j with c' | c'
      ·obtain ⟨x,y,z,w,e1,e2,e3,e4,e5,e6⟩:=em4 (h4 0 i a j e (by omega) c' hj)
       rw [Zgp (o:=x) (p:=z) (q:=y) e2 e1 (fun c=>by omega) a1 (fun c=>low i (by omega) c) c1,Zgp (o:=x) (p:=z) (q:=w) e2 e3 (fun _=>e6) a1 (fun c=>low j hj c) c2,turned]; exact e5
      ·obtain ⟨x,y,z,w,e1,e2,e3,e4,e5,e6⟩:=em4 (h4 0 i j a e hij (by omega) ham)
       rw [Zgp (o:=x) (p:=w) (q:=y) e3 e1 (fun c=>by omega) a1 (fun c=>low i (by omega) c) c1,Zgp (o:=x) (p:=w) (q:=z) e3 e2 (fun c=>by omega) a1 (fun c=>low j hj c) c2,turned]; exact e4
 ·have z:∀ x,x < n→plc R 0 x = 0:=fun x hx=>by
   have:=a2 x hx
   have:=d.nn 0 x hn hx
   unfold plc; split <;> omega
  have hi:i < n:=Nat.lt_trans hij hj
  rw [z i hi,z j hj]
  have l:∀ x,x < n→R 0 x = 0:=fun x hx=>Int.le_antisymm (a2 x hx) (d.nn 0 x hn hx)
  rcases Nat.eq_zero_or_pos i with e | e
  ·subst e; rw [l j hj]; rfl
  ·obtain ⟨x,y,z,e1,e2,e3⟩:=em3 (h3 0 i j e hij hj)
   rw [l i hi] at e1
   rw [l j hj] at e2
   have e1:=Zqy e1
   have e2:=Zqy e2
   rw [← e3,show y - z = 0 by clear e3; omega]; rfl
theorem Zok {m:Nat} {S R:Nat→Nat→Int} {k:Int} (hk:0 < k) (d:Dg m S) (e:∀ i j,i < m→j < m→k * S i j = R i j) (hm:0 < m):EmM m S ↔ EmM m R:=by
 have dR:Dg m R:=⟨fun i j hi hj=>by rw [← e i j hi hj]; exact Int.mul_nonneg (by omega) (d.nn i j hi hj),fun i hi=>by rw [← e i i hi hi,d.dg i hi,Int.mul_zero]⟩
 obtain ⟨a,ha⟩:=Z3x S hm
 have abs:∀ u v w:Int,((k * u - k * v).natAbs:Int) = k * w ↔ ((u - v).natAbs:Int) = w:=fun u v w=>by
  rw [← Int.mul_sub,Int.natAbs_mul,Int.natCast_mul,Int.natAbs_of_nonneg (show 0 ≤ k by omega)]
  exact ⟨fun h=>Int.eq_of_mul_eq_mul_left (by omega) h,fun h=>by rw [h]⟩
 have aR:Ap m R a:=by
  obtain ⟨h1,h2⟩:=ha
  refine ⟨h1,h2.imp (fun z=>⟨?_,fun j hj=>?_⟩) fun z=>⟨z.1,fun j hj=>?_⟩⟩
  ·rw [← e 0 a hm h1]; exact Int.mul_pos hk z.1
  ·rw [← e 0 j hm (by omega)]; exact Int.mul_nonpos_of_nonneg_of_nonpos (by omega) (z.2 j hj)
  ·rw [← e 0 j hm hj]; exact Int.mul_nonpos_of_nonneg_of_nonpos (by omega) (z.2 j hj)
 have pl:∀ i,i < m→plc R a i = k * plc S a i:=fun i hi=>by
  unfold plc
  rw [← e 0 a hm ha.1,← e 0 i hm hi,← e a i ha.1 hi]
  by_cases c:((S 0 a - S 0 i).natAbs:Int) = S a i
  ·rw [if_pos c,if_pos ((abs _ _ _).mpr c)]
  ·rw [if_neg c,if_neg fun z=>c ((abs _ _ _).mp z),Int.mul_neg]
 rw [Zoi d ha,Zoi dR aR]
 refine forall_congr' fun i=>forall_congr' fun j=>forall_congr' fun h1=>forall_congr' fun h2=>?_
 rw [pl i (by omega),pl j h2,← e i j (by omega) h2,abs]
theorem Zqk {t:FT} {a b:FE} {δ:Zr} {d:PyData} (h:EvT t δ true) (k:EvV a δ d):EvV (fIf t a b) δ d:=by
 obtain ⟨o,e1,e2⟩:=k
 exact ⟨o,by unfold fIf; unfold EvT at h; rw [h]; exact e1,e2⟩
theorem Zrr {t:FT} {a b:FE} {δ:Zr} {d:PyData} (h:EvT t δ false) (k:EvV b δ d):EvV (fIf t a b) δ d:=by
 obtain ⟨o,e1,e2⟩:=k
 exact ⟨o,by unfold fIf; unfold EvT at h; rw [h]; exact e1,e2⟩
theorem Zij {n:Nat} {S:Nat→Nat→Int} (h0:0 < n) (hn:n ≤ 1000):∃ a:Nat,Told Jy [Yv n S] (.int a)∧Ap n S a:=by
 have key:EpS Zax (Zep 2 [Yv n S]) (fun _=>False) fun d _=>∃ a:Nat,d = .int a∧Ap n S a:=by
  refine Zv (Wj (ds:=Zc4 0 n) (fun k δ=>∃ z,δ = [some (.fz (Yv n S)),z]∧∀ j,j < k→S 0 j ≤ 0) (Zcs (Zd (Jc (Zd Zc Zm) (Zdz n S)) Zm) (by omega)) ⟨none,rfl,fun j hj=>by omega⟩ (fun k d δ hd q=>?_) fun δ' q=>?_)
  ·obtain ⟨z,rfl,hz⟩:=q
   obtain ⟨hk,rfl⟩:=Wh hd
   rw [Int.zero_add]
   refine ⟨_,rfl,Zc8 (Wu (Zea (Zmb (Zam (Zam Zc Yc (Zhp h0)) Zc (Zex hk)) Yc rfl)) ⟨fun c=>?_,fun c=>?_⟩)⟩
   ·exact Jx (Z4 Zc ⟨k,rfl,hk,.inl ⟨of_decide_eq_true c,hz⟩⟩)
   ·refine Zcm ⟨_,rfl,fun j hj=>?_⟩
    rcases Nat.lt_or_ge j k with e | e
    ·exact hz j e
    ·rw [show j = k by omega]
     have:=of_decide_eq_false c
     omega
  ·obtain ⟨z,rfl,hz⟩:=q
   rw [Yb] at hz
   exact Jx (Z4 Yc ⟨0,rfl,h0,.inr ⟨rfl,hz⟩⟩)
 rcases key with ⟨_,_,z⟩ | ⟨o,δ',e,a,ed,ha⟩
 ·exact z.elim
 ·exact ⟨a,⟨o,by unfold Jy; rw [Zdo (np:=1) (by rfl),e,Zfn],ed⟩,ha⟩
theorem Zt3 {n a i:Nat} {S:Nat→Nat→Int} (ha:a < n) (hi:i < n):Told Zc0 [Yv n S,.int a,.int i] (.int (plc S a i)):=by
 have h0:0 < n:=by omega
 refine Jv rfl <| Jj (Yp (Zam (Zam Zc Yc (Zhp h0)) Zc (Zex hi))) ?_
 have t:∀ {b:Bool},decide (((S 0 a - S 0 i).natAbs:Int) = S a i) = b→EvT (tV (Zq gEq (Zdq Zl9 (Ze (Zq gSb (Wa gIx (Wa gIx (Zk 0) (fC (.int 0))) (Zk 1)) (Zk 3)) Zy)) (Wa gIx (Wa gIx (Zk 0) (Zk 1)) (Zk 2)))) [some (.fz (Yv n S)),some (.fz (.int a)),some (.fz (.int i)),some (.fz (.int (S 0 i)))] b:=fun hb=>Zea (Zky (Jc (Zd (Ziw (Zam (Zam Zc Yc (Zhp h0)) Zc (Zex ha)) Zc) Zm) (Zfv _)) (Zam (Zam Zc Zc (Zg9 ha)) Zc (Zex hi)) hb)
 unfold plc
 by_cases c:((S 0 a - S 0 i).natAbs:Int) = S a i
 ·rw [if_pos c]
  exact Zn0 (Zqx (t (decide_eq_true c)) (Zbp Zc))
 ·rw [if_neg c]
  exact Jj (J2 (t (decide_eq_false c)) rfl) (Zbp (Zq8 Zc))
noncomputable def Z3s (n:Nat) (S:Nat→Nat→Int) (f:Nat→Int):Prop:=∀ i j,i < j→j < n→((f i - f j).natAbs:Int) = S i j
open Classical in
theorem Zxy {n:Nat} {S:Nat→Nat→Int} {f:Nat→Int} (hn:n ≤ 1000):Told Wv [Yv n S,Zhh n f] (.bool (decide (Z3s n S f))):=by
 have key:EpS Za7 (Zep 4 [Yv n S,Zhh n f]) (fun _=>False) fun d _=>d = .bool (decide (Z3s n S f)):=by
  refine Zv (Wj (ds:=(Zcr n).map ptD) (fun k δ=>∃ z2 z3,δ = [some (.fz (Yv n S)),some (.fz (Zhh n f)),z2,z3]∧∀ q ∈ (Zcr n).take k,((f q.1 - f q.2).natAbs:Int) = S q.1 q.2) (Zaw (Yr (Zd (Jc (Zd Zc Zm) (Zdz n S)) Zm) (Zma n hn))) ⟨none,none,rfl,fun q m=>by cases m⟩ (fun k d δ hd q=>?_) fun δ' q=>?_)
  ·obtain ⟨z2,z3,rfl,hz⟩:=q
   rw [List.getElem?_map] at hd
   obtain ⟨q,hq,rfl⟩:=Option.map_eq_some_iff.mp hd
   have hm:=List.mem_of_getElem? hq
   obtain ⟨h1,h2⟩:=Zio hm
   refine ⟨_,rfl,Zc8 (Wu (Zea (Zjd (Jc (Zd (Ziw (Zam Zc Zc (Zex (by omega))) (Zam Zc Zc (Zex h2))) Zm) (Zfv _)) (Zam (Zam Zc Zc (Zg9 (show q.1 < n by omega))) Zc (Zex h2)) rfl)) ⟨fun c=>?_,fun c=>?_⟩)⟩
   ·refine Jx (Z4 Yc ?_)
    rw [decide_eq_false fun z=>?_]
    rw [decide_eq_true (z q.1 q.2 h1 h2)] at c
    cases c
   ·refine Zcm ⟨_,_,rfl,fun x hx=>?_⟩
    rw [List.take_succ,hq] at hx
    rcases List.mem_append.mp hx with hx | hx
    ·exact hz x hx
    ·have:x = q:=List.mem_singleton.mp hx
     subst this
     rw [Bool.not_eq_false'] at c
     exact of_decide_eq_true c
  ·obtain ⟨z2,z3,rfl,hz⟩:=q
   rw [List.length_map,List.take_length] at hz
   refine Jx (Z4 Yc ?_)
   rw [decide_eq_true (show Z3s n S f from fun i j h1 h2=>hz (i,j) (Zpd h1 h2))]
 rcases key with ⟨_,_,z⟩ | ⟨o,δ',e,ed⟩
 ·exact z.elim
 ·exact ⟨o,by unfold Wv; rw [Zdo (np:=2) (by rfl),e,Zfn],ed⟩
open Classical in
theorem Zku {n:Nat} {S:Nat→Nat→Int} (h0:0 < n) (hn:n ≤ 1000) (d:Dg n S):∃ f:Nat→Int,Told Jp [Yv n S] (if EmM n S then Zhh n f else .none):=by
 obtain ⟨a,ea,ha⟩:=Zij (S:=S) h0 hn
 refine ⟨plc S a,?_⟩
 refine Jv rfl <| Jj (Yp (Yr (Zd Zc Zm) ea)) ?_
 refine Jj (Yp (d:=Zhh n (plc S a)) ?_) ?_
 ·refine (Zck (cs:=[some (.fz (Yv n S)),some (.fz (.int a))]) (List.range n) (fun i:Nat=>PyData.int (0 + (i:Int))) (fun i=>.int (plc S a i)) (Zcs (Zd (Jc (Zd Zc Zm) (Zdz n S)) Zm) (by omega)) (by rw [List.length_range]; omega) rfl fun i hi=>?_).cast rfl
  rw [Int.zero_add]
  exact Yr (Zd Zc (Zd Zc (Zd Zc Zm))) (Zt3 ha.1 (List.mem_range.mp hi))
 ·have iff:Z3s n S (plc S a) ↔ EmM n S:=(Zoi d ha).symm
  have t:EvT (tD (Wc Wv (Ze (Zk 0) (Ze (Zk 2) Zy)))) [some (.fz (Yv n S)),some (.fz (.int a)),some (.fz (Zhh n (plc S a)))] (decide (Z3s n S (plc S a))):=Zj2 (Yr (Zd Zc (Zd Zc Zm)) (Zxy hn))
  by_cases c:EmM n S
  ·rw [if_pos c]
   rw [decide_eq_true (iff.mpr c)] at t
   exact Zbp (Zqk t Zc)
  ·rw [if_neg c]
   rw [decide_eq_false fun z=>c (iff.mp z)] at t
   exact Zbp (Zrr t Yc)
structure Pts (n:Nat) (ps:List Nat) (d:PyData):Prop where
 ix:∀ i,i < ps.length→gIx d (.int (i:Int)) = some (.fz (.int (ps.getD i 0:Nat)))
 ln:Zft [d] = some (.int ps.length)
 lt:∀ i,i < ps.length→ps.getD i 0 < n
 sm:ps.length ≤ 1000
theorem Ztx {n i j:Nat} {R:Nat→Nat→Int} {a b c:FE} {δ:Zr} (ha:EvV a δ (Yv n R)) (hb:EvV b δ (.int i)) (hc:EvV c δ (.int j)) (hi:i < n) (hj:j < n):EvV (Wa gIx (Wa gIx a b) c) δ (.int (R i j)):=Zam (Zam ha hb (Zg9 hi)) hc (Zex hj)
noncomputable def Fts (S:Nat→Nat→Int) (pl:List Int) (c:Int):Prop:=∀ k,k < pl.length→((pl.getD k 0 - c).natAbs:Int) = S k pl.length
open Classical in
theorem Ztj {n:Nat} {R:Nat→Nat→Int} {ps:List Nat} {d:PyData} (hp:Pts n ps d) {pl:List Int} (hl:pl.length < ps.length) (c:Int):Told J4 [Yv n R,d,Zdx pl,.int c] (.bool (decide (Fts (sb R ps) pl c))):=by
 have sm:=hp.sm
 have key:EpS Zcx (Zep 6 [Yv n R,d,Zdx pl,.int c]) (fun _=>False) fun e _=>e = .bool (decide (Fts (sb R ps) pl c)):=by
  refine Zv (Y8 (Yp (Zam Zc (Zis Zc) (hp.ix _ hl))) ?_)
  refine Zv (Wj (ds:=Zc4 0 pl.length) (fun k δ=>∃ z,δ = [some (.fz (Yv n R)),some (.fz d),some (.fz (Zdx pl)),some (.fz (.int c)),some (.fz (.int (ps.getD pl.length 0:Nat))),z]∧∀ j,j < k→((pl.getD j 0 - c).natAbs:Int) = sb R ps j pl.length) (Zcs (Zd (Zis Zc) Zm) (by omega)) ⟨none,rfl,fun j hj=>by omega⟩ (fun k e δ hd q=>?_) fun δ' q=>?_)
  ·obtain ⟨z,rfl,hz⟩:=q
   obtain ⟨hk,rfl⟩:=Wh hd
   rw [Int.zero_add]
   have e1:EvV (Wa gIx (Zk 2) (Zk 5)) [some (.fz (Yv n R)),some (.fz d),some (.fz (Zdx pl)),some (.fz (.int c)),some (.fz (.int (ps.getD pl.length 0:Nat))),some (.fz (.int k))] (.int (pl.getD k 0)):=(Zl0 (p:=pl) (i:=(k:Int)) Zc Zc (by omega) (by omega)).cast (by rw [Int.toNat_natCast])
   refine ⟨_,rfl,Zc8 (Wu (Zea (Zjd (Jc (Zd (Ziw e1 Zc) Zm) (Zfv _)) (Ztx Zc (Zam Zc Zc (hp.ix k (by omega))) Zc (hp.lt k (by omega)) (hp.lt _ hl)) rfl)) ⟨fun h=>?_,fun h=>?_⟩)⟩
   ·refine Jx (Z4 Yc ?_)
    rw [decide_eq_false fun w=>?_]
    have w:=w k hk
    unfold sb at w
    rw [decide_eq_true w] at h
    cases h
   ·refine Zcm ⟨_,rfl,fun j hj=>?_⟩
    rcases Nat.lt_or_ge j k with e | e
    ·exact hz j e
    ·rw [show j = k by omega]
     rw [Bool.not_eq_false'] at h
     exact of_decide_eq_true h
  ·obtain ⟨z,rfl,hz⟩:=q
   rw [Yb] at hz
   exact Jx (Z4 Yc (by rw [decide_eq_true (show Fts (sb R ps) pl c from hz)]))
 rcases key with ⟨_,_,z⟩ | ⟨o,δ',e,ed⟩
 ·exact z.elim
 ·exact ⟨o,by unfold J4; rw [Zdo (np:=4) (by rfl),e,Zfn],ed⟩
noncomputable def Sofar (m:Nat) (S:Nat→Nat→Int) (pl:List Int):Prop:=(∀ i j,i < j→j < pl.length→((pl.getD i 0 - pl.getD j 0).natAbs:Int) = S i j)∧∀ g,Nz m g→(∀ i j,i < j→j < m→((g i - g j).natAbs:Int) = S i j)→∀ i,i < pl.length→pl.getD i 0 = g i
theorem getD_snoc (pl:List Int) (c:Int) (i:Nat) (hi:i < pl.length):(pl ++ [c]).getD i 0 = pl.getD i 0:=by
 rw [List.getD_eq_getElem?_getD,List.getD_eq_getElem?_getD,List.getElem?_append_left hi]
theorem getD_last (pl:List Int) (c:Int):(pl ++ [c]).getD pl.length 0 = c:=by
 rw [List.getD_eq_getElem?_getD,List.getElem?_append_right (Nat.le_refl _),Nat.sub_self]; rfl
theorem Sofar.next {m:Nat} {S:Nat→Nat→Int} {pl:List Int} (h:Sofar m S pl) (h1:1 ≤ pl.length) (hm:pl.length < m) {c:Int} (hc:Fts S pl c) (pick:c = S 0 pl.length∨(c = - S 0 pl.length∧¬ Fts S pl (S 0 pl.length))) (nn:0 ≤ S 0 pl.length):Sofar m S (pl ++ [c]):=by
 refine ⟨fun i j hij hj=>?_,fun g z hg i hi=>?_⟩
 ·rw [List.length_append,List.length_singleton] at hj
  rcases Nat.lt_or_ge j pl.length with e | e
  ·rw [getD_snoc _ _ _ (by omega),getD_snoc _ _ _ e]; exact h.1 i j hij e
  ·have:j = pl.length:=by omega
   subst this
   rw [getD_snoc _ _ _ hij,getD_last]; exact hc i hij
 ·rw [List.length_append,List.length_singleton] at hi
  rcases Nat.lt_or_ge i pl.length with e | e
  ·rw [getD_snoc _ _ _ e]; exact h.2 g z hg i e
  ·have:i = pl.length:=by omega
   subst this
   rw [getD_last]
   have same:∀ k,k < pl.length→pl.getD k 0 = g k:=h.2 g z hg
   have g0:=hg 0 pl.length (by omega) hm
   have z0:=z.1
   have fg:Fts S pl (g pl.length):=fun k hk=>by rw [same k hk]; exact hg k _ hk hm
   have two:g pl.length = S 0 pl.length∨g pl.length = - S 0 pl.length:=by omega
   rcases pick with p | ⟨p,q⟩
   ·rcases two with t | t
    ·rw [p,t]
    ·-- both fit: all before are 0
     have all:∀ k,k < pl.length→g k = 0∨S 0 pl.length = 0:=fun k hk=>by
      have a:=hc k hk
      have b:=fg k hk
      rw [same k hk] at a b
      rw [p] at a
      rw [t] at b
      omega
     by_cases s:S 0 pl.length = 0
     ·rw [p,t,s]; rfl
     ·have:=z.2 pl.length hm fun k hk=>(all k hk).resolve_right s
      omega
   ·rcases two with t | t
    ·exact absurd (t ▸ fg) q
    ·rw [p,t]
theorem Sofar.no {m:Nat} {S:Nat→Nat→Int} {pl:List Int} (h:Sofar m S pl) (h1:1 ≤ pl.length) (hm:pl.length < m) (n1:¬ Fts S pl (S 0 pl.length)) (n2:¬ Fts S pl (0 - S 0 pl.length)):¬ EmM m S:=fun e=>by
 obtain ⟨g,z,hg⟩:=e.nz
 have same:∀ k,k < pl.length→pl.getD k 0 = g k:=h.2 g z hg
 have g0:=hg 0 pl.length (by omega) hm
 have z0:=z.1
 have fg:Fts S pl (g pl.length):=fun k hk=>by rw [same k hk]; exact hg k _ hk hm
 have two:g pl.length = S 0 pl.length∨g pl.length = 0 - S 0 pl.length:=by omega
 rcases two with t | t
 ·exact n1 (t ▸ fg)
 ·exact n2 (t ▸ fg)
theorem Sofar.yes {m:Nat} {S:Nat→Nat→Int} {pl:List Int} (h:Sofar m S pl) (hm:pl.length = m):EmM m S:=⟨fun i=>pl.getD i 0,fun i j h1 h2=>h.1 i j h1 (by omega)⟩
theorem Zwj {e:FE} {δ:Zr} {ds:List PyData} (h:EvV e δ (.tuple ds)):EvI (iTp e) δ ds:=by
 obtain ⟨t,e1,e2⟩:=h
 unfold EvI iTp
 rw [e1,Option.bind_some]
 show (match t.data with | .tuple ds=>some (ds,δ) | _=>none) = _
 rw [e2]
theorem Zs8 {e:FE} {δ:Zr} {i:Int} (h:EvV e δ (.int i)):EvV (Zht e) δ (.int i):=by
 obtain ⟨t,e1,e2⟩:=h
 refine ⟨.fz (.int i),?_,OT.data_fz _⟩
 rw [Zn5,e1,Option.bind_some]
 show (if Zc5 t.data = true then some (OT.fz t.data,δ) else none) = _
 rw [e2,if_pos (by rw [Zc5])]
noncomputable def ndZ (l:List Int):OT:=.nd (l.map fun v=>.fz (.int v))
theorem Zf7 (l:List Int):(ndZ l).data = Zdx l:=Ztn l
theorem Z13 {i:Nat} {e:FE} {δ:Zr} {l:List Int} {v:Int} (h:EvV e δ (.int v)) (hi:δ[i]? = some (some (ndZ l))) (hl:l.length ≤ 1000):Zah i e δ = .nx (δ.set i (some (ndZ (l ++ [v])))):=Zui h hi (by omega)
theorem Zrw (l:List Int):gEq (Zdx l) (.list []) = some (.bool (decide (l = []))):=by
 have s:∀ p:List Int,SeqAt.shaped (Zdx p) = true:=fun p=>((show Sh 1 (Zdx p) from lay_ints p).shp (by omega)).ok
 unfold gEq
 rw [if_pos (by rw [s,show SeqAt.shaped (.list []) = true from s []]; rfl)]
 exact congrArg (fun z=>some (PyData.bool z)) (Zq5 l [])
open Classical in
theorem Zi3 {n:Nat} {R:Nat→Nat→Int} {ps:List Nat} {d:PyData} (hp:Pts n ps d) (h1:1 ≤ ps.length) (nn:∀ i j,i < n→j < n→0 ≤ R i j):∃ pl:List Int,Told Yx [Yv n R,d] (if EmM ps.length (sb R ps) then Zdx pl else .none):=by
 have sm:=hp.sm
 have key:EpS Za4 (Zep 7 [Yv n R,d]) (fun _=>False) fun e _=>∃ pl:List Int,e = if EmM ps.length (sb R ps) then Zdx pl else .none:=by
  refine Zv (Y8 (Zso (o:=ndZ [0]) (by rw [Zhu]; rfl)) ?_)
  refine Zv (Wj (ds:=Zc4 1 (ps.length - 1)) (fun k δ=>∃ pl z3 z4 z5 z6,δ = [some (.fz (Yv n R)),some (.fz d),some (ndZ pl),z3,z4,z5,z6]∧pl.length = k + 1∧Sofar ps.length (sb R ps) pl) (Zqp (m:=1) (n:=ps.length) (Zd Yc (Zd (Jc (Zd Zc Zm) hp.ln) Zm)) (by omega) (by omega)) ⟨[0],none,none,none,none,rfl,rfl,fun i j hij hj=>by simp only [List.length_cons,List.length_nil] at hj; omega,fun g z hg i hi=>by
   have:i = 0:=by simp only [List.length_cons,List.length_nil] at hi; omega
   subst this
   exact z.1.symm⟩ (fun k e δ hd q=>?_) fun δ' q=>?_)
  ·obtain ⟨pl,z3,z4,z5,z6,rfl,hl,hs⟩:=q
   obtain ⟨hk,rfl⟩:=Wh hd
   have ek:((1:Int) + (k:Int)) = ((pl.length:Nat):Int):=by omega
   rw [ek]
   have far0:0 ≤ sb R ps 0 pl.length:=nn _ _ (hp.lt 0 (by omega)) (hp.lt _ (by omega))
   refine ⟨_,rfl,Zv (Y8 (Yp (d:=.int (sb R ps 0 pl.length)) (Ztx (n:=n) (R:=R) (i:=ps.getD 0 0) (j:=ps.getD pl.length 0) Zc (Zam Zc Yc (hp.ix 0 (by omega))) (Zam Zc Zc (hp.ix pl.length (by omega))) (hp.lt 0 (by omega)) (hp.lt _ (by omega)))) ?_)⟩
   refine Zv (Y8 Zk2 ?_)
   refine Zv (Wj (ds:=[sb R ps 0 pl.length,0 - sb R ps 0 pl.length].map PyData.int) (fun t δ=>∃ z6,δ = [some (.fz (Yv n R)),some (.fz d),some (ndZ pl),some (.fz (.int (pl.length:Nat))),some (.fz (.int (sb R ps 0 pl.length))),some (ndZ (([sb R ps 0 pl.length,0 - sb R ps 0 pl.length].take t).filter fun c=>decide (Fts (sb R ps) pl c))),z6]) (Zwj (Zd2 (Zd Zc (Zd (Ziw Yc Zc) Zm)) (show 2 ≤ 1000 by decide))) ⟨z6,rfl⟩ (fun t e δ hd q=>?_) fun δ' q=>?_)
   ·obtain ⟨z6,rfl⟩:=q
    rw [List.getElem?_map] at hd
    obtain ⟨c,hc,rfl⟩:=Option.map_eq_some_iff.mp hd
    have tst:EvT (tD (Wc J4 (Ze (Zk 0) (Ze (Zk 1) (Ze (Zek 2) (Ze (Zk 6) Zy)))))) [some (.fz (Yv n R)),some (.fz d),some (ndZ pl),some (.fz (.int (pl.length:Nat))),some (.fz (.int (sb R ps 0 pl.length))),some (ndZ (([sb R ps 0 pl.length,0 - sb R ps 0 pl.length].take t).filter fun c=>decide (Fts (sb R ps) pl c))),some (.fz (.int c))] (decide (Fts (sb R ps) pl c)):=Zj2 (Yr (Zd Zc (Zd Zc (Zd (Ze1 rfl (Zf7 pl)) (Zd Zc Zm)))) (Ztj (R:=R) (pl:=pl) hp (by omega) c))
    have hle:(([sb R ps 0 pl.length,0 - sb R ps 0 pl.length].take t).filter fun c=>decide (Fts (sb R ps) pl c)).length ≤ 1000:=Nat.le_trans (List.length_filter_le _ _) (by rw [List.length_take]; simp only [List.length_cons,List.length_nil]; omega)
    refine ⟨_,rfl,?_⟩
    rw [List.take_succ,hc]
    show EpS _ _ (fun δ=>∃ z6,δ = [some (.fz (Yv n R)),some (.fz d),some (ndZ pl),some (.fz (.int (pl.length:Nat))),some (.fz (.int (sb R ps 0 pl.length))),some (ndZ (([sb R ps 0 pl.length,0 - sb R ps 0 pl.length].take t ++ [c]).filter fun c=>decide (Fts (sb R ps) pl c))),z6]) _
    rw [List.filter_append]
    by_cases f:Fts (sb R ps) pl c
    ·rw [decide_eq_true f] at tst
     refine Y8 (Zjv tst (Z13 Zc rfl hle)) ⟨some (.fz (.int c)),?_⟩
     rw [show [c].filter (fun c=>decide (Fts (sb R ps) pl c)) = [c] by rw [List.filter_cons,if_pos (decide_eq_true f)]; rfl]; rfl
    ·rw [decide_eq_false f] at tst
     refine Y8 (J2 tst rfl) ⟨some (.fz (.int c)),?_⟩
     rw [show [c].filter (fun c=>decide (Fts (sb R ps) pl c)) = [] by rw [List.filter_cons,if_neg (by rw [decide_eq_false f]; exact Bool.false_ne_true)]; rfl,List.append_nil]; rfl
   ·obtain ⟨z6,rfl⟩:=q
    have nxt:∀ (c:Int) (gd:List Int),Fts (sb R ps) pl c→(c = sb R ps 0 pl.length∨(c = - sb R ps 0 pl.length∧¬ Fts (sb R ps) pl (sb R ps 0 pl.length)))→EpS (Yj (Zc3 (tV (Zq gEq (Zek 5) (Zd3 Zy))) (wE (fC .none) Zar) fNx) (Zah 2 (Zht (Wa gIx (Zek 5) (fC (.int 0)))))) [some (.fz (Yv n R)),some (.fz d),some (ndZ pl),some (.fz (.int (pl.length:Nat))),some (.fz (.int (sb R ps 0 pl.length))),some (ndZ (c :: gd)),z6] (fun δ=>∃ pl z3 z4 z5 z6,δ = [some (.fz (Yv n R)),some (.fz d),some (ndZ pl),z3,z4,z5,z6]∧pl.length = k + 1 + 1∧Sofar ps.length (sb R ps) pl) (fun e _=>∃ pl:List Int,e = if EmM ps.length (sb R ps) then Zdx pl else .none):=fun c gd fc pk=>by
     refine Zv (Y8 (J2 (Zea (Zw (Ze1 rfl (Zf7 (c :: gd))) (Zat Zm (show 0 ≤ 1000 by decide)) (by rw [Zrw]; rfl))) rfl) ?_)
     refine Y8 (Z13 (Zs8 ((Zl0 (p:=c :: gd) (i:=0) (Ze1 rfl (Zf7 (c :: gd))) Yc (by decide) (by simp only [List.length_cons]; omega)).cast rfl)) rfl (by omega)) ⟨pl ++ [c],_,_,_,_,rfl,by rw [List.length_append,List.length_singleton]; omega,hs.next (by omega) (by omega) fc pk far0⟩
    by_cases f1:Fts (sb R ps) pl (sb R ps 0 pl.length)
    ·have e:([sb R ps 0 pl.length,0 - sb R ps 0 pl.length].take ([sb R ps 0 pl.length,0 - sb R ps 0 pl.length].map PyData.int).length).filter (fun c=>decide (Fts (sb R ps) pl c)) = sb R ps 0 pl.length :: [0 - sb R ps 0 pl.length].filter (fun c=>decide (Fts (sb R ps) pl c)):=by
      show List.filter _ [sb R ps 0 pl.length,0 - sb R ps 0 pl.length] = _
      rw [List.filter_cons,if_pos (decide_eq_true f1)]
     rw [e]
     exact nxt _ _ f1 (.inl rfl)
    ·by_cases f2:Fts (sb R ps) pl (0 - sb R ps 0 pl.length)
     ·have e:([sb R ps 0 pl.length,0 - sb R ps 0 pl.length].take ([sb R ps 0 pl.length,0 - sb R ps 0 pl.length].map PyData.int).length).filter (fun c=>decide (Fts (sb R ps) pl c)) = [0 - sb R ps 0 pl.length]:=by
       show List.filter _ [sb R ps 0 pl.length,0 - sb R ps 0 pl.length] = _
       rw [List.filter_cons,if_neg (by rw [decide_eq_false f1]; exact Bool.false_ne_true),List.filter_cons,if_pos (decide_eq_true f2)]; rfl
      rw [e]
      exact nxt _ _ f2 (.inr ⟨Int.zero_sub _,f1⟩)
     ·have e:([sb R ps 0 pl.length,0 - sb R ps 0 pl.length].take ([sb R ps 0 pl.length,0 - sb R ps 0 pl.length].map PyData.int).length).filter (fun c=>decide (Fts (sb R ps) pl c)) = []:=by
       show List.filter _ [sb R ps 0 pl.length,0 - sb R ps 0 pl.length] = _
       rw [List.filter_cons,if_neg (by rw [decide_eq_false f1]; exact Bool.false_ne_true),List.filter_cons,if_neg (by rw [decide_eq_false f2]; exact Bool.false_ne_true)]; rfl
      rw [e]
      refine Zv (Zc8 (Wu (Zea (Zw (Ze1 rfl (Zf7 [])) (Zat Zm (show 0 ≤ 1000 by decide)) (Zrw []))) ⟨fun _=>Jx (Z4 Yc ⟨[],?_⟩),fun z=>nomatch z⟩))
      rw [if_neg (hs.no (by omega) (by omega) f1 f2)]
  ·obtain ⟨pl,z3,z4,z5,z6,rfl,hl,hs⟩:=q
   rw [Yb] at hl
   exact .inr ⟨_,_,rfl,pl,by rw [if_pos (hs.yes (by omega))]; exact Zf7 pl⟩
 rcases key with ⟨_,_,z⟩ | ⟨o,δ',e,pl,ed⟩
 ·exact z.elim
 ·exact ⟨pl,o,by unfold Yx; rw [Zdo (np:=2) (by rfl),e,Zfn],ed⟩
theorem Zsh {e:FE} {δ:Zr} {i:Nat} {ts rs:List OT} {ds:List PyData} (h:e δ = some (.nd rs,δ)) (hd:OT.datas rs = ds) (hi:δ[i]? = some (some (.nd ts))) (hl:ts.length + ds.length ≤ 1000000):Zgl i e δ = .nx (δ.set i (some (.nd (ts ++ ds.map OT.fz)))):=by
 unfold Zgl
 rw [hi]
 dsimp only
 rw [Zel,h,Jd,hi]
 dsimp only
 have lr:rs.length = ds.length:=by rw [← hd,Zds]
 rw [if_pos (by rw [sizeLine_eq,lr]; omega),hd]
theorem Zzi {α:Type} {caps:List Nat} {it:FI} {me:FE} {cs:Zr} {δ:Zr} (xs:List α) (mk f:α→PyData) (hi:EvI it δ (xs.map mk)) (hz:xs.length ≤ 1000000) (hb:blk 1 caps δ = none :: cs) (h:∀ x ∈ xs,EvV me (some (.fz (mk x)) :: cs) (f x)):∃ rs,Jw 1 caps it (gNm 0) Zem me δ = some (.nd rs,δ)∧OT.datas rs = xs.map f:=by
 obtain ⟨t,e1,e2⟩:=Zck xs mk f hi hz hb h
 cases t with
 | fz d =>
  unfold Jw at e1
  unfold EvI at hi
  rw [hi,Option.bind_some] at e1
  split at e1
  ·obtain ⟨z,h1,h2⟩:=bs e1
   cases h2
  ·cases e1
 | tp ts=>rw [OT.data_tp] at e2; cases e2
 | dc _ _ _=>rw [OT.data_dc] at e2; cases e2
 | nd rs =>
  rw [OT.data_nd,← datas_map] at e2
  injection e2 with e2
  exact ⟨rs,e1,e2⟩
noncomputable def tpN (l:List Nat):PyData:=.tuple (l.map fun x:Nat=>.int (x:Int))
noncomputable def lst (p:List Nat):Nat:=if p.length > 0 then p.getD (p.length - 1) 0 + 1 else 0
noncomputable def ext (n:Nat) (p:List Nat):List (List Nat):=(List.range (n - lst p)).map fun j=>p ++ [lst p + j]
noncomputable def rs (n:Nat):Nat→List (List Nat)
 | 0=>[[]]
 | m + 1=>(rs n m).flatMap (ext n)
theorem Znx {n k:Nat} (hn:n ≤ 10) (hk:k ≤ 4):(rs n k).length ≤ 300:=by
 have:∀ m:Fin 11,∀ k:Fin 5,(rs m k).length ≤ 300:=by decide +kernel
 exact this ⟨n,by omega⟩ ⟨k,by omega⟩
theorem Zif {n:Nat}:∀ {k:Nat} {p:List Nat},p ∈ rs n k→p.length = k∧p.Pairwise (· < ·)∧(∀ x ∈ p,x < n)∧∀ x ∈ p,x < lst p
 | 0,p,h=>by
  rw [List.mem_singleton.mp h]
  exact ⟨rfl,.nil,(fun _ m=>nomatch m),fun _ m=>nomatch m⟩
 | k + 1,p,h=>by
  obtain ⟨q,hq,hp⟩:=List.mem_flatMap.mp h
  obtain ⟨h1,h2,h3,h4⟩:=Zif hq
  obtain ⟨j,hj,rfl⟩:=List.mem_map.mp hp
  have hj:=List.mem_range.mp hj
  have hl:lst (q ++ [lst q + j]) = lst q + j + 1:=by
   show (if (q ++ [lst q + j]).length > 0 then (q ++ [lst q + j]).getD ((q ++ [lst q + j]).length - 1) 0 + 1 else 0) = _
   rw [if_pos (by rw [List.length_append]; exact Nat.succ_pos _),List.length_append,List.length_singleton,Nat.add_sub_cancel,List.getD_eq_getElem?_getD,List.getElem?_append_right (Nat.le_refl _),Nat.sub_self]; rfl
  refine ⟨by rw [List.length_append,h1]; rfl,?_,fun x hx=>?_,fun x hx=>?_⟩
  ·rw [List.pairwise_append]
   exact ⟨h2,List.pairwise_singleton _ _,fun x hx y hy=>by rw [List.mem_singleton.mp hy]; have:=h4 x hx; omega⟩
  ·rcases List.mem_append.mp hx with hx | hx
   ·exact h3 x hx
   ·rw [List.mem_singleton.mp hx]; omega
  ·rw [hl]
   rcases List.mem_append.mp hx with hx | hx
   ·have:=h4 x hx; omega
   ·rw [List.mem_singleton.mp hx]; omega
theorem Z07 {n:Nat} {p:List Nat} (h:∀ x ∈ p,x < n):lst p ≤ n:=by
 unfold lst
 by_cases c:p.length > 0
 ·rw [if_pos c,List.getD_eq_getElem?_getD,List.getElem?_eq_getElem (by omega)]
  exact h _ (List.getElem_mem (by omega))
 ·rw [if_neg c]; exact Nat.zero_le _
theorem Zj6 {n k x:Nat} {p:List Nat} (h:p ∈ rs n k) (h1:lst p ≤ x) (h2:x < n):p ++ [x] ∈ rs n (k + 1) :=
 List.mem_flatMap.mpr ⟨p,h,List.mem_map.mpr ⟨x - lst p,List.mem_range.mpr (by omega),by rw [show lst p + (x - lst p) = x by omega]⟩⟩
theorem rs3 {n x y z:Nat} (h1:x < y) (h2:y < z) (h3:z < n):[x,y,z] ∈ rs n 3 :=
 Zj6 (p:=[x,y]) (Zj6 (p:=[x]) (Zj6 (p:=[]) (List.mem_singleton.mpr rfl) (Nat.zero_le _) (by omega)) (show x + 1 ≤ y from h1) (by omega)) (show y + 1 ≤ z from h2) h3
theorem rs4 {n x y z w:Nat} (h1:x < y) (h2:y < z) (h3:z < w) (h4:w < n):[x,y,z,w] ∈ rs n 4:=Zj6 (p:=[x,y,z]) (rs3 h1 h2 (by omega)) (show z + 1 ≤ w from h3) h4
theorem Zuy {p:List Nat} {δ:Zr} (h:δ[5]? = some (some (.fz (tpN p)))):EvV (fIf (tV (Zq gGt (Zdq Zft (Ze (Zk 5) Zy)) (fC (.int 0)))) (Zq Zc6 (Wa gIx (Zk 5) (fUn Zwf (fC (.int 1)))) (fC (.int 1))) (fC (.int 0))) δ (.int (lst p:Nat)):=by
 have ln:Zft [tpN p] = some (.int (p.length:Nat)):=by unfold tpN; rw [Zno,List.length_map]
 unfold lst
 by_cases c:p.length > 0
 ·rw [if_pos c]
  refine Zqk (Zea (Zmb (Jc (Zd (Zc h) Zm) ln) Yc (decide_eq_true (by omega)))) ((Zaf (Zam (d:=.int (p.getD (p.length - 1) 0:Nat)) (Zc h) (Zq8 Yc) ?_) Yc).cast (by rw [Int.natCast_add]; rfl))
  unfold tpN
  rw [Z3p]
  have:atI (p.map fun x:Nat=>PyData.int (x:Int)) (-1) = some (.int (p.getD (p.length - 1) 0:Nat)):=by
   unfold atI ixN
   rw [List.length_map,if_neg (by decide),if_pos (by omega),Option.bind_some,List.getElem?_map,show (-1 + (p.length:Int)).toNat = p.length - 1 by omega,List.getD_eq_getElem?_getD,List.getElem?_eq_getElem (by omega)]; rfl
  rw [this]; rfl
 ·rw [if_neg c]
  exact Zrr (Zea (Zmb (Jc (Zd (Zc h) Zm) ln) Yc (decide_eq_false (by omega)))) Yc
theorem Zr5 {n m:Nat} (hn:n ≤ 10) (hm:m ≤ 4):Told Zad [.int n,.int m] (.list ((rs n m).map tpN)):=by
 refine Jv rfl <| Jj (Yp (d:=.list [tpN []]) (Zat (Zd (Zd2 Zm (show 0 ≤ 1000 by decide)) Zm) (show 1 ≤ 1000 by decide))) ?_
 refine Znf (ds:=Zc4 0 m) (fun k δ=>∃ z3 z4 z5 z6,δ = [some (.fz (.int n)),some (.fz (.int m)),some (.fz (.list ((rs n k).map tpN))),z3,z4,z5,z6]) (Zcs (Zd Zc Zm) (by omega)) ⟨none,none,none,none,rfl⟩ (fun k d δ hd q=>?_) fun δ' q=>by obtain ⟨z3,z4,z5,z6,rfl⟩:=q; rw [Yb]; exact Zbp Zc
 obtain ⟨z3,z4,z5,z6,rfl⟩:=q
 obtain ⟨hk,rfl⟩:=Wh hd
 rw [Int.zero_add]
 have L1:=Znx (k:=k + 1) hn (by omega)
 obtain ⟨δ',e,z5',z6',rfl⟩:=Zxt (it:=Zga (Zk 2)) (g:=gNm 5) (S:=Yj (wE (fIf (tV (Zq gGt (Zdq Zft (Ze (Zk 5) Zy)) (fC (.int 0)))) (Zq Zc6 (Wa gIx (Zk 5) (fUn Zwf (fC (.int 1)))) (fC (.int 1))) (fC (.int 0))) (Jb 6))
  (Zgl 4 (Jw 1 [5] (iRb (Ze (Zk 6) (Ze (Zk 0) Zy))) (gNm 0) Zem (Wa Zpj (Zk 1) (Zj8 (Ze (Zk 0) Zy)))))) (δ:=[some (.fz (.int n)),some (.fz (.int m)),some (.fz (.list ((rs n k).map tpN))),some (.fz (.int k)),some (.nd []),z5,z6]) (ds:=(rs n k).map tpN) (fun t δ=>∃ z5 z6,δ = [some (.fz (.int n)),some (.fz (.int m)),some (.fz (.list ((rs n k).map tpN))),some (.fz (.int k)),some (.nd (((((rs n k).take t).flatMap (ext n)).map tpN).map OT.fz)),z5,z6]) (Zaw Zc) ⟨z5,z6,rfl⟩ (fun t d δ hd q=>by
   obtain ⟨z5,z6,rfl⟩:=q
   rw [List.getElem?_map] at hd
   obtain ⟨p,hp,rfl⟩:=Option.map_eq_some_iff.mp hd
   obtain ⟨pl,_,px,_⟩:=Zif (List.mem_of_getElem? hp)
   have tk:(rs n k).take (t + 1) = (rs n k).take t ++ [p]:=by rw [List.take_succ,hp]; rfl
   have ls:(((rs n k).take (t + 1)).flatMap (ext n)).length ≤ 300:=by
    have:((rs n k).take (t + 1)).flatMap (ext n) ++ ((rs n k).drop (t + 1)).flatMap (ext n) = rs n (k + 1):=by rw [← List.flatMap_append,List.take_append_drop]; rfl
    have:=congrArg List.length this
    rw [List.length_append] at this
    omega
   rw [tk,List.flatMap_append,List.length_append] at ls
   have le:ext n p = [p].flatMap (ext n):=by rw [List.flatMap_cons,List.flatMap_nil,List.append_nil]
   have lx:(ext n p).length = n - lst p:=by unfold ext; rw [List.length_map,List.length_range]
   rw [← le,lx] at ls
   obtain ⟨rr,e1,e2⟩:=Zzi (δ:=[some (.fz (.int n)),some (.fz (.int m)),some (.fz (.list ((rs n k).map tpN))),some (.fz (.int k)),some (.nd (((((rs n k).take t).flatMap (ext n)).map tpN).map OT.fz)),some (.fz (tpN p)),some (.fz (.int (lst p:Nat)))]) (caps:=[5]) (cs:=[some (.fz (tpN p))]) (me:=Wa Zpj (Zk 1) (Zj8 (Ze (Zk 0) Zy))) (it:=iRb (Ze (Zk 6) (Ze (Zk 0) Zy))) (List.range (n - lst p)) (fun j:Nat=>PyData.int ((lst p:Nat) + (j:Int))) (fun j=>tpN (p ++ [lst p + j])) (by
     exact Zqp (m:=lst p) (Zd Zc (Zd Zc Zm)) (Nat.le_trans (Z07 px) (by omega)) (by omega)) (by rw [List.length_range]; omega) rfl fun j _=>(Zqu (o:=.fz (tpN (p ++ [lst p + j]))) Zc (Zd2 (Zd Zc Zm) (show 1 ≤ 1000 by decide)) (by
     unfold tpN
     show (if (p.map fun x:Nat=>PyData.int (x:Int)).length + [PyData.int ((lst p:Nat) + (j:Int))].length ≤ sizeLine then some (OT.fz (.tuple ((p.map fun x:Nat=>PyData.int (x:Int)) ++ [PyData.int ((lst p:Nat) + (j:Int))]))) else none) = _
     rw [if_pos (by rw [sizeLine_eq,List.length_map,List.length_singleton]; omega),List.map_append,List.map_singleton,Int.natCast_add]) (OT.data_fz _))
   refine ⟨_,_,rfl,.inl (Zf1 (Yp (Zuy rfl)) (Zsh e1 e2 rfl (by rw [List.length_map,List.length_map,List.length_map,List.length_range]; omega))),some (.fz (tpN p)),some (.fz (.int (lst p:Nat))),?_⟩
   rw [tk,List.flatMap_append,← le,List.map_append,List.map_append]
   have em:(List.range (n - lst p)).map (fun j=>tpN (p ++ [lst p + j])) = (ext n p).map tpN:=by unfold ext; rw [List.map_map]; rfl
   rw [em]; rfl)
 rw [List.length_map,List.take_length] at e
 refine ⟨_,_,rfl,.inl (Zf1 Zk2 (Zf1 e (Zsv rfl (Yp Zc)))),some (.fz (.int k)),some (.fz (.list ((rs n (k + 1)).map tpN))),z5',z6',?_⟩
 rw [OT.data_nd,OT.map_fz]; rfl
noncomputable def lsN (l:List Nat):PyData:=.list (l.map fun x:Nat=>.int (x:Int))
theorem Zpr {f g:Int→Int→Bool} {a b c:FE} {δ:Zr} {i j k:Int} (ha:EvV a δ (.int i)) (hb:EvV b δ (.int j)) (hc:EvV c δ (.int k)) (h:f i j = true) (hg:g j k = true):EvV (Zlo f g a b c) δ (.bool true):=by
 obtain ⟨_,a1,a2⟩:=ha
 obtain ⟨_,b1,b2⟩:=hb
 obtain ⟨_,c1,c2⟩:=hc
 refine ⟨.fz (.bool (g j k)),?_,by rw [hg]; exact OT.data_fz _⟩
 unfold Zlo
 rw [a1,Option.bind_some,b1,Option.bind_some]
 dsimp only
 rw [a2,b2]
 dsimp only
 rw [if_pos h,c1,Option.bind_some,c2]
theorem Zm2 {n i:Nat} {R:Nat→Nat→Int} (h:i < n):Told Zc1 [Yv n R,.int i] (.bool true) :=
 Jv rfl <| Zbp (Zpr Yc Zc (Jc (Zd Zc Zm) (Zdz n R)) (decide_eq_true (by omega)) (decide_eq_true (by omega)))
theorem Zod (p:List Nat):Zft [lsN p] = some (.int (p.length:Nat)):=by unfold lsN; rw [Znm,List.length_map]
theorem Zu5 {δ:Zr} {i:Nat} {p:List Nat} (h:δ[i]? = some (some (.fz (lsN p)))) (hp:p.Pairwise (· < ·)) (hl:p.length ≤ 1000):EvV (Zkd (Ze (Zk i) Zy)) δ (.int (p.length:Nat)):=by
 obtain ⟨_,e1,d1⟩:=Zd (Zc h) Zm
 have em:p.map (fun x:Nat=>PyData.int (x:Int)) = (p.map fun x:Nat=>(x:Int)).map PyData.int:=by rw [List.map_map]; rfl
 refine ⟨.fz (.int (Zqn (p.map fun x:Nat=>(x:Int)))),?_,by
  rw [Zpa ?_,List.length_map,OT.data_fz]
  rw [List.Nodup,List.pairwise_map]
  exact hp.imp fun z=>by omega⟩
 unfold Zkd
 rw [e1,Option.bind_some]
 dsimp only
 rw [d1]
 unfold lsN
 rw [em]
 show (Zpt _).bind _ = _
 rw [Zkn,Option.bind_some,if_pos (by rw [List.length_map]; omega)]
theorem Zpp {n:Nat} {R:Nat→Nat→Int} {p:List Nat} (h1:0 < p.length) (hp:p.Pairwise (· < ·)) (hb:∀ x ∈ p,x < n) (hl:p.length ≤ 1000):Told Zdh [Yv n R,lsN p] (.bool true):=by
 refine Jv rfl <| Znf (ds:=p.map fun x:Nat=>.int (x:Int)) (fun k δ=>∃ z,δ = [some (.fz (Yv n R)),some (.fz (lsN p)),z]) (Zaw Zc) ⟨none,rfl⟩ (fun k d δ hd q=>?_) fun δ' q=>?_
 ·obtain ⟨z,rfl⟩:=q
  rw [List.getElem?_map] at hd
  obtain ⟨x,hx,rfl⟩:=Option.map_eq_some_iff.mp hd
  exact ⟨_,_,rfl,.inl (J2 (Zne (Zj2 (Yr (Zd Zc (Zd Zc Zm)) (Zm2 (hb x (List.mem_of_getElem? hx)))))) rfl),_,rfl⟩
 ·obtain ⟨z,rfl⟩:=q
  exact Zbp (Zt9 (Zmb (Jc (Zd Zc Zm) (Zod p)) Yc (decide_eq_true (by omega))) (Zky (Zu5 rfl hp hl) (Jc (Zd Zc Zm) (Zod p)) (decide_eq_true rfl)))
theorem map_getD {α:Type} (p:List Nat) (f:Nat→α):p.map f = (List.range p.length).map fun i=>f (p.getD i 0):=by
 refine List.ext_getElem (by rw [List.length_map,List.length_map,List.length_range]) fun i h1 h2=>?_
 rw [List.length_map] at h1
 rw [List.getElem_map,List.getElem_map,List.getElem_range,List.getD_eq_getElem?_getD,List.getElem?_eq_getElem h1]; rfl
theorem Zo2 {n:Nat} {R:Nat→Nat→Int} {p:List Nat} (h1:0 < p.length) (hp:p.Pairwise (· < ·)) (hb:∀ x ∈ p,x < n) (hl:p.length ≤ 1000):Told Zae [Yv n R,lsN p] (Yv p.length (sb R p)):=by
 refine Jv rfl <| Jj (J2 (Zne (Zj2 (Yr (Zd Zc (Zd Zc Zm)) (Zpp h1 hp hb hl)))) rfl) (Jj Zk2 ?_)
 refine Znf (ds:=p.map fun x:Nat=>.int (x:Int)) (fun k δ=>∃ z,δ = [some (.fz (Yv n R)),some (.fz (lsN p)),some (.nd (((p.take k).map fun a=>PyData.list (p.map fun b=>.int (R a b))).map OT.fz)),z]) (Zaw Zc) ⟨none,rfl⟩ (fun k d δ hd q=>?_) fun δ' q=>?_
 ·obtain ⟨z,rfl⟩:=q
  rw [List.getElem?_map] at hd
  obtain ⟨a,ha,rfl⟩:=Option.map_eq_some_iff.mp hd
  have am:=hb a (List.mem_of_getElem? ha)
  refine ⟨_,_,rfl,.inl (Zq0 (d:=.list (p.map fun b=>.int (R a b))) (Zck (cs:=[some (.fz (Yv n R)),some (.fz (.int a))]) p (fun x:Nat=>PyData.int (x:Int)) _ (Zaw Zc) (by omega) rfl fun b hm=>Ztx Zc Zc Zc am (hb b hm)) rfl (by rw [List.length_map,List.length_map,List.length_take]; omega)),some (.fz (.int a)),?_⟩
  have tk:p.take (k + 1) = p.take k ++ [a]:=by rw [List.take_succ,ha]; rfl
  rw [tk,List.map_append,List.map_append]; rfl
 ·obtain ⟨z,rfl⟩:=q
  refine Z7x rfl ?_
  rw [List.length_map,List.take_length,OT.data_nd,OT.map_fz,map_getD]
  unfold Yv Zhh
  refine congrArg PyData.list (List.map_congr_left fun i _=>?_)
  rw [map_getD]; rfl
open Classical in
noncomputable def offB (R:Nat→Nat→Int) (p:List Nat):Bool:=!decide (EmM p.length (sb R p))
noncomputable def off (n:Nat) (R:Nat→Nat→Int):Option (List Nat):=(rs n 3 ++ rs n 4).find? (offB R)
noncomputable def Ztd:Option (List Nat)→PyData
 | some p=>tpN p
 | none=>.none
theorem Zqr {α:Type} {f:α→Bool} {l:List α} {k:Nat} {p:α} (h:l[k]? = some p) (h0:∀ q ∈ l.take k,f q = false) (h1:f p = true):l.find? f = some p:=by
 obtain ⟨hk,e⟩:=List.getElem?_eq_some_iff.mp h
 have:l = l.take k ++ p :: l.drop (k + 1):=by rw [← e,← List.drop_eq_getElem_cons hk,List.take_append_drop]
 rw [this,List.find?_append,List.find?_eq_none.mpr fun q hq=>by rw [h0 q hq]; exact Bool.false_ne_true,List.find?_cons,h1]; rfl
theorem Dg.sub {n:Nat} {R:Nat→Nat→Int} (d:Dg n R) {p:List Nat} (hb:∀ x ∈ p,x < n):Dg p.length (sb R p):=by
 have b:∀ i,i < p.length→p.getD i 0 < n:=fun i hi=>by
  rw [List.getD_eq_getElem?_getD,List.getElem?_eq_getElem hi]
  exact hb _ (List.getElem_mem hi)
 exact ⟨fun i j hi hj=>d.nn _ _ (b i hi) (b j hj),fun i hi=>d.dg _ (b i hi)⟩
open Classical in
theorem Z2k {n:Nat} {R:Nat→Nat→Int} (d:Dg n R) {p:List Nat} (h1:0 < p.length) (hp:p.Pairwise (· < ·)) (hb:∀ x ∈ p,x < n) (hl:p.length ≤ 1000) {δ:Zr} (e0:δ[0]? = some (some (.fz (Yv n R)))) (e2:δ[2]? = some (some (.fz (tpN p)))):EvT (tV (Zq gIs (Wc Jp (Ze (Wc Zae (Ze (Zk 0) (Ze (fBl Zrd (Ze (Zk 2) Zy)) Zy))) Zy)) (fC .none))) δ (offB R p):=by
 obtain ⟨f,hf⟩:=Zku h1 hl (d.sub hb)
 refine Zea (Zw (Yr (Zd (Yr (Zd (Zc e0) (Zd (Z3w (d:=lsN p) (Zd (Zc e2) Zm) (Zxo _) (by rw [OT.data_nd,OT.map_fz]; rfl)) Zm)) (Zo2 h1 hp hb hl)) Zm) hf) Yc ?_)
 rw [Zpg]
 unfold offB
 by_cases c:EmM p.length (sb R p)
 ·rw [if_pos c,decide_eq_true c]; rfl
 ·rw [if_neg c,decide_eq_false c]; rfl
theorem Zvb {n:Nat} {R:Nat→Nat→Int} (hn:n ≤ 10) (d:Dg n R):Told Ww [Yv n R] (Ztd (off n R)):=by
 have key:EpS J3 (Zep 3 [Yv n R]) (fun _=>False) fun e _=>e = Ztd (off n R):=by
  refine Zv (Wj (ds:=[.int (3:Nat),.int (4:Nat)]) (fun k δ=>∃ z1 z2,δ = [some (.fz (Yv n R)),z1,z2]∧(1 ≤ k→∀ q ∈ rs n 3,offB R q = false)∧(2 ≤ k→∀ q ∈ rs n 4,offB R q = false)) (Zwj (Zd2 (Zd Yc (Zd Yc Zm)) (show 2 ≤ 1000 by decide))) ⟨none,none,rfl,fun z=>by omega,fun z=>by omega⟩ (fun k e δ hd q=>?_) fun δ' q=>?_)
  ·obtain ⟨z1,z2,rfl,hk⟩:=q
   have ek:∃ m:Nat,e = .int m∧3 ≤ m∧m ≤ 4∧m = k + 3:=by
    rcases k with _ | _ | k
    ·exact ⟨3,(Option.some.inj hd).symm,by decide,by decide,rfl⟩
    ·exact ⟨4,(Option.some.inj hd).symm,by decide,by decide,rfl⟩
    ·cases hd
   obtain ⟨m,rfl,m3,m4,mk⟩:=ek
   have L:=Znx (k:=m) hn m4
   refine ⟨_,rfl,Wj (ds:=(rs n m).map tpN) (fun t δ=>∃ z2,δ = [some (.fz (Yv n R)),some (.fz (.int m)),z2]∧∀ q ∈ (rs n m).take t,offB R q = false) (Zaw (Yr (Zd (Jc (Zd Zc Zm) (Zdz n R)) (Zd Zc Zm)) (Zr5 hn m4))) ⟨z2,rfl,fun q m=>by cases m⟩ (fun t e δ hd q=>?_) fun δ' q=>?_⟩
   ·obtain ⟨z2,rfl,hz⟩:=q
    rw [List.getElem?_map] at hd
    obtain ⟨p,hp,rfl⟩:=Option.map_eq_some_iff.mp hd
    obtain ⟨p1,p2,p3,_⟩:=Zif (List.mem_of_getElem? hp)
    refine ⟨_,rfl,Zc8 (Wu (Z2k d (by omega) p2 p3 (by omega) rfl rfl) ⟨fun c=>?_,fun c=>?_⟩)⟩
    ·refine Jx (Z4 Zc ?_)
     have f:=Zqr hp hz c
     show tpN p = Ztd ((rs n 3 ++ rs n 4).find? (offB R))
     rw [List.find?_append]
     rcases Nat.lt_or_ge m 4 with e | e
     ·have:m = 3:=by omega
      subst this
      rw [f]; rfl
     ·have:m = 4:=by omega
      subst this
      rw [f,List.find?_eq_none.mpr fun q hq=>by rw [hk.1 (by omega) q hq]; exact Bool.false_ne_true]; rfl
    ·refine Zcm ⟨_,rfl,fun x hx=>?_⟩
     rw [List.take_succ,hp] at hx
     rcases List.mem_append.mp hx with hx | hx
     ·exact hz x hx
     ·have:x = p:=List.mem_singleton.mp hx
      subst this
      exact c
   ·obtain ⟨z2,rfl,hz⟩:=q
    rw [List.length_map,List.take_length] at hz
    refine ⟨_,_,rfl,fun h=>?_,fun h=>?_⟩
    ·rcases Nat.lt_or_ge m 4 with e | e
     ·have:m = 3:=by omega
      subst this
      exact hz
     ·exact hk.1 (by omega)
    ·have:m = 4:=by omega
     subst this
     exact hz
  ·obtain ⟨z1,z2,rfl,hk⟩:=q
   refine Jx (Z4 Yc ?_)
   show _ = Ztd ((rs n 3 ++ rs n 4).find? (offB R))
   rw [List.find?_eq_none.mpr fun q hq=>?_]; · rfl
   rcases List.mem_append.mp hq with m | m
   ·rw [hk.1 (by decide) q m]; exact Bool.false_ne_true
   ·rw [hk.2 (by decide) q m]; exact Bool.false_ne_true
 rcases key with ⟨_,_,z⟩ | ⟨o,δ',e,ed⟩
 ·exact z.elim
 ·exact ⟨o,by unfold Ww; rw [Zdo (np:=1) (by rfl),e,Zfn],ed⟩
open Classical in
theorem Zuc {n:Nat} {R:Nat→Nat→Int} (d:Dg n R) (h0:0 < n):off n R = none ↔ EmM n R:=by
 show (rs n 3 ++ rs n 4).find? (offB R) = none ↔ _
 rw [List.find?_eq_none]
 have bf:∀ p,¬ offB R p = true ↔ EmM p.length (sb R p):=fun p=>by
  unfold offB
  rw [Bool.not_eq_true,Bool.not_eq_false',decide_eq_true_iff]
 constructor
 ·intro h
  exact Z2s d (fun x y z h1 h2 h3=>(bf [x,y,z]).mp (h _ (List.mem_append_left _ (rs3 h1 h2 h3)))) (fun x y z w h1 h2 h3 h4=>(bf [x,y,z,w]).mp (h _ (List.mem_append_right _ (rs4 h1 h2 h3 h4)))) h0
 ·intro h p hp
  rw [bf]
  rcases List.mem_append.mp hp with m | m
  ·obtain ⟨_,p2,p3,_⟩:=Zif m
   exact Zwn h p2 p3
  ·obtain ⟨_,p2,p3,_⟩:=Zif m
   exact Zwn h p2 p3
theorem Zq7 {α β:Type} {l:List α} {f:α→List β} {k:Nat} {p:α} (h:l[k]? = some p):(l.take (k + 1)).flatMap f = (l.take k).flatMap f ++ f p∧((l.take k).flatMap f).length + (f p).length ≤ (l.flatMap f).length:=by
 have e:(l.take (k + 1)).flatMap f = (l.take k).flatMap f ++ f p:=by
  rw [List.take_succ,h,List.flatMap_append]
  show _ ++ [p].flatMap f = _
  rw [List.flatMap_cons,List.flatMap_nil,List.append_nil]
 refine ⟨e,?_⟩
 have:(l.take (k + 1)).flatMap f ++ (l.drop (k + 1)).flatMap f = l.flatMap f:=by rw [← List.flatMap_append,List.take_append_drop]
 have:=congrArg List.length this
 rw [List.length_append,e,List.length_append] at this
 omega
noncomputable def sm (n:Nat):List (Nat × Nat):=(List.range n).flatMap fun b=>(List.range b).map fun a=>(a,b)
noncomputable def lt9 (n i j:Nat):Bool:=match (sm n)[i]?,(sm n)[j]? with
 | some p,some q=>ltP ((p.1:Nat),(p.2:Nat)) ((q.1:Nat),(q.2:Nat))
 | _,_=>false
noncomputable def sl9 (n:Nat):List (Nat × Nat):=if (sm n).length < 2 then sm n else (Zxm (lt9 n) (sm n).length).map fun i=>(sm n).getD i (0,0)
noncomputable def e3 (n:Nat) (p:Nat × Nat):List (List Nat):=(List.range (n - (p.2 + 1))).map fun c=>[p.1,p.2,p.2 + 1 + c]
theorem Zjj {n:Nat} (hn:n ≤ 10):sl9 n = Zcr n∧(Zcr n).flatMap (e3 n) = rs n 3∧(sm n).length < 64:=by
 have:∀ m:Fin 11,sl9 m = Zcr m∧(Zcr m).flatMap (e3 m) = rs m 3∧(sm m).length < 64:=by decide +kernel
 exact this ⟨n,by omega⟩
theorem Z6v (n:Nat):lk kdP ltP ((sm n).map ptD) = lt9 n:=by
 funext i j
 have g:∀ i,kdP (((sm n).map ptD).getD i .none) = (sm n)[i]?.map fun p=>((p.1:Int),(p.2:Int)):=fun i=>by
  rw [List.getD_eq_getElem?_getD,List.getElem?_map]
  cases (sm n)[i]? <;> rfl
 unfold lk lt9
 rw [g,g]
 cases (sm n)[i]? <;> cases (sm n)[j]? <;> rfl
theorem Zyc {n:Nat} (hn:n ≤ 10):Zn9 kdP ltP [.list ((sm n).map ptD)] = some (.nd (((Zcr n).map ptD).map OT.fz)):=by
 obtain ⟨h1,_,h3⟩:=Zjj hn
 have al:(((sm n).map ptD).all fun d=>(kdP d).isSome) = true:=by
  rw [List.all_eq_true]
  intro d hd
  obtain ⟨p,_,rfl⟩:=List.mem_map.mp hd
  rfl
 show (if (decide (((sm n).map ptD).length < 64) && ((sm n).map ptD).all fun d=>(kdP d).isSome) = true then some (OT.nd ((sLay .none (lk kdP ltP ((sm n).map ptD)) ((sm n).map ptD)).map OT.fz)) else none) = _
 rw [if_pos (by rw [al,decide_eq_true (by rw [List.length_map]; exact h3)]; rfl),Z6v,← h1]
 congr 3
 unfold sLay sl9
 rw [List.length_map]
 by_cases c:(sm n).length < 2
 ·rw [if_pos c,if_pos c]
 ·rw [if_neg c,if_neg c,List.map_map]
  refine List.map_congr_left fun i hi=>?_
  have:=List.mem_range.mp ((Zhy (by omega)).mem_iff.mp hi)
  show _ = ptD ((sm n).getD i (0,0))
  rw [List.getD_eq_getElem?_getD,List.getD_eq_getElem?_getD,List.getElem?_map,List.getElem?_eq_getElem this]; rfl
theorem Z1o {n:Nat} {p:List Nat} (hb:∀ x ∈ p,x < n) (hl:p.length ≤ 1000):Pts n p (tpN p) where
 ix:=fun i hi=>by
  unfold tpN
  rw [Z3p,Zn3,List.getElem?_map,List.getD_eq_getElem?_getD,List.getElem?_eq_getElem hi]; rfl
 ln:=by unfold tpN; rw [Zno,List.length_map]
 lt:=fun i hi=>by
  rw [List.getD_eq_getElem?_getD,List.getElem?_eq_getElem hi]
  exact hb _ (List.getElem_mem hi)
 sm:=hl
noncomputable def bE (n:Nat) (R:Nat→Nat→Int) (s:List PyData) (z3 z4 z5 z6 z7 z8:Option OT):Zr:=[some (.fz (Yv n R)),some (.fz (.int n)),some (.fz (.list s)),z3,z4,z5,z6,z7,z8]
open Classical in
theorem Zzj {n:Nat} {R:Nat→Nat→Int} (hn:n ≤ 10) (d:Dg n R):Told Za9 [Yv n R] (Ztd (off n R)):=by
 obtain ⟨_,h2,h3⟩:=Zjj hn
 have L3:=Znx (k:=3) hn (by decide)
 have L4:=Znx (k:=4) hn (by decide)
 have key:EpS Zc2 (Zep 9 [Yv n R]) (fun _=>False) fun e _=>e = Ztd (off n R):=by
  refine Zv (Y8 (Yp (Jc (Zd Zc Zm) (Zdz n R))) ?_)
  refine Zv (Y8 (Yp (d:=.list []) (Zat Zm (show 0 ≤ 1000 by decide))) ?_)
  refine Zv (Wj (ds:=Zc4 0 n) (fun k δ=>∃ z3,δ = bE n R ((sm k).map ptD) z3 none none none none none) (Zcs (Zd Zc Zm) (by omega)) ⟨none,rfl⟩ (fun k e δ hd q=>?_) fun δ' q=>?_)
  ·obtain ⟨z3,rfl⟩:=q
   obtain ⟨hk,rfl⟩:=Wh hd
   rw [Int.zero_add]
   have hk':(sm k).length < 64:=(Zjj (n:=k) (by omega)).2.2
   refine ⟨_,rfl,Y8 (Yp (d:=.list ((sm (k + 1)).map ptD)) ?_) ⟨_,rfl⟩⟩
   have es:sm (k + 1) = sm k ++ (List.range k).map fun a=>(a,k):=by
    unfold sm
    rw [List.range_succ,List.flatMap_append,List.flatMap_cons,List.flatMap_nil,List.append_nil]
   rw [es,List.map_append]
   refine Zhm Zc ((Zck (cs:=[some (.fz (.int k))]) (List.range k) (fun a:Nat=>PyData.int (0 + (a:Int))) (fun a=>ptD (a,k)) (Zcs (Zd Zc Zm) (by omega)) (by rw [List.length_range]; omega) rfl fun a _=>?_).cast (by rw [List.map_map]; rfl)) (by rw [List.length_map,List.length_map,List.length_map,List.length_range]; omega)
   rw [Int.zero_add]
   exact Zd2 (Zd Zc (Zd Zc Zm)) (show 2 ≤ 1000 by decide)
  obtain ⟨z3,rfl⟩:=q
  rw [Yb]
  refine Zv (Y8 (Yp (d:=.list []) (Zat Zm (show 0 ≤ 1000 by decide))) ?_)
  refine Zv (Wj (ds:=(Zcr n).map ptD) (fun k δ=>∃ z3 z5,δ = bE n R ((sm n).map ptD) z3 (some (.fz (.list ((((Zcr n).take k).flatMap (e3 n)).map tpN)))) z5 none none none) (Zaw (Z3w (Zd Zc Zm) (Zyc hn) (by rw [OT.data_nd,OT.map_fz]))) ⟨z3,none,rfl⟩ (fun k e δ hd q=>?_) fun δ' q=>?_)
  ·obtain ⟨z3,z5,rfl⟩:=q
   rw [List.getElem?_map] at hd
   obtain ⟨p,hp,rfl⟩:=Option.map_eq_some_iff.mp hd
   obtain ⟨m1,m2⟩:=Zio (List.mem_of_getElem? hp)
   obtain ⟨f1,f2⟩:=Zq7 (f:=e3 n) hp
   rw [h2] at f2
   refine ⟨_,rfl,Y8 (Yp (d:=.list ((((Zcr n).take (k + 1)).flatMap (e3 n)).map tpN)) ?_) ⟨_,_,rfl⟩⟩
   rw [f1,List.map_append]
   refine Zhm Zc ((Zck (cs:=[some (.fz (.int p.1)),some (.fz (.int p.2))]) (List.range (n - (p.2 + 1))) (fun c:Nat=>PyData.int ((p.2 + 1:Nat) + (c:Int))) (fun c=>tpN [p.1,p.2,p.2 + 1 + c]) (Zqp (m:=p.2 + 1) (n:=n) (Zd ((Zaf Zc Yc).cast rfl) (Zd Zc Zm)) (by omega) (by omega)) (by rw [List.length_range]; omega) rfl fun c _=>?_).cast (by unfold e3; rw [List.map_map]; rfl)) (by rw [List.length_map,List.length_map]; omega)
   exact Zd2 (Zd Zc (Zd Zc (Zd Zc Zm))) (show 3 ≤ 1000 by decide)
  obtain ⟨z3,z5,rfl⟩:=q
  rw [List.length_map,List.take_length,h2]
  refine Zv (Y8 (Yp (d:=.list []) (Zat Zm (show 0 ≤ 1000 by decide))) ?_)
  refine Zv (Wj (ds:=(rs n 3).map tpN) (fun k δ=>∃ z3 z5 z7,δ = bE n R ((sm n).map ptD) z3 (some (.fz (.list ((rs n 3).map tpN)))) z5 (some (.fz (.list ((((rs n 3).take k).flatMap (ext n)).map tpN)))) z7 none) (Zaw Zc) ⟨z3,z5,none,rfl⟩ (fun k e δ hd q=>?_) fun δ' q=>?_)
  ·obtain ⟨z3,z5,z7,rfl⟩:=q
   rw [List.getElem?_map] at hd
   obtain ⟨p,hp,rfl⟩:=Option.map_eq_some_iff.mp hd
   obtain ⟨p1,p2,p3,_⟩:=Zif (List.mem_of_getElem? hp)
   obtain ⟨f1,f2⟩:=Zq7 (f:=ext n) hp
   have f2:_ ≤ (rs n 4).length:=f2
   obtain ⟨a,b,c,rfl⟩:∃ a b c,p = [a,b,c]:=by
    rcases p with _ | ⟨a,_ | ⟨b,_ | ⟨c,_ | _⟩⟩⟩
    ·exact absurd (show 0 = 3 from p1) (by decide)
    ·exact absurd (show 1 = 3 from p1) (by decide)
    ·exact absurd (show 2 = 3 from p1) (by decide)
    ·exact ⟨a,b,c,rfl⟩
    ·exact absurd p1 (by simp only [List.length_cons]; omega)
   have hc:=p3 c (.tail _ (.tail _ (.head _)))
   refine ⟨_,rfl,Y8 (Yp (d:=.list ((((rs n 3).take (k + 1)).flatMap (ext n)).map tpN)) ?_) ⟨_,_,_,rfl⟩⟩
   rw [f1,List.map_append]
   refine Zhm Zc ((Zck (cs:=[some (.fz (.int a)),some (.fz (.int b)),some (.fz (.int c))]) (List.range (n - (c + 1))) (fun e:Nat=>PyData.int ((c + 1:Nat) + (e:Int))) (fun e=>tpN [a,b,c,c + 1 + e]) (Zqp (m:=c + 1) (n:=n) (Zd ((Zaf Zc Yc).cast rfl) (Zd Zc Zm)) (by omega) (by omega)) (by rw [List.length_range]; omega) rfl fun e _=>?_).cast (by unfold ext; rw [List.map_map]; rfl)) (by rw [List.length_map,List.length_map]; omega)
   exact Zd2 (Zd Zc (Zd Zc (Zd Zc (Zd Zc Zm)))) (show 4 ≤ 1000 by decide)
  obtain ⟨z3,z5,z7,rfl⟩:=q
  rw [List.length_map,List.take_length,show (rs n 3).flatMap (ext n) = rs n 4 from rfl]
  refine Zv (Wj (ds:=(rs n 3 ++ rs n 4).map tpN) (fun k δ=>∃ z8,δ = bE n R ((sm n).map ptD) z3 (some (.fz (.list ((rs n 3).map tpN)))) z5 (some (.fz (.list ((rs n 4).map tpN)))) z7 z8∧∀ q ∈ (rs n 3 ++ rs n 4).take k,offB R q = false) (Zaw ((Zhm Zc Zc (by rw [List.length_map,List.length_map]; omega)).cast (by rw [List.map_append]))) ⟨none,rfl,fun q m=>by cases m⟩ (fun k e δ hd q=>?_) fun δ' q=>?_)
  ·obtain ⟨z8,rfl,hz⟩:=q
   rw [List.getElem?_map] at hd
   obtain ⟨p,hp,rfl⟩:=Option.map_eq_some_iff.mp hd
   have pk:p.length ≤ 4∧1 ≤ p.length∧∀ x ∈ p,x < n:=by
    rcases List.mem_append.mp (List.mem_of_getElem? hp) with m | m
    ·obtain ⟨p1,_,p3,_⟩:=Zif m
     exact ⟨by omega,by omega,p3⟩
    ·obtain ⟨p1,_,p3,_⟩:=Zif m
     exact ⟨by omega,by omega,p3⟩
   obtain ⟨pl,hpl⟩:=Zi3 (R:=R) (Z1o pk.2.2 (by omega)) pk.2.1 d.nn
   have tst:EvT (tV (Zq gIs (Wc Yx (Ze (Zk 0) (Ze (Zk 8) Zy))) (fC .none))) (bE n R ((sm n).map ptD) z3 (some (.fz (.list ((rs n 3).map tpN)))) z5 (some (.fz (.list ((rs n 4).map tpN)))) z7 (some (.fz (tpN p)))) (offB R p):=by
    refine Zea (Zw (Yr (Zd Zc (Zd Zc Zm)) hpl) Yc ?_)
    rw [Zpg]
    unfold offB
    by_cases c:EmM p.length (sb R p)
    ·rw [if_pos c,decide_eq_true c]; rfl
    ·rw [if_neg c,decide_eq_false c]; rfl
   refine ⟨_,rfl,Zc8 (Wu tst ⟨fun c=>?_,fun c=>?_⟩)⟩
   ·refine Jx (Z4 Zc ?_)
    show tpN p = Ztd ((rs n 3 ++ rs n 4).find? (offB R))
    rw [Zqr hp hz c]; rfl
   ·refine Zcm ⟨_,rfl,fun x hx=>?_⟩
    rw [List.take_succ,hp] at hx
    rcases List.mem_append.mp hx with hx | hx
    ·exact hz x hx
    ·have:x = p:=List.mem_singleton.mp hx
     subst this
     exact c
  ·obtain ⟨z8,rfl,hz⟩:=q
   rw [List.length_map,List.take_length] at hz
   refine Jx (Z4 Yc ?_)
   show _ = Ztd ((rs n 3 ++ rs n 4).find? (offB R))
   rw [List.find?_eq_none.mpr fun q hq=>by rw [hz q hq]; exact Bool.false_ne_true]; rfl
 rcases key with ⟨_,_,z⟩ | ⟨o,δ',e,ed⟩
 ·exact z.elim
 ·exact ⟨o,by unfold Za9; rw [Zdo (np:=1) (by rfl),e,Zfn],ed⟩
theorem Zzy {as:FA} {δ:Zr} {ds:List PyData} (h:EvA as δ ds) (hl:ds.length ≤ 1000):EvV (Zug as) δ (.tuple ds):=by
 obtain ⟨ts,e1,e2⟩:=h
 refine ⟨.tp ts,?_,by rw [OT.data_tp,← datas_map,e2]⟩
 have:ts.length = ds.length:=by rw [← e2,Zds]
 rw [Zvg,e1]
 show (if ts.length ≤ sizeLine then _ else _) = _
 rw [if_pos (by rw [sizeLine_eq]; omega)]
theorem Zxx {t b:Int} (hb:b ≠ 0):((Rat.divInt t b).den:Int) ∣ b:=by
 rw [Rat.den_divInt,if_neg hb]
 have:(b.natAbs / b.gcd t:Nat) ∣ b.natAbs:=Nat.div_dvd_of_dvd (by rw [Int.gcd_eq_natAbs_gcd_natAbs]; exact Nat.gcd_dvd_left ..)
 exact Int.ofNat_dvd_left.mpr this
noncomputable def Zka (n:Nat) (R:Nat→Nat→Int) (b:Int):List (List Rat):=(List.range n).map fun i=>(List.range n).map fun j=>Rat.divInt (R i j) b
theorem Zu9 (n:Nat) (R:Nat→Nat→Int) (b:Int):(Zka n R b).length = n:=by unfold Zka; rw [List.length_map,List.length_range]
theorem Zlq {n:Nat} (hn:n ≤ 10) (R:Nat→Nat→Int) {b:Int} (hb:0 < b) (bb:Bt 300 b):Told Jl [Yv n R,.int b] (tbD (Zka n R b)):=by
 have e:tbD (Zka n R b) = .list ((List.range n).map fun i=>.list ((List.range n).map fun j=>frD (Rat.divInt (R i j) b))):=by
  unfold tbD Zka
  rw [List.map_map]
  refine congrArg PyData.list (List.map_congr_left fun i _=>?_)
  show Zlt _ = _
  unfold Zlt
  rw [List.map_map]; rfl
 rw [e]
 exact Jv rfl <| Zbp <| Zck (cs:=[some (.fz (.int b))]) (List.range n) (fun i=>Zhh n (R i)) (fun i=>.list ((List.range n).map fun j=>frD (Rat.divInt (R i j) b))) (Zaw Zc) (by rw [List.length_range]; omega) rfl fun i _ =>
  Zck (cs:=[some (.fz (.int b))]) (List.range n) (fun j=>.int (R i j)) (fun j=>frD (Rat.divInt (R i j) b)) (Zaw Zc) (by rw [List.length_range]; omega) rfl fun j _=>Yr (Zd Zc (Zd Zc Zm)) (Zhk hb bb)
theorem Zs6 {α:Type} {f g:α→Bool}:∀ {l:List α},(∀ x ∈ l,f x = g x)→l.find? f = l.find? g
 | [],_=>rfl
 | x :: l,h=>by rw [List.find?_cons,List.find?_cons,h x (.head _),Zs6 fun y m=>h y (.tail _ m)]
open Classical in
theorem Zs9 {n:Nat} {S R:Nat→Nat→Int} {k:Int} (hk:0 < k) (d:Dg n S) (e:∀ i j,i < n→j < n→k * S i j = R i j):off n S = off n R:=by
 refine Zs6 fun p hp=>?_
 have pk:1 ≤ p.length∧∀ x ∈ p,x < n:=by
  rcases List.mem_append.mp hp with m | m
  ·obtain ⟨p1,_,p3,_⟩:=Zif m
   exact ⟨by omega,p3⟩
  ·obtain ⟨p1,_,p3,_⟩:=Zif m
   exact ⟨by omega,p3⟩
 have b:∀ i,i < p.length→p.getD i 0 < n:=fun i hi=>by
  rw [List.getD_eq_getElem?_getD,List.getElem?_eq_getElem hi]
  exact pk.2 _ (List.getElem_mem hi)
 unfold offB
 rw [decide_eq_decide.mpr (Zok hk (d.sub pk.2) (R:=sb R p) (fun i j hi hj=>e _ _ (b i hi) (b j hj)) pk.1)]
open Classical in
theorem Zyq {n:Nat} {R:Nat→Nat→Int} {b:Int} (h0:0 < n) (hn:n ≤ 10) (d:Dg n R) (hb:0 < b) (bb:Bt 300 b) (bR:∀ i j,i < n→j < n→Bt 300 (R i j)) :
  ∃ tl:List PyData,Told Zbt [tbD (Zka n R b)] (if EmM n R then .tuple [.str "line", .list tl] else .tuple [.str "bars", Ztd (off n R)]):=by
 have hz:∀ r ∈ Zka n R b,r.length ≤ 1000:=fun r hr=>by
  unfold Zka at hr
  obtain ⟨x,_,rfl⟩:=List.mem_map.mp hr
  rw [List.length_map,List.length_range]; omega
 have hB:Z0q (Zka n R b) b:=fun r hr q hq=>by
  unfold Zka at hr
  obtain ⟨x,_,rfl⟩:=List.mem_map.mp hr
  obtain ⟨y,_,rfl⟩:=List.mem_map.mp hq
  exact Zxx (by omega)
 have hN:∀ r ∈ Zka n R b,∀ q ∈ r,Bt 300 q.num:=fun r hr q hq=>by
  unfold Zka at hr
  obtain ⟨x,hx,rfl⟩:=List.mem_map.mp hr
  obtain ⟨y,hy,rfl⟩:=List.mem_map.mp hq
  exact Z3i (by omega) (bR x y (List.mem_range.mp hx) (List.mem_range.mp hy))
 obtain ⟨m,e1,m0,hm,k,rfl⟩:=Zhc hb bb (by decide) (Zka n R b) hz hB
 have k0:0 < k:=by
  by_cases c:0 < k
  ·exact c
  ·have:=Int.mul_nonpos_of_nonneg_of_nonpos (a:=m) (b:=k) (by omega) (by omega)
   omega
 have bm:Bt 300 m:=Zkz hb ⟨k,rfl⟩ bb
 have e2:=Zjk m0 bm (Zka n R (m * k)) (by rw [Zu9]; omega) hz hm hN
 obtain ⟨S,hS⟩:∃ S:Nat→Nat→Int,S = fun i j=>scI m (Rat.divInt (R i j) (m * k)):=⟨_,rfl⟩
 have sc:∀ x y,x < n→y < n→k * S x y = R x y:=fun x y hx hy=>by
  have hd:((Rat.divInt (R x y) (m * k)).den:Int) ∣ m:=hm _ (List.mem_map.mpr ⟨x,List.mem_range.mpr hx,rfl⟩) _ (List.mem_map.mpr ⟨y,List.mem_range.mpr hy,rfl⟩)
  have:=Z18 hd
  rw [hS]
  have e:((k * scI m (Rat.divInt (R x y) (m * k)):Int):Rat) = ((R x y:Int):Rat):=by
   have nk:((k:Int):Rat) ≠ 0:=by
    intro z
    have:k = 0:=by exact_mod_cast z
    omega
   have nm:((m:Int):Rat) ≠ 0:=by
    intro z
    have:m = 0:=by exact_mod_cast z
    omega
   rw [Rat.intCast_mul,this,Rat.divInt_eq_div,Rat.intCast_mul]
   rw [Rat.mul_comm,Rat.mul_assoc]
   exact Rat.div_mul_cancel (fun z=>(Rat.mul_eq_zero.mp z).elim nm nk)
  exact_mod_cast e
 have er:PyData.list ((Zka n R (m * k)).map fun r=>.list (r.map fun q=>.int (scI m q))) = Yv n S:=by
  rw [hS]
  unfold Zka Yv
  rw [List.map_map]
  refine congrArg PyData.list (List.map_congr_left fun i _=>?_)
  show PyData.list _ = Zhh _ _
  rw [List.map_map]; rfl
 rw [er] at e2
 clear hS er
 have dS:Dg n S:=⟨fun i j hi hj=>by
  have h:=d.nn i j hi hj
  rw [← sc i j hi hj] at h
  exact Int.not_lt.mp fun z=>by have:=Int.mul_neg_of_pos_of_neg k0 z; omega,fun i hi=>by
  have h:=d.dg i hi
  rw [← sc i i hi hi] at h
  exact (Int.mul_eq_zero.mp h).resolve_left (by omega)⟩
 obtain ⟨f,e3⟩:=Zku (S:=S) h0 (by omega) dS
 have iff:=Zok k0 dS sc h0
 refine ⟨(List.range n).map fun i=>frD (Rat.divInt (f i) m),?_⟩
 refine Jv rfl <| Jj (Yp (Yr (Zd Zc Zm) e1)) <| Jj (Yp (Yr (Zd Zc (Zd Zc Zm)) e2)) <| Jj (Yp (Yr (Zd Zc Zm) e3)) ?_
 by_cases c:EmM n R
 ·rw [if_pos c,if_pos (iff.mpr c)]
  refine Jj (J2 (Zea (Zw Zc Yc (Zpg _))) rfl) (Zbp (Zzy (Zd Yc (Zd ?_ Zm)) (show 2 ≤ 1000 by decide)))
  exact Zck (cs:=[some (.fz (.int m))]) (List.range n) (fun i=>.int (f i)) (fun i=>frD (Rat.divInt (f i) m)) (Zaw Zc) (by rw [List.length_range]; omega) rfl fun i _=>Yr (Zd Zc (Zd Zc Zm)) (Zmo (by omega) bm)
 ·rw [if_neg c,if_neg fun z=>c (iff.mp z),← Zs9 k0 dS sc]
  exact Zn0 (Zqx (Zea (Zw Zc Yc (Zpg _))) (Zbp (Zd2 (Zd Yc (Zd (Yr (Zd Zc Zm) (Zvb hn dS)) Zm)) (show 2 ≤ 1000 by decide))))
theorem Zqo {F:FD} {as:FA} {δ:Zr} {i:Nat} {N:Zr→Prop} {R:PyData→Zr→Prop} (h:EpA as δ fun ds δ1=>∃ o,F ds = .ok o∧N (δ1.set i (some o))):EpS (wE (Wc F as) (Zdr i)) δ N R:=by
 obtain ⟨ts,δ1,e1,o,e2,q⟩:=h
 exact Zg5 (by rw [Zkg,e1]; show okO (F _) _ = _; rw [e2]; rfl) q
theorem Zn4 {α:Type} {caps:List Nat} {it:FI} {me:FE} {cs:Zr} {δ:Zr} (xs:List α) (mk f:α→PyData) (hi:EvI it δ (xs.map mk)) (hz:xs.length ≤ 1000000) (hb:blk 1 caps δ = none :: cs) (hf:∀ x ∈ xs,Zc5 (mk x) = true) (h:∀ x ∈ xs,EvV me (some (.fz (mk x)) :: cs) (f x)):EvV (Jw 1 caps it (Zp3 0) Zem me) δ (.list (xs.map f)):=by
 have g:∀ x,∃ o:OT,x ∈ xs→me (some (.fz (mk x)) :: cs) = some (o,some (.fz (mk x)) :: cs)∧o.data = f x:=fun x=>by
  by_cases c:x ∈ xs
  ·obtain ⟨o,h1,h2⟩:=h x c
   exact ⟨o,fun _=>⟨h1,h2⟩⟩
  ·exact ⟨.fz .none,fun z=>absurd z c⟩
 obtain ⟨o,ho⟩:=Classical.axiomOfChoice g
 unfold EvI at hi
 have e:=Zpq (t:=Zem) (cs:=cs) xs mk (fun _=>true) o hi (by rw [sizeLine_eq]; omega) hb (fun x hx=>⟨hf x hx,rfl⟩) (fun x hx _=>(ho x hx).1)
 refine ⟨_,e,?_⟩
 rw [List.filter_eq_self.mpr fun _ _=>rfl,OT.data_nd,List.map_map]
 exact congrArg _ (List.map_congr_left fun x hx=>(ho x hx).2)
theorem Zum (p:List Int):Zdx p = Zhh p.length fun i=>p.getD i 0:=by
 unfold Zdx Zhh
 refine congrArg PyData.list (List.ext_getElem (by rw [List.length_map,List.length_map,List.length_range]) fun i h1 h2=>?_)
 rw [List.length_map] at h1
 rw [List.getElem_map,List.getElem_map,List.getElem_range]
 show _ = PyData.int (p.getD i 0)
 rw [List.getD_eq_getElem?_getD,List.getElem?_eq_getElem h1]; rfl
theorem Zux {n:Nat} (hn:n ≤ 10) (f:Nat→Int):Ji [Zhh n f] = .ok (Wl n (inG fun i j=>((f i - f j).natAbs:Int))):=by
 have e:(Jw 1 [0] (Zga (Zk 0)) (gNm 0) Zem (Jw 1 [0] (Zga (Zk 1)) (gNm 0) Zem (Zdq Zl9 (Ze (Zq gSb (Zk 1) (Zk 0)) Zy)))) [some (.fz (Zhh n f))] = some (Wl n (inG fun i j=>((f i - f j).natAbs:Int)),[some (.fz (Zhh n f))]) :=
  Zfx (cs:=[some (.fz (Zhh n f))]) (List.range n) (fun i:Nat=>PyData.int (f i)) (fun i=>.nd ((List.range n).map fun j=>.fz (inG (fun i j=>((f i - f j).natAbs:Int)) i j))) rfl (by rw [List.length_range,sizeLine_eq]; omega) rfl fun i _ =>
   Zfx (cs:=[some (.fz (.int (f i)))]) (List.range n) (fun i:Nat=>PyData.int (f i)) (fun j=>.fz (inG (fun i j=>((f i - f j).natAbs:Int)) i j)) rfl (by rw [List.length_range,sizeLine_eq]; omega) rfl fun j _=>Zr7 (Jc (Zd (Ziw Zc Zc) Zm) (Zfv _))
 unfold Ji
 rw [Zdo (by rfl)]
 unfold Zbw
 show RS.told (wE _ Zar [some (.fz (Zhh n f))]) = _
 rw [Zel,e]; rfl
theorem Zoy {n:Nat} (hn:n ≤ 10) {P:Int} (hP:P = 100000000000000000000) (x:Int):ToldI J8 (dk x) [.int n] fun d t'=>∃ (f:Nat→Int) (x':Int),d = Zhh n f∧(∀ i,i < n→-P ≤ f i∧f i ≤ P)∧t' = dk x':=by
 refine Zda rfl (Zv (Zbn (Zia (Z4 (Zat (Zd Yc (Zd Yc (Zd (Zw Yc Yc Z41) Zm))) (show 3 ≤ 1000 by decide)) (W7 rfl (Zd Yc Zm) (by decide) (btc (by decide +kernel) (by decide +kernel)) fun r x1 r0 r1=>?_)))))
 obtain ⟨far,em,m0,m1⟩:=Zz4 (a:=4) (b:=9) (c:=100000000000000000000) (lo:=1) (hi:=P) (by rw [hP]; decide +kernel) (by rw [hP]; decide +kernel) (by rw [hP]; decide +kernel) r0 r1
 refine ⟨_,em,?_⟩
 rw [OT.data_fz]
 have bm:Bt 400 (2 * far + 1):=Zly (m:=70) (by omega) (Int.le_trans (show 2 * far + 1 ≤ 2 * P + 1 by omega) (by rw [hP]; decide +kernel)) (by decide)
 obtain ⟨ts,t',δ',e,⟨z,x2,c,rfl,hc,hl,hb⟩,e3⟩:=Z44 (t:=Zem) (e:=Zq gSb (Yh 1 Zj (Ze (Zq Zc6 (Zq Zic (fC (.int 2)) (Zk 2)) (fC (.int 1))) Zy)) (Zk 2)) (g:=gNm 0) (it:=iRa (Ze (Zk 1) Zy)) (δ:=[some (dk x1),some (.fz (.int n)),some (.fz (.int far))]) (caps:=[0,2]) (n:=1) (o:=0) (q:=1) (ds:=Zc4 0 n) (t0:=dk x1)
  (fun k acc δ=>∃ z x2 c,δ = [z,some (dk x2),some (.fz (.int far))]∧acc = c.map PyData.int∧c.length = k∧∀ v ∈ c,-P ≤ v∧v ≤ P) (Zcs (Zd Zc Zm) (by omega)) (by rw [Yb]; omega) (by rfl) rfl ⟨none,x1,[],rfl,rfl,rfl,fun v m=>nomatch m⟩ (fun k d acc δ hd q=>by
   obtain ⟨z,x2,c,rfl,rfl,hl,hb⟩:=q
   refine ⟨_,rfl,Wu (show EvT Zem _ true from rfl) ⟨fun _=>Zdg (W7 rfl (Zd (Zaf (Zzm Yc Zc) Yc) Zm) (by omega) bm fun r x3 q0 q1=>Z4 Zc ⟨_,Z26 _ _,_,x3,c ++ [r - far],rfl,by rw [List.map_append]; rfl,by rw [List.length_append,hl]; rfl,fun v hv=>?_⟩),fun z=>nomatch z⟩⟩
   rcases List.mem_append.mp hv with h | h
   ·exact hb v h
   ·rw [List.mem_singleton.mp h]; omega) fun acc δ' q=>by obtain ⟨z,x2,c,rfl,_⟩:=q; exact ⟨_,rfl⟩
 cases e3
 rw [Yb] at hl
 refine Jx ⟨_,_,e,dk x2,rfl,fun i=>c.getD i 0,x2,?_,fun i hi=>?_,rfl⟩
 ·rw [OT.data_nd,hc,← hl]; exact Zum c
 ·show -P ≤ c.getD i 0∧c.getD i 0 ≤ P
  rw [List.getD_eq_getElem?_getD,List.getElem?_eq_getElem (by omega)]
  exact hb _ (List.getElem_mem (by omega))
theorem Zy2 {i:Nat} {as:FA} {δ:Zr} {ts0:List OT} {N:Zr→Prop} {R:PyData→Zr→Prop} (h0:δ[i]? = some (some (.nd ts0))) (h:EpA as δ fun ds δ1=>∃ k d ts,ds = [.int k,d]∧δ1[i]? = some (some (.nd ts))∧0 ≤ k∧k ≤ ts.length∧ts.length ≤ 1000∧N (δ1.set i (some (.nd (Zmq ts k.toNat (.fz d)))))):EpS (Zhd i as) δ N R:=by
 obtain ⟨rs,δ1,e1,k,d,ts,e2,e3,k0,k1,k2,q⟩:=h
 refine .inl ⟨_,?_,q⟩
 unfold Zhd
 rw [h0]
 dsimp only
 rw [e1]
 dsimp only
 rw [e2,e3]
 dsimp only
 rw [if_pos ⟨k0,k1,by rw [sizeLine_eq]; omega⟩]
noncomputable def sq (o t:Int) (i j:Nat):Int:=if i = j then 0 else if i + j = 1∨i + j = 5 then o else if i + j = 3 then t else o + t
noncomputable def ndN (l:List Nat):OT:=.nd (l.map fun x:Nat=>.fz (.int (x:Int)))
theorem Zn1 (l:List Nat):(ndN l).data = lsN l:=by
 unfold ndN lsN
 rw [OT.data_nd,List.map_map]; rfl
theorem Z3t (l:List Nat) (k v:Nat):Zmq (l.map fun x:Nat=>OT.fz (.int (x:Int))) k (.fz (.int (v:Int))) = (Zmq l k v).map fun x:Nat=>OT.fz (.int (x:Int)):=by
 unfold Zmq
 rw [List.map_append,List.map_cons,List.map_take,List.map_drop]
theorem Zzz {n:Nat} (hn:n ≤ 10) (x:Int):ToldI Zci (dk x) [.int n] fun d t'=>∃ R x',d = Yv n R∧Dg n R∧(∀ i j,i < n→j < n→Bt 300 (R i j))∧t' = dk x':=by
 refine Zda rfl (Zv (Zbn (Zdg (Z4 Yc (W7 rfl (Zd Yc Zm) (by decide) (btc (by decide +kernel) (by decide +kernel)) fun r x1 r0 r1=>⟨_,Zl3 _ _,?_⟩)))))
 refine Zv (Zbn (Zdg (Z4 Yc (W7 rfl (Zd Yc Zm) (by decide) (btc (by decide +kernel) (by decide +kernel)) fun r' x2 q0 q1=>⟨_,Zl3 _ _,?_⟩))))
 have o1:1 ≤ 1 + r∧1 + r ≤ 5:=by omega
 have t1:1 ≤ 1 + r'∧1 + r' ≤ 5:=by omega
 generalize 1 + r = o at o1 ⊢
 generalize 1 + r' = t at t1 ⊢
 refine Zv (Y8 (Yp (d:=.list [.list [.int 0,.int o,.int (o + t),.int t],.list [.int o,.int 0,.int t,.int (o + t)]]) (Zat (Zd (Zat (Zd Yc (Zd Zc (Zd (Zaf Zc Zc) (Zd Zc Zm)))) (show 4 ≤ 1000 by decide)) (Zd (Zat (Zd Zc (Zd Yc (Zd Zc (Zd (Zaf Zc Zc) Zm)))) (show 4 ≤ 1000 by decide)) Zm)) (show 2 ≤ 1000 by decide))) ?_)
 refine Zv (Y8 (Yp (d:=Yv 4 (sq o t)) ((Zhm (ds:=[.list [.int 0,.int o,.int (o + t),.int t],.list [.int o,.int 0,.int t,.int (o + t)]]) Zc (Zat (Zd (Zat (Zd (Zaf Zc Zc) (Zd Zc (Zd Yc (Zd Zc Zm)))) (show 4 ≤ 1000 by decide)) (Zd (Zat (Zd Zc (Zd (Zaf Zc Zc) (Zd Zc (Zd Yc Zm)))) (show 4 ≤ 1000 by decide)) Zm)) (show 2 ≤ 1000 by decide)) (show 4 ≤ 1000000 by decide)).cast rfl)) ?_)
 refine Zv (Y8 Zk2 ?_)
 refine Zv (Wj (ds:=Zc4 0 n) (fun k δ=>∃ x l z6,δ = [some (dk x),some (.fz (.int n)),some (.fz (.int o)),some (.fz (.int t)),some (.fz (Yv 4 (sq o t))),some (ndN l),z6]∧l.length = k∧∀ v ∈ l,v < 4) (Zcs (Zd Zc Zm) (by omega)) ⟨x2,[],none,rfl,rfl,fun v m=>nomatch m⟩ (fun k d δ hd q=>?_) fun δ' q=>?_)
 ·obtain ⟨x,l,z6,rfl,hl,hv⟩:=q
  obtain ⟨hk,rfl⟩:=Wh hd
  rw [Int.zero_add]
  refine ⟨_,rfl,Zy2 rfl (W4 (W7 rfl (Zd (Zaf Zc Yc) Zm) (by omega) (Zly (m:=70) (by omega) (Int.le_trans (show (k:Int) + 1 ≤ 100 by omega) (by decide +kernel)) (by decide)) fun a x3 a0 a1=>W4 (Zia (Zwl (W4 (Z4 Zc (W4 (W7 rfl (Zd Yc Zm) (by decide) (btc (by decide +kernel) (by decide +kernel)) fun b x4 b0 b1=>Zay ⟨show 2 ≤ 1000 by decide,Z4 (Jc (Zd (Zmb Zc Yc rfl) Zm) (Zwq _)) ?_⟩))))))))⟩
  have pk:∃ v:Nat,gIx (.list [.int (k:Int),.int b]) (.int (if decide ((3:Int) < k) = true then 1 else 0)) = some (.fz (.int v))∧v < 4:=by
   by_cases c:(3:Int) < k
   ·rw [decide_eq_true c]
    obtain ⟨b,rfl⟩:=Int.eq_ofNat_of_zero_le b0
    exact ⟨b,rfl,by omega⟩
   ·rw [decide_eq_false c]
    exact ⟨k,rfl,by omega⟩
  obtain ⟨v,ev,v4⟩:=pk
  refine ⟨_,ev,Zay ⟨a,.int v,_,rfl,rfl,a0,by rw [List.length_map]; omega,by rw [List.length_map]; omega,x4,Zmq l a.toNat v,some (.fz (.int k)),?_,?_,fun u hu=>?_⟩⟩
  ·rw [Z3t]; rfl
  ·unfold Zmq
   rw [List.length_append,List.length_cons,List.length_take,List.length_drop]; omega
  ·unfold Zmq at hu
   rcases List.mem_append.mp hu with h | h
   ·exact hv u (List.mem_of_mem_take h)
   ·rcases List.mem_cons.mp h with h | h
    ·rw [h]; exact v4
    ·exact hv u (List.mem_of_mem_drop h)
 ·obtain ⟨x,l,z6,rfl,hl,hv⟩:=q
  rw [Yb] at hl
  have b:∀ i,i < n→l.getD i 0 < 4:=fun i hi=>by
   rw [List.getD_eq_getElem?_getD,List.getElem?_eq_getElem (by omega)]
   exact hv _ (List.getElem_mem (by omega))
  have s0:∀ i j,0 ≤ sq o t i j∧sq o t i j ≤ 10:=fun i j=>by unfold sq; repeat' split <;> omega
  refine Jx (Z4 (d:=.list (l.map fun a=>.list (l.map fun b=>.int (sq o t a b)))) ?_ ⟨dk x,rfl,sb (sq o t) l,x,?_,⟨fun i j _ _=>(s0 _ _).1,fun i _=>if_pos rfl⟩,fun i j _ _=>Zly (m:=70) (s0 _ _).1 (Int.le_trans (s0 _ _).2 (by decide +kernel)) (by decide),rfl⟩)
  ·refine Zn4 (cs:=[some (ndN l),some (.fz (Yv 4 (sq o t)))]) l (fun v:Nat=>PyData.int (v:Int)) _ (Zaw (Ze1 rfl (Zn1 l))) (by omega) rfl (fun v _=>by rw [Zc5]) fun a ha=>?_
   exact Zn4 (cs:=[some (.fz (Yv 4 (sq o t))),some (.fz (.int a))]) l (fun v:Nat=>PyData.int (v:Int)) _ (Zaw (Ze1 rfl (Zn1 l))) (by omega) rfl (fun v _=>by rw [Zc5]) fun b hb=>Ztx Zc Zc Zc (hv a ha) (hv b hb)
  ·rw [map_getD,hl]
   unfold Yv Zhh
   refine congrArg PyData.list (List.map_congr_left fun i _=>?_)
   rw [map_getD,hl]; rfl
theorem Nn.dg {n:Nat} {R:Nat→Nat→Int} (h:Nn R):Dg n R:=⟨fun i j _ _=>h.nn i j,fun i _=>h.z i⟩
noncomputable def sE (x:Int) (n:Nat) (kd:Int) (R:Nat→Nat→Int) (z4 z5 z6 z7:Option OT):Zr:=[some (dk x),some (.fz (.int n)),some (.fz (.int kd)),some (Wl n (inG R)),z4,z5,z6,z7]
theorem Z6o {r:Int} (h0:0 ≤ r) (h1:r < 6):∃ m:Nat,gIx (.list [.int 0,.int 1,.int 2,.int 1,.int 1,.int 1]) (.int r) = some (.fz (.int m))∧m ≤ 2:=by
 obtain ⟨r,rfl⟩:=Int.eq_ofNat_of_zero_le h0
 have f:∀ k:Fin 6,k.val = 0∨k.val = 1∨k.val = 2∨k.val = 3∨k.val = 4∨k.val = 5:=by decide +kernel
 have f:r = 0∨r = 1∨r = 2∨r = 3∨r = 4∨r = 5:=f ⟨r,Int.ofNat_lt.mp h1⟩
 obtain rfl | rfl | rfl | rfl | rfl | rfl:=f
 ·exact ⟨0,rfl,by decide⟩
 ·exact ⟨1,rfl,by decide⟩
 ·exact ⟨2,rfl,by decide⟩
 ·exact ⟨1,rfl,by decide⟩
 ·exact ⟨1,rfl,by decide⟩
 ·exact ⟨1,rfl,by decide⟩
theorem some2 {n:Nat} (h0:0 < n) (hn:n ≤ 10) {kd:Int} (k0:0 ≤ kd) (k6:kd < 6) (x:Int) (z3 z4 z5 z6 z7:Option OT):EpS
  (Yj (wE (Wc Ji (Ze (Yh 0 J8 (Ze (Zk 1) Zy)) Zy)) (Zdr 3))
  (Yj (Zaz (iRa (Ze (Wa gIx (Zd3 (Ze (fC (.int 0)) (Ze (fC (.int 1)) (Ze (fC (.int 2)) (Ze (fC (.int 1)) (Ze (fC (.int 1)) (Ze (fC (.int 1)) Zy))))))) (Zk 2)) Zy)) (gNm 4)
  (Yj (wE (Yh 0 Zj (Ze (Zk 1) Zy)) (Jb 5))
  (Yj (wE (Yh 0 Zj (Ze (Zk 1) Zy)) (Jb 6))
  (Zc3 (tV (Zq gNe (Zk 5) (Zk 6)))
  (Yj (wE (Zq gSb (Zq Zc6 (Zht (Wa gIx (Wa gIx (Zek 3) (Zk 5)) (Zk 6))) (Yh 0 Zj (Ze (fC (.int 5)) Zy))) (fC (.int 2))) (Jb 7))
  (Yj (Zb3 3 (Zdq Zl9 (Ze (Zk 7) Zy)) (Zk 5) (Zk 6))
  (Zb3 3 (Zdq Zl9 (Ze (Zk 7) Zy)) (Zk 6) (Zk 5))))
  fNx))))
  (Yj (Zc3 (tV (Zq gEq (Zk 2) (fC (.int 5))))
  (Zaz (iRa (Ze (Zk 1) Zy)) (gNm 5)
  (Zaz (iRa (Ze (Zk 5) Zy)) (gNm 6)
  (Yj (Zb3 3 (Yh 0 Zj (Ze (fC (.int 4)) Zy)) (Zk 5) (Zk 6))
  (Zb3 3 (Zht (Wa gIx (Wa gIx (Zek 3) (Zk 5)) (Zk 6))) (Zk 6) (Zk 5)))))
  fNx)
  (Zfw 3)))) [some (dk x),some (.fz (.int n)),some (.fz (.int kd)),z3,z4,z5,z6,z7] (fun _=>False) fun d δ'=>∃ t',δ'[0]? = some (some t')∧∃ R x',d = Yv n R∧Dg n R∧(∀ i j,i < n→j < n→Bt 300 (R i j))∧t' = dk x':=by
 obtain ⟨P,hP⟩:∃ P:Int,P = 100000000000000000000:=⟨_,rfl⟩
 have P1:1 ≤ P:=by rw [hP]; decide +kernel
 have bn:Bt 400 (n:Int):=Zly (m:=70) (by omega) (Int.le_trans (show (n:Int) ≤ 100 by omega) (by decide +kernel)) (by decide)
 refine Zv (Zqo (W4 (Za8 rfl (W4 (Z4 Zc (Zay ⟨dk x,rfl,(Zoy hn hP x).mono fun d t' z=>?_⟩))))))
 obtain ⟨f,x1,rfl,hf,rfl⟩:=z
 refine Zay ⟨_,Zux hn f,?_⟩
 have I0:∃ R:Nat→Nat→Int,Wl n (inG fun i j=>((f i - f j).natAbs:Int)) = Wl n (inG R)∧Nn R∧∀ i j,R i j ≤ 2 * P:=by
  refine ⟨fun i j=>if i < n∧j < n then ((f i - f j).natAbs:Int) else 0,Zih fun i j hi hj=>(if_pos ⟨hi,hj⟩).symm,⟨fun i=>?_,fun i j=>?_⟩,fun i j=>?_⟩
  ·try dsimp only
   split <;> omega
  ·try dsimp only
   split <;> omega
  ·try dsimp only
   split
   ·rename_i c
    have:=hf i c.1
    have:=hf j c.2
    omega
   ·omega
 obtain ⟨R,eR,hR,bR⟩:=I0
 rw [eR]
 obtain ⟨w,ew,w2⟩:=Z6o k0 k6
 refine Zv (Wj (ds:=Zc4 0 w) (fun k δ=>∃ x R z4 z5 z6 z7,δ = sE x n kd R z4 z5 z6 z7∧Nn R∧∀ i j,R i j ≤ 2 * P + 10 * k) (Zcs (Zd (Zam (Zat (Zd Yc (Zd Yc (Zd Yc (Zd Yc (Zd Yc (Zd Yc Zm)))))) (show 6 ≤ 1000 by decide)) Zc ew) Zm) (by omega)) ⟨x1,R,z4,z5,z6,z7,rfl,hR,fun i j=>by have:=bR i j; omega⟩ (fun k d δ hd q=>?_) fun δ' q=>?_)
 ·obtain ⟨x,R,z4,z5,z6,z7,rfl,hR,bR⟩:=q
  obtain ⟨hk,rfl⟩:=Wh hd
  rw [Int.zero_add]
  refine ⟨_,rfl,Zv (Zbn (W7 rfl (Zd Zc Zm) (by omega) bn fun a x2 a0 a1=>Zv (Zbn (W7 rfl (Zd Zc Zm) (by omega) bn fun b x3 b0 b1=>?_))))⟩
  obtain ⟨a,rfl⟩:=Int.eq_ofNat_of_zero_le a0
  obtain ⟨b,rfl⟩:=Int.eq_ofNat_of_zero_le b0
  have ha:a < n:=by omega
  have hb:b < n:=by omega
  refine Zc8 (Wu (Zea (Zjd Zc Zc rfl)) ⟨fun c=>?_,fun c=>?_⟩)
  ·have ne:a ≠ b:=fun z=>by
    subst z
    rw [decide_eq_true rfl] at c
    cases c
   refine Zv (Zbn (Zdg (Zdg (Z4 (d:=.int (R a b)) (Zs8 (Zfl (f:=inG R) (n:=n) (a:=a) (b:=b) (i0:=3) (i9:=5) (i10:=6) ha hb rfl rfl rfl)) (W7 rfl (Zd Yc Zm) (by decide) (btc (by decide +kernel) (by decide +kernel)) fun r x4 r0 r1=>⟨_,Zl3 _ _,Z4 Yc ⟨_,Z26 _ _,?_⟩⟩)))))
   have v0:=hR.nn a b
   have v1:=bR a b
   have hv:0 ≤ ((R a b + r - 2).natAbs:Int)∧((R a b + r - 2).natAbs:Int) ≤ 2 * P + 10 * (k + 1:Nat):=by omega
   refine Zv (Zd8 (Z4 (Jc (Zd Zc Zm) (Zfv _)) ⟨_,R,n,a,b,rfl,rfl,Zc,ha,Zc,hb,?_⟩))
   refine Zd8 (Z4 (Jc (Zd Zc Zm) (Zfv _)) ⟨_,_,n,b,a,rfl,rfl,Zc,hb,Zc,ha,x4,_,_,_,_,_,rfl,hR.put ne hv.1,Zix (Zix (fun i j=>?_) hv.2 a b) hv.2 b a⟩)
   have:=bR i j
   omega
  ·exact Zcm ⟨x3,R,_,_,_,_,rfl,hR,fun i j=>by have:=bR i j; omega⟩
 ·obtain ⟨x,R,z4,z5,z6,z7,rfl,hR,bR⟩:=q
  rw [Yb] at bR
  have bR:∀ i j,R i j ≤ 2 * P + 20:=fun i j=>by have:=bR i j; omega
  refine Zv (EpS.mono (N:=fun δ=>∃ x R z5 z6,δ = sE x n kd R z4 z5 z6 z7∧Nn R∧∀ i j,R i j ≤ 2 * P + 20) (R:=fun _ _=>False) ?_ (fun δ q=>?_) fun _ _ z=>z.elim)
  ·refine Zc8 (Wu (Zea (Zky Zc Yc rfl)) ⟨fun _=>?_,fun _=>Zcm ⟨x,R,_,_,rfl,hR,bR⟩⟩)
   refine Wj (ds:=Zc4 0 n) (fun _ δ=>∃ x R z5 z6,δ = sE x n kd R z4 z5 z6 z7∧Nn R∧∀ i j,R i j ≤ 2 * P + 20) (Zcs (Zd Zc Zm) (by omega)) ⟨x,R,_,_,rfl,hR,bR⟩ (fun a d δ hd q=>?_) fun δ' q=>q
   obtain ⟨x,R,z5,z6,rfl,hR,bR⟩:=q
   obtain ⟨ha,rfl⟩:=Wh hd
   rw [Int.zero_add]
   refine ⟨_,rfl,Wj (ds:=Zc4 0 a) (fun _ δ=>∃ x R z6,δ = sE x n kd R z4 (some (.fz (.int a))) z6 z7∧Nn R∧∀ i j,R i j ≤ 2 * P + 20) (Zcs (Zd Zc Zm) (by omega)) ⟨x,R,_,rfl,hR,bR⟩ (fun b d δ hd q=>?_) fun δ' q=>?_⟩
   ·obtain ⟨x,R,z6,rfl,hR,bR⟩:=q
    obtain ⟨hb,rfl⟩:=Wh hd
    rw [Int.zero_add]
    refine ⟨_,rfl,Zv (Zd8 (W7 rfl (Zd Yc Zm) (by decide) (btc (by decide +kernel) (by decide +kernel)) fun v x2 v0 v1=>⟨v,R,n,a,b,rfl,rfl,Zc,ha,Zc,by omega,?_⟩))⟩
    have val:EvV (Wa gIx (Wa gIx (Zek 3) (Zk 5)) (Zk 6)) (sE x2 n kd (upR R a b v) z4 (some (.fz (.int a))) (some (.fz (.int b))) z7) (.int v):=(Zfl (f:=inG (upR R a b v)) (n:=n) (a:=a) (b:=b) (i0:=3) (i9:=5) (i10:=6) ha (by omega) rfl rfl rfl).cast (congrArg PyData.int (if_pos ⟨rfl,rfl⟩))
    exact Zd8 (Z4 (Zs8 val) ⟨v,upR R a b v,n,b,a,rfl,rfl,Zc,by omega,Zc,ha,x2,_,_,rfl,hR.put (by omega) v0,Zix (Zix bR (by omega) a b) (by omega) b a⟩)
   ·obtain ⟨x,R,z6,rfl,hR,bR⟩:=q
    exact ⟨x,R,_,z6,rfl,hR,bR⟩
  ·obtain ⟨x,R,z5,z6,rfl,hR,bR⟩:=q
   exact Z28 rfl ⟨dk x,rfl,R,x,Zcf n (inG R),hR.dg,fun i j _ _=>Zly (m:=160) (hR.nn i j) (Int.le_trans (bR i j) (by rw [hP]; decide +kernel)) (by decide),rfl⟩
theorem Zxg {n:Nat} (h0:0 < n) (hn:n ≤ 10) (x:Int):ToldI J5 (dk x) [.int n] fun d t'=>∃ R x',d = Yv n R∧Dg n R∧(∀ i j,i < n→j < n→Bt 300 (R i j))∧t' = dk x':=by
 refine Zda rfl (Zv (Zbn (W7 rfl (Zd Yc Zm) (by decide) (btc (by decide +kernel) (by decide +kernel)) fun kd x1 k0 k6=>?_)))
 refine Zv (Zc8 (Wu (Zea (Zky Zc Yc rfl)) ⟨fun _=>?_,fun _=>Zcm ?_⟩))
 ·refine Jx (Za8 rfl (W4 (Z4 Zc (Zay ⟨dk x1,rfl,(Zyi hn x1).mono fun d t' z=>?_⟩))))
  obtain ⟨R,x',rfl,hR,bR,rfl⟩:=z
  exact ⟨_,rfl,R,x',rfl,hR.dg,fun i j _ _=>bR i j,rfl⟩
 ·refine Zv (Zc8 (Zwr (Wu (Zea (Zky Zc Yc rfl)) ⟨fun _=>Wu (Zea (Zmb Zc Yc rfl)) ⟨fun _=>?_,fun _=>Zcm ?_⟩,fun _=>⟨fun z=>(nomatch z),fun _=>Zcm ?_⟩⟩)))
  ·refine Jx (Za8 rfl (W4 (Z4 Zc (Zay ⟨dk x1,rfl,(Zzz hn x1).mono fun d t' z=>?_⟩))))
   obtain ⟨R,x',rfl,hR,bR,rfl⟩:=z
   exact ⟨_,rfl,R,x',rfl,hR,bR,rfl⟩
  ·exact (some2 h0 hn k0 k6 x1 none none none none none).mono (fun _ z=>z.elim) fun _ _ z=>z
  ·exact (some2 h0 hn k0 k6 x1 none none none none none).mono (fun _ z=>z.elim) fun _ _ z=>z
noncomputable def Zx4 (p:List Int) (lo hi:Option Int):List Int:=(p.drop (HT.sIx p.length 0 lo)).take (HT.sIx p.length p.length hi - HT.sIx p.length 0 lo)
theorem Zt2 (p:List Int) (lo hi:Option Int):cutD (p.map PyData.int) lo hi = (Zx4 p lo hi).map PyData.int:=by
 unfold cutD Zx4
 rw [List.length_map,List.map_take,List.map_drop]
theorem Z5k {e:FE} {δ:Zr} {r p:List Int} {lo hi:FO} {l h:Option Int} (he:EvV e δ (Zdx r)) (hl:EvO lo δ l) (hh:EvO hi δ h) (hp:Zx4 r l h = p):EvV (fSl e lo hi) δ (Zdx p):=hp ▸ (Z6f (ds:=r.map PyData.int) he hl hh).cast (by rw [Zt2]; rfl)
theorem Zov (x y:Bool):gNe (.bool x) (.bool y) = some (.bool (x != y)):=by cases x <;> cases y <;> rfl
theorem Zue:gEq (.str "line") (.str "line") = some (.bool true):=by
 unfold gEq
 rw [if_pos (by decide +kernel)]
 exact congrArg (fun z=>some (PyData.bool z)) (by decide +kernel)
theorem Ztz:gEq (.str "bars") (.str "line") = some (.bool false):=by
 unfold gEq
 rw [if_pos (by decide +kernel)]
 exact congrArg (fun z=>some (PyData.bool z)) (by decide +kernel)
theorem Zul (p:List Nat):gNe (.tuple [.str "bars", tpN p]) (.tuple [.str "bars", tpN p]) = some (.bool false):=by
 have pl:∀ l:List Nat,Ju (l.map fun x:Nat=>PyData.int (x:Int)) = true:=fun l=>by
  induction l with
  | nil=>rfl
  | cons x l ih=>rw [List.map_cons,Ju,ih]; rfl
 refine Zn7 (n:=2) (Znv fun d m=>?_) ?_ (by decide)
 ·rcases List.mem_cons.mp m with e | m
  ·rw [e]; exact ⟨by decide +kernel,Nat.le_trans (Nat.le_of_eq (by rfl)) (Nat.zero_le 1)⟩
  ·rw [List.mem_singleton.mp m]
   refine Znv fun d m=>?_
   obtain ⟨x,_,rfl⟩:=List.mem_map.mp m
   exact Zn6 _
 ·rw [Jo,Ju,Ju,Ju]
  have:Jo (tpN p) = true:=by
   show Ju (p.map fun x:Nat=>PyData.int (x:Int)) = true
   exact pl p
  rw [this]; rfl
theorem Z6g {m:Nat} {S R:Nat→Nat→Int} (e:∀ i j,i < m→j < m→S i j = R i j):EmM m S ↔ EmM m R :=
 exists_congr fun g=>forall_congr' fun i=>forall_congr' fun j=>forall_congr' fun h1=>forall_congr' fun h2=>by rw [e i j (by omega) h2]
theorem range_getD {n i:Nat} (h:i < n):(List.range n).getD i 0 = i:=by
 rw [List.getD_eq_getElem?_getD,List.getElem?_range h]; rfl
theorem Zq1 {n:Nat} (hn:n ≤ 10):Pts n (List.range n) (.list (Zc4 0 n)) where
 ix:=fun i hi=>by
  rw [List.length_range] at hi
  rw [range_getD hi,Zlu]
  unfold Zc4
  rw [Zfy _ hi,Option.bind_some,Int.zero_add]
 ln:=by rw [Znm,Yb,List.length_range]
 lt:=fun i hi=>by
  rw [List.length_range] at hi
  rw [range_getD hi]; exact hi
 sm:=by rw [List.length_range]; omega
theorem Z4z {r:Int} (h0:0 ≤ r) (h1:r < 4):∃ m:Int,gIx (.list [.int 8,.int 8,.int 8,.int 10]) (.int r) = some (.fz (.int m))∧0 < m∧m ≤ 10:=by
 obtain ⟨r,rfl⟩:=Int.eq_ofNat_of_zero_le h0
 have f:∀ k:Fin 4,k.val = 0∨k.val = 1∨k.val = 2∨k.val = 3:=by decide +kernel
 have f:r = 0∨r = 1∨r = 2∨r = 3:=f ⟨r,Int.ofNat_lt.mp h1⟩
 obtain rfl | rfl | rfl | rfl:=f
 ·exact ⟨8,rfl,by decide⟩
 ·exact ⟨8,rfl,by decide⟩
 ·exact ⟨8,rfl,by decide⟩
 ·exact ⟨10,rfl,by decide⟩
theorem Zq2 {it:FI} {g:FG} {S:FS} {δ:Zr} {ds:List PyData} {N:Zr→Prop} {R:PyData→Zr→Prop} (I:Zr→Prop) (hi:EvI it δ ds) (h0:I δ) (turn:∀ d ∈ ds,∀ δ,I δ→∃ δ1,g d δ = some δ1∧EpS S δ1 I R) (fin:∀ δ',I δ'→N δ'):EpS (Zaz it g S) δ N R :=
 Wj (fun _=>I) hi h0 (fun _ d δ hd q=>turn d (List.mem_of_getElem? hd) δ q) fin
theorem Z5y:Zg4 (.int 10) (.int 18) = some (.int 1000000000000000000):=rfl
noncomputable def lw (ns:List Int) (z1 z2 z3 z4 z5 z6 z7 z8 z9 z10:Option OT):Zr:=[some (.fz (Zdx ns)),z1,z2,z3,z4,z5,z6,z7,z8,z9,z10]
open Classical in
theorem Zu4 (ns:List Int) (hl:ns.length ≤ 63):Zgj [.list (ns.map PyData.int)] = .ok (.fz (.bool true)):=by
 show Zgj [Zdx ns] = _
 have key:EpS Zgn (lw ns none none none none none none none none none none) (fun _=>False) fun d _=>d = .bool true:=by
  refine Zv (Zq2 (ds:=(1000000000000000000 :: Zx4 ns none (some 2)).map PyData.int) (fun δ=>∃ z1 z2 z3 z4 z5 z6 z7 z8 z9 z10,δ = lw ns z1 z2 z3 z4 z5 z6 z7 z8 z9 z10)
   (Zaw (Zhm (ds:=[.int 1000000000000000000]) (es:=(Zx4 ns none (some 2)).map PyData.int) (Zat (Zd (Zw Yc Yc Z5y) Zm) (show 1 ≤ 1000 by decide)) (Z5k (r:=ns) Zc Z8o (Z86 Yc) rfl) ?_)) ⟨_,_,_,_,_,_,_,_,_,_,rfl⟩ (fun d hd δ q=>?_) fun δ' q=>?_)
  ·have:(Zx4 ns none (some 2)).length ≤ ns.length:=by
    unfold Zx4
    rw [List.length_take,List.length_drop]; omega
   rw [List.length_map]
   show 1 + _ ≤ _
   omega
  ·obtain ⟨z1,z2,z3,z4,z5,z6,z7,z8,z9,z10,rfl⟩:=q
   obtain ⟨c,_,rfl⟩:=List.mem_map.mp hd
   clear hd
   obtain ⟨x0,eD⟩:=Zwz c
   refine ⟨_,rfl,Zv (Zg5 (Zye (Zd Zc Zm) eD) (Zv (Zbn (Zdg (Z4 Yc (Za8 rfl (W4 (Zia (Z4 (Zat (Zd Yc (Zd Yc (Zd Yc (Zd Yc Zm)))) (show 4 ≤ 1000 by decide)) (W7 rfl (Zd Yc Zm) (by decide) (btc (by decide +kernel) (by decide +kernel)) fun r x1 r0 r1=>?_))))))))))⟩
   obtain ⟨m,em,m0,m1⟩:=Z4z r0 r1
   refine ⟨_,em,Zay ⟨dk x1,rfl,?_⟩⟩
   rw [OT.data_fz]
   refine (Zjs x1 (m:=m) (by omega) (Bt.mono (m:=40) (Bt.of_lt (by omega) (by omega)) (by decide))).mono fun d t' z=>?_
   obtain ⟨r',x2,rfl,q0,q1,rfl⟩:=z
   refine ⟨_,Zl3 _ _,?_⟩
   obtain ⟨n,hx⟩:∃ n:Nat,1 + r' = (n:Int):=⟨(1 + r').toNat,by omega⟩
   show EpS _ (lw ns (some (.fz (.int c))) (some (dk x2)) (some (.fz (.int (1 + r')))) z4 z5 z6 z7 z8 z9 z10) _ _
   rw [hx]
   have n0:0 < n:=by omega
   have n1:n ≤ 10:=by omega
   refine Zv (Zbn (Za8 rfl (Zoc (Zd Zc Zm) ⟨dk x2,rfl,(Zxg (n:=n) n0 n1 x2).mono fun d t z=>?_⟩)))
   obtain ⟨R,x3,rfl,hR,bR,rfl⟩:=z
   refine Zv (Zbn (Za8 rfl (Zay ⟨dk x3,rfl,(Zr6 x3).mono fun d t z=>?_⟩)))
   obtain ⟨b,x4,rfl,b0,b1,rfl⟩:=z
   have bb:Bt 300 b:=Bt.mono (m:=40) (Bt.of_lt (by omega) (by omega)) (by decide)
   have bp:0 < b:=by omega
   have eT:Told Jl [Yv n R,.int b] (tbD (Zka n R b)):=Zlq (n:=n) n1 R bp bb
   refine Zv (Y8 (Yp (Yr (Zd Zc (Zd Zc Zm)) eT)) ?_)
   refine Zv (Y8 (Yp (Yr (Zd Zc Zm) (Zzj n1 hR))) ?_)
   obtain ⟨pl,eL⟩:=Zi3 (R:=R) (Zq1 n1) (by rw [List.length_range]; omega) hR.nn
   rw [List.length_range] at eL
   have iff:EmM n (sb R (List.range n)) ↔ EmM n R:=Z6g fun i j hi hj=>by unfold sb; rw [range_getD hi,range_getD hj]
   have e8:∀ {δ:Zr},δ[3]? = some (some (.fz (.int n)))→δ[4]? = some (some (.fz (Yv n R)))→EvV (Zq Zi1 (Wc Yx (Ze (Zk 4) (Ze (Zz8 (Ze (Zk 3) Zy)) Zy))) (fC .none)) δ (.bool (decide (EmM n R))):=fun h3 h4=>by
    refine Zw (Yr (Zd (Zc h4) (Zd ((Z6n (Zd (Zc h3) Zm) (by omega) (by omega)).cast (by rw [Int.toNat_natCast])) Zm)) eL) Yc ?_
    rw [Zja]
    by_cases c:EmM n R
    ·rw [if_pos (iff.mpr c),decide_eq_true c]; rfl
    ·rw [if_neg fun z=>c (iff.mp z),decide_eq_false c]; rfl
   refine Zv (Y8 (Yp (e8 rfl rfl)) ?_)
   obtain ⟨tl,eF⟩:=Zyq n0 n1 hR bp bb bR
   have ofN:=Zuc hR n0
   refine Zq2 (ds:=Zc4 0 2) (fun δ=>∃ z9 z10,δ = lw ns (some (.fz (.int c))) (some (dk x4)) (some (.fz (.int n))) (some (.fz (Yv n R))) (some (.fz (.int b))) (some (.fz (tbD (Zka n R b)))) (some (.fz (Ztd (off n R)))) (some (.fz (.bool (decide (EmM n R))))) z9 z10) (Zcs (n:=2) (Zd Yc Zm) (by decide)) ⟨_,_,rfl⟩ (fun d _ δ q=>?_) fun δ' q=>?_
   ·obtain ⟨z9,z10,rfl⟩:=q
    refine ⟨_,rfl,Zv (Y8 (Yp (Yr (Zd Zc Zm) eF)) ?_)⟩
    have gT:=Zn7 (Z6p (Zka n R b)) (Zve _) (by decide)
    by_cases em:EmM n R
    ·rw [if_pos em,ofN.mpr em,decide_eq_true em]
     refine Zv (Y8 (J2 (Zxw (Zne (p:=true) (Zj2 (Zrj Zc rfl))) (Zea (Zjd (Jc (Zd Zc Zm) (Zno _)) Yc rfl))) rfl) ?_)
     refine Zv (Y8 (J2 (Zea (Zw Zc (Yr (Zd Zc (Zd Zc Zm)) eT) gT)) rfl) ?_)
     refine Zv (Y8 (J2 (Zxw (Zea (Zw Zc (Zw (Zam Zc Yc rfl) Yc Zue) (Zov _ _))) (Zea (Zw Zc (Zw Zc Yc (Zpg _)) (Zov _ _)))) rfl) ?_)
     exact Y8 (J2 (Zw4 (Zea (Zw Zc Yc (Zja _)))) rfl) ⟨_,_,rfl⟩
    ·rw [if_neg em,decide_eq_false em]
     cases ho:off n R with
     | none=>exact absurd (ofN.mp ho) em
     | some p =>
      refine Zv (Y8 (J2 (Zxw (Zne (p:=true) (Zj2 (Zrj Zc rfl))) (Zea (Zjd (Jc (Zd Zc Zm) (Zno _)) Yc rfl))) rfl) ?_)
      refine Zv (Y8 (J2 (Zea (Zw Zc (Yr (Zd Zc (Zd Zc Zm)) eT) gT)) rfl) ?_)
      refine Zv (Y8 (J2 (Zxw (Zea (Zw Zc (Zw (Zam Zc Yc rfl) Yc Ztz) (Zov _ _))) (Zea (Zw Zc (Zw Zc Yc (Zpg _)) (Zov _ _)))) rfl) ?_)
      exact Y8 (J2 (Z6e (Zea (Zw Zc Yc (Zja _))) (Zxw (Zea (Zw Zc (Zd2 (Zd Yc (Zd Zc Zm)) (show 2 ≤ 1000 by decide)) (Zul p))) (Zne (p:=true) (Zj2 (Zrj (Zam Zc Yc rfl) rfl))))) rfl) ⟨_,_,rfl⟩
   ·obtain ⟨z9,z10,rfl⟩:=q
    exact ⟨_,_,_,_,_,_,_,_,_,_,rfl⟩
  ·obtain ⟨z1,z2,z3,z4,z5,z6,z7,z8,z9,z10,rfl⟩:=q
   exact Jx (Z4 Yc rfl)
 rcases key with ⟨_,_,z⟩ | ⟨o,δ',e,h⟩
 ·exact z.elim
 ·exact Told.ok (Jv rfl ⟨o,δ',e,h⟩)
end My
namespace My
open PySem L2 PySem.Spec
theorem Zmr {P:List Value→Prop} (h:∀ a0,P [a0]):∀ us:List Value,us.length = 1→P us:=fun us hl=>by
 rcases us with _ | ⟨a0,us⟩
 ·exact absurd hl (by simp)
 rcases us with _ | ⟨b,us⟩
 ·exact h a0
 ·exact absurd hl (by simp)
theorem Zkc {P:List Value→Prop} (h:∀ a0 a1,P [a0,a1]):∀ us:List Value,us.length = 2→P us:=fun us hl=>by
 rcases us with _ | ⟨a0,us⟩
 ·exact absurd hl (by simp)
 rcases us with _ | ⟨a1,us⟩
 ·exact absurd hl (by simp)
 rcases us with _ | ⟨b,us⟩
 ·exact h a0 a1
 ·exact absurd hl (by simp)
theorem Z7g {P:List Value→Prop} (h:∀ a0 a1 a2,P [a0,a1,a2]):∀ us:List Value,us.length = 3→P us:=fun us hl=>by
 rcases us with _ | ⟨a0,us⟩
 ·exact absurd hl (by simp)
 rcases us with _ | ⟨a1,us⟩
 ·exact absurd hl (by simp)
 rcases us with _ | ⟨a2,us⟩
 ·exact absurd hl (by simp)
 rcases us with _ | ⟨b,us⟩
 ·exact h a0 a1 a2
 ·exact absurd hl (by simp)
theorem Z8g {P:List Value→Prop} (h:∀ a0 a1 a2 a3,P [a0,a1,a2,a3]):∀ us:List Value,us.length = 4→P us:=fun us hl=>by
 rcases us with _ | ⟨a0,us⟩
 ·exact absurd hl (by simp)
 rcases us with _ | ⟨a1,us⟩
 ·exact absurd hl (by simp)
 rcases us with _ | ⟨a2,us⟩
 ·exact absurd hl (by simp)
 rcases us with _ | ⟨a3,us⟩
 ·exact absurd hl (by simp)
 rcases us with _ | ⟨b,us⟩
 ·exact h a0 a1 a2 a3
 ·exact absurd hl (by simp)
noncomputable def top (i:Nat):Stmt:=PySem.Challenge.pw_farcuts_k54_points_that_bar_a_line.main.body.getD i (.Pass ⟨0,0,0,0⟩)
noncomputable abbrev Zcb:Stmt:=top 42
noncomputable abbrev J9:Stmt:=top 41
noncomputable abbrev Zca:Stmt:=top 45
noncomputable abbrev Zb7:Stmt:=top 31
noncomputable abbrev Zaq:Stmt:=top 38
noncomputable abbrev Zb8:Stmt:=top 29
noncomputable abbrev Zb6:Stmt:=top 30
noncomputable abbrev Zbk:Stmt:=top 40
noncomputable abbrev Zac:Stmt:=top 35
noncomputable abbrev Zap:Stmt:=top 34
noncomputable abbrev Jr:Stmt:=top 36
noncomputable abbrev Zb4:Stmt:=top 37
noncomputable abbrev Zas:Stmt:=top 39
noncomputable abbrev Zcd:Stmt:=top 43
noncomputable abbrev Wr:Stmt:=top 44
noncomputable abbrev Jt:Stmt:=top 32
noncomputable abbrev Zbi:Stmt:=top 33
noncomputable abbrev Zce:Stmt:=top 18
noncomputable abbrev Zdv:Stmt:=top 19
noncomputable abbrev Zdw:Stmt:=top 20
noncomputable abbrev Zab:Stmt:=top 22
noncomputable abbrev Zcc:Stmt:=top 11
noncomputable abbrev Zaa:Stmt:=top 24
noncomputable abbrev Zch:Stmt:=top 23
noncomputable abbrev Zbj:Stmt:=top 25
noncomputable abbrev W6:Stmt:=top 10
noncomputable abbrev Wq:Stmt:=top 26
noncomputable abbrev Wf:Stmt:=top 6
noncomputable abbrev Zb5:Stmt:=top 7
noncomputable abbrev Zb9:Stmt:=top 5
noncomputable abbrev Zcg:Stmt:=top 8
noncomputable abbrev W9:Stmt:=top 13
noncomputable abbrev Jq:Stmt:=top 15
noncomputable abbrev Zbg:Stmt:=top 14
noncomputable abbrev Zao:Stmt:=top 16
noncomputable abbrev Zbl:Stmt:=top 27
noncomputable abbrev Zgw:Stmt:=top 46
set_option genInjectivity false in
set_option genSizeOfSpec false in
structure Txt (K:PySem.W.Frag) (mg:Str→Option Value) (f:Nat→Addr) (fd:Nat→FuncData) (cls:Nat→Addr):Prop where
 F_law_fits:Fun K "_law_fits" "_law_fits" Zcb (f 0) (fd 0)
 b_law_fits:Binds K (fd 0) ["rows", "points", "places", "place"] []
 m_law_fits:mg "_law_fits" = some (.ref (f 0))
 F_law_on_line:Fun K "_law_on_line" "_law_on_line" J9 (f 1) (fd 1)
 b_law_on_line:Binds K (fd 1) ["rows", "points"] []
 m_law_on_line:mg "_law_on_line" = some (.ref (f 1))
 F_law_bars:Fun K "_law_bars" "_law_bars" Zca (f 2) (fd 2)
 b_law_bars:Binds K (fd 2) ["rows"] []
 m_law_bars:mg "_law_bars" = some (.ref (f 2))
 F_law_take:Fun K "_law_take" "_law_take" Zb7 (f 3) (fd 3)
 b_law_take:Binds K (fd 3) ["deck", "many"] []
 m_law_take:mg "_law_take" = some (.ref (f 3))
 F_law_bottom:Fun K "_law_bottom" "_law_bottom" Zaq (f 4) (fd 4)
 b_law_bottom:Binds K (fd 4) ["deck"] []
 m_law_bottom:mg "_law_bottom" = some (.ref (f 4))
 F_law_stir:Fun K "_law_stir" "_law_stir" Zb8 (f 5) (fd 5)
 b_law_stir:Binds K (fd 5) ["cell", "k"] []
 m_law_stir:mg "_law_stir" = some (.ref (f 5))
 F_law_deck:Fun K "_law_deck" "_law_deck" Zb6 (f 6) (fd 6)
 b_law_deck:Binds K (fd 6) ["cell"] []
 m_law_deck:mg "_law_deck" = some (.ref (f 6))
 F_law_lined:Fun K "_law_lined" "_law_lined" Zbk (f 7) (fd 7)
 b_law_lined:Binds K (fd 7) ["places"] []
 m_law_lined:mg "_law_lined" = some (.ref (f 7))
 F_law_add_cut:Fun K "_law_add_cut" "_law_add_cut" Zac (f 8) (fd 8)
 b_law_add_cut:Binds K (fd 8) ["rows", "bits", "weight"] []
 m_law_add_cut:mg "_law_add_cut" = some (.ref (f 8))
 F_law_nought:Fun K "_law_nought" "_law_nought" Zap (f 9) (fd 9)
 b_law_nought:Binds K (fd 9) ["n"] []
 m_law_nought:mg "_law_nought" = some (.ref (f 9))
 F_law_shortest:Fun K "_law_shortest" "_law_shortest" Jr (f 10) (fd 10)
 b_law_shortest:Binds K (fd 10) ["rows"] []
 m_law_shortest:mg "_law_shortest" = some (.ref (f 10))
 F_law_long:Fun K "_law_long" "_law_long" Zb4 (f 11) (fd 11)
 b_law_long:Binds K (fd 11) ["deck", "n"] []
 m_law_long:mg "_law_long" = some (.ref (f 11))
 F_law_places:Fun K "_law_places" "_law_places" Zas (f 12) (fd 12)
 b_law_places:Binds K (fd 12) ["deck", "n"] []
 m_law_places:mg "_law_places" = some (.ref (f 12))
 F_law_ring:Fun K "_law_ring" "_law_ring" Zcd (f 13) (fd 13)
 b_law_ring:Binds K (fd 13) ["deck", "n"] []
 m_law_ring:mg "_law_ring" = some (.ref (f 13))
 F_law_some_table:Fun K "_law_some_table" "_law_some_table" Wr (f 14) (fd 14)
 b_law_some_table:Binds K (fd 14) ["deck", "n"] []
 m_law_some_table:mg "_law_some_table" = some (.ref (f 14))
 F_law_fraction:Fun K "_law_fraction" "_law_fraction" Jt (f 15) (fd 15)
 b_law_fraction:Binds K (fd 15) ["top", "bottom"] []
 m_law_fraction:mg "_law_fraction" = some (.ref (f 15))
 F_law_table:Fun K "_law_table" "_law_table" Zbi (f 16) (fd 16)
 b_law_table:Binds K (fd 16) ["rows", "bottom"] []
 m_law_table:mg "_law_table" = some (.ref (f 16))
 F_is_point:Fun K "is_point" "is_point" Zce (f 17) (fd 17)
 b_is_point:Binds K (fd 17) ["table", "point"] []
 m_is_point:mg "is_point" = some (.ref (f 17))
 F_is_part:Fun K "is_part" "is_part" Zdv (f 18) (fd 18)
 b_is_part:Binds K (fd 18) ["table", "points"] []
 m_is_part:mg "is_part" = some (.ref (f 18))
 F_part_of:Fun K "part_of" "part_of" Zdw (f 19) (fd 19)
 b_part_of:Binds K (fd 19) ["table", "points"] []
 m_part_of:mg "part_of" = some (.ref (f 19))
 F_first_apart:Fun K "first_apart" "first_apart" Zab (f 20) (fd 20)
 b_first_apart:Binds K (fd 20) ["rows"] []
 m_first_apart:mg "first_apart" = some (.ref (f 20))
 F_pairs_of:Fun K "pairs_of" "pairs_of" Zcc (f 21) (fd 21)
 b_pairs_of:Binds K (fd 21) ["n"] []
 m_pairs_of:mg "pairs_of" = some (.ref (f 21))
 F_fits_places:Fun K "fits_places" "fits_places" Zaa (f 22) (fd 22)
 b_fits_places:Binds K (fd 22) ["rows", "places"] []
 m_fits_places:mg "fits_places" = some (.ref (f 22))
 F_place_of:Fun K "place_of" "place_of" Zch (f 23) (fd 23)
 b_place_of:Binds K (fd 23) ["rows", "apart", "point"] []
 m_place_of:mg "place_of" = some (.ref (f 23))
 F_places_of:Fun K "places_of" "places_of" Zbj (f 24) (fd 24)
 b_places_of:Binds K (fd 24) ["rows"] []
 m_places_of:mg "places_of" = some (.ref (f 24))
 F_rising_tuples:Fun K "rising_tuples" "rising_tuples" W6 (f 25) (fd 25)
 b_rising_tuples:Binds K (fd 25) ["n", "many"] []
 m_rising_tuples:mg "rising_tuples" = some (.ref (f 25))
 F_first_off_line:Fun K "first_off_line" "first_off_line" Wq (f 26) (fd 26)
 b_first_off_line:Binds K (fd 26) ["rows"] []
 m_first_off_line:mg "first_off_line" = some (.ref (f 26))
 F_greatest_divisor:Fun K "greatest_divisor" "greatest_divisor" Wf (f 27) (fd 27)
 b_greatest_divisor:Binds K (fd 27) ["a", "b"] []
 m_greatest_divisor:mg "greatest_divisor" = some (.ref (f 27))
 F_in_least:Fun K "in_least" "in_least" Zb5 (f 28) (fd 28)
 b_in_least:Binds K (fd 28) ["top", "bottom"] []
 m_in_least:mg "in_least" = some (.ref (f 28))
 F_is_whole:Fun K "is_whole" "is_whole" Zb9 (f 29) (fd 29)
 b_is_whole:Binds K (fd 29) ["thing"] []
 m_is_whole:mg "is_whole" = some (.ref (f 29))
 F_fraction:Fun K "fraction" "fraction" Zcg (f 30) (fd 30)
 b_fraction:Binds K (fd 30) ["top", "bottom"] []
 m_fraction:mg "fraction" = some (.ref (f 30))
 F_shared_bottom:Fun K "shared_bottom" "shared_bottom" W9 (f 31) (fd 31)
 b_shared_bottom:Binds K (fd 31) ["numbers"] []
 m_shared_bottom:mg "shared_bottom" = some (.ref (f 31))
 F_table_bottom:Fun K "table_bottom" "table_bottom" Jq (f 32) (fd 32)
 b_table_bottom:Binds K (fd 32) ["table"] []
 m_table_bottom:mg "table_bottom" = some (.ref (f 32))
 F_tops_over:Fun K "tops_over" "tops_over" Zbg (f 33) (fd 33)
 b_tops_over:Binds K (fd 33) ["bottom", "numbers"] []
 m_tops_over:mg "tops_over" = some (.ref (f 33))
 F_table_over:Fun K "table_over" "table_over" Zao (f 34) (fd 34)
 b_table_over:Binds K (fd 34) ["bottom", "table"] []
 m_table_over:mg "table_over" = some (.ref (f 34))
 F_line_told:Fun K "line_told" "line_told" Zbl (f 35) (fd 35)
 b_line_told:Binds K (fd 35) ["table"] []
 m_line_told:mg "line_told" = some (.ref (f 35))
 F_law:Fun K "law" "law" Zgw (f 36) (fd 36)
 b_law:Binds K (fd 36) ["script"] []
 m_law:mg "law" = some (.ref (f 36))
 z_abs:mg "abs" = none
 z_bool:mg "bool" = none
 z_int:mg "int" = none
 z_isinstance:mg "isinstance" = none
 z_len:mg "len" = none
 z_list:mg "list" = none
 z_min:mg "min" = none
 z_range:mg "range" = none
 z_set:mg "set" = none
 z_sorted:mg "sorted" = none
 z_tuple:mg "tuple" = none
 z_zip:mg "zip" = none
 mC_NoNumber:mg "NoNumber" = some (.ref (cls 0))
 ca_NoNumber:ClsAt K "NoNumber" (cls 0)
 mC_NoPoint:mg "NoPoint" = some (.ref (cls 1))
 ca_NoPoint:ClsAt K "NoPoint" (cls 1)
 r_NoNumber:Zrp K (cls 0)
 r_NoPoint:Zrp K (cls 1)
 x_NoNumber_ga:PySem.W.findIn K (.ref (cls 0)) "__getattribute__" = some (some (.builtin "BaseException.__getattribute__"))
 x_NoNumber_gt:PySem.W.findIn K (.ref (cls 0)) "__getattr__" = some none
 x_NoNumber_cl:PySem.W.findIn K (.ref (cls 0)) "__class__" = some (some (.builtin "object.__class__"))
 x_NoNumber_isB:PySem.W.subIn K (.ref (cls 0)) (.type "BaseException") = some true
 x_NoNumber_isO:PySem.W.subIn K (.ref (cls 0)) (.type "object") = some true
 x_NoNumber_isC:PySem.W.isClsIn K (cls 0) = true
 x_NoNumber_k1:PySem.W.kitOne K (.ref (cls 0)) (.type "int") = some false
 x_NoNumber_k2:PySem.W.kitOne K (.ref (cls 0)) (.type "bool") = some false
 x_NoNumber_k3:PySem.W.kitOne K (.ref (cls 0)) (.type "str") = some false
 x_NoNumber_k4:PySem.W.kitOne K (.ref (cls 0)) (.type "list") = some false
 x_NoNumber_k5:PySem.W.kitOne K (.ref (cls 0)) (.type "tuple") = some false
 x_NoPoint_ga:PySem.W.findIn K (.ref (cls 1)) "__getattribute__" = some (some (.builtin "BaseException.__getattribute__"))
 x_NoPoint_gt:PySem.W.findIn K (.ref (cls 1)) "__getattr__" = some none
 x_NoPoint_cl:PySem.W.findIn K (.ref (cls 1)) "__class__" = some (some (.builtin "object.__class__"))
 x_NoPoint_isB:PySem.W.subIn K (.ref (cls 1)) (.type "BaseException") = some true
 x_NoPoint_isO:PySem.W.subIn K (.ref (cls 1)) (.type "object") = some true
 x_NoPoint_isC:PySem.W.isClsIn K (cls 1) = true
 x_NoPoint_k1:PySem.W.kitOne K (.ref (cls 1)) (.type "int") = some false
 x_NoPoint_k2:PySem.W.kitOne K (.ref (cls 1)) (.type "bool") = some false
 x_NoPoint_k3:PySem.W.kitOne K (.ref (cls 1)) (.type "str") = some false
 x_NoPoint_k4:PySem.W.kitOne K (.ref (cls 1)) (.type "list") = some false
 x_NoPoint_k5:PySem.W.kitOne K (.ref (cls 1)) (.type "tuple") = some false
section
variable {P:Program} {w:World} {K:PySem.W.Frag} {mg:Str→Option Value} {base:Heap}
theorem Zfr:Z3 ["rows", "points", "places", "place", "here", "k"] ["rows", "points", "places", "place"] (Zi Zcb):=⟨rfl,rfl,rfl,by decide +kernel,rfl,by decide +kernel,by decide +kernel⟩
theorem Zm3 {f:Nat→Addr} {fd:Nat→FuncData} {cls:Nat→Addr} (T:Txt K mg f fd cls):FnOk P w K mg base CX0 1 (f 0) (fd 0) ["rows", "points", "places", "place"] (spD K (sD J4)):=by
 refine Ws T.F_law_fits Zfr (S:=Zcx) rfl rfl (fun cdv A outer s H E hr=>?_)
 have hu:=hr.units
 exact (Zu (Zh (Z8 (Z7 (i:=4) Zfr.nd rfl (Or.inl rfl) (Yo (Z2 Za5 (Zbb (Zx rfl) Yy (Zb (mv 1)) (W2 Zfc (Zbq Zbx (Wk rfl) (by rfl) T.z_len L2.B.boot_len (Za (Zb (mv 2)) (Zf Zg)))) (hs:=fun _ _=>rfl))))))
   (Zu (Zh (Wd (Wg PassesOwn.never rfl (Zb1 (Yi (by rfl) T.z_range (Za (W2 Zfc (Zbq Zbx (Wk rfl) (by rfl) T.z_len L2.B.boot_len (Za (Zb (mv 2)) (Zf Zg)))) (Zf Zg)))) (Z0 (Zz (i:=5) Zfr.nd))
   (Zn (Zbe (Zbd (Wm Zp9 (Wn (Zed hu) Zg0 (W2 Zjo (Zbq Zf8 Zb2 (by rfl) T.z_abs L2.B.boot_abs (Za (Zt Zl5 (Yd Zgs Ye (Yo (Z2 Za5 (Zbb (Zx rfl) Yy (Zb (mv 2)) (Zb (mv 5)) (hs:=fun _ _=>rfl)))) (Zb (mv 3)))) (Zf Zg)))) (Yo (Z2 Za5 (Zbb (Zx rfl) Yy (Yo (Z2 Za5 (Zbb (Zx rfl) Yy (Zb (mv 0)) (Yo (Z2 Za5 (Zbb (Zx rfl) Yy (Zb (mv 1)) (Zb (mv 5)) (hs:=fun _ _=>rfl)))) (hs:=fun _ _=>rfl)))) (Zb (mv 4)) (hs:=fun _ _=>rfl)))) (hm:=(Yw _)))) (Zn (Ym (Yl (Z9 Zik)))) (Y4 Y0))))))
   (Zn (Ym (Yl (Z9 Zik))))))))
theorem Js:Z3 ["rows", "points", "places", "k", "far", "good", "place"] ["rows", "points"] (Zi J9):=⟨rfl,rfl,rfl,by decide +kernel,rfl,by decide +kernel,by decide +kernel⟩
theorem Zff {f:Nat→Addr} {fd:Nat→FuncData} {cls:Nat→Addr} (T:Txt K mg f fd cls):FnOk P w K mg base CX0 2 (f 1) (fd 1) ["rows", "points"] (spD K (sD Yx)):=by
 have G_law_fits:=Zm3 (P:=P) (w:=w) (base:=base) T
 refine Ws T.F_law_on_line Js (S:=Za4) rfl rfl (fun cdv A outer s H E hr=>?_)
 have hu:=hr.units
 exact (Zu (Zh (Zdj (Zdk (i:=2) Js.nd rfl (Or.inl rfl) (Wt (Za3 (Za (Z9 Zo) (Zf Zg))))))
   (Zu (Zh (Wd (Wg PassesOwn.never rfl (Zqd (Zey (by rfl) T.z_range (Za (Z9 Zo) (Za (W2 Zfc (Zbq Zbx (Wk rfl) (by rfl) T.z_len L2.B.boot_len (Za (Zb (mv 1)) (Zf Zg)))) (Zf Zg))))) (Z0 (Zz (i:=3) Js.nd))
   (Zu (Zh (Z8 (Z7 (i:=4) Js.nd rfl (Or.inl rfl) (Yo (Z2 Za5 (Zbb (Zx rfl) Yy (Yo (Z2 Za5 (Zbb (Zx rfl) Yy (Zb (mv 0)) (Yo (Z2 Za5 (Zbb (Zx rfl) Yy (Zb (mv 1)) (Z9 Zo) (hs:=fun _ _=>rfl)))) (hs:=fun _ _=>rfl)))) (Yo (Z2 Za5 (Zbb (Zx rfl) Yy (Zb (mv 1)) (Zb (mv 3)) (hs:=fun _ _=>rfl)))) (hs:=fun _ _=>rfl))))))
   (Zu (Zh (Zdj (Zdk (i:=5) Js.nd rfl (Or.inl rfl) (Wt (Za3 (Zf Zg)))))
   (Zu (Zh (Wd (Wg PassesOwn.never rfl (Zwd (Zwe (Zdy (Zgm (Za (Zb (mv 4)) (Za (Zt Zl5 (Yd Zgs Ye (Z9 Zo) (Zb (mv 4)))) (Zf Zg))))))) (Z0 (Zz (i:=6) Js.nd))
   (Zn (Zbe (Zbd (Zdd (Zde (Z6 (Ys G_law_fits (hr.mono (by decide)) (by rfl) T.m_law_fits T.F_law_fits.kp T.b_law_fits Yk (Za (Zb (mv 0)) (Za (Zb (mv 1)) (Za (Za0 (mo 2)) (Za (Zb (mv 6)) (Zf Zg))))))) (fun _=>rfl))) (Zn (Zf9 (Zf3 5 (Zb (mv 6))))) (Y4 Y0))))))
   (Zu (Zh (Zbe (Zbd (Wm Zpu (Wn (Zd4 hu) Zgk (Za0 (mo 5)) (Wt (Za3 (Zf Zg))) (hm:=(Yw _)))) (Zn (Ym (Yl (Z9 Zfd)))) (Y4 Y0)))
   (Zn (Zf9 (Zf3 2 (Zj7 (Zor (Yo (Z2 Za5 (Zbb (Zx rfl) Yy (Za0 (mo 5)) (Z9 Zo) (hs:=fun _ _=>rfl)))))))))))))))))))
   (Zn (Zh7 (Zh5 2)))))))
theorem Yt:Z3 ["rows", "n", "some", "b", "threes", "a", "fours", "c", "points"] ["rows"] (Zi Zca):=⟨rfl,rfl,rfl,by decide +kernel,rfl,by decide +kernel,by decide +kernel⟩
theorem Zm7 {f:Nat→Addr} {fd:Nat→FuncData} {cls:Nat→Addr} (T:Txt K mg f fd cls):FnOk P w K mg base CX0 3 (f 2) (fd 2) ["rows"] (spD K (sD Za9)):=by
 have G_law_on_line:=Zff (P:=P) (w:=w) (base:=base) T
 refine Ws T.F_law_bars Yt (S:=Zc2) rfl rfl (fun cdv A outer s H E hr=>?_)
 have hu:=hr.units
 exact (Zu (Zh (Z8 (Z7 (i:=1) Yt.nd rfl (Or.inl rfl) (W2 Zfc (Zbq Zbx (Wk rfl) (by rfl) T.z_len L2.B.boot_len (Za (Zb (mv 0)) (Zf Zg))))))
   (Zu (Zh (Z8 (Z7 (i:=2) Yt.nd rfl (Or.inl rfl) (Wt (Za3 (Zf Zg)))))
   (Zu (Zh (Wd (Wg PassesOwn.never rfl (Zb1 (Yi (by rfl) T.z_range (Za (Zb (mv 1)) (Zf Zg)))) (Z0 (Zz (i:=3) Yt.nd))
   (Zn (Z8 (Z7 (i:=2) Yt.nd rfl (Or.inl rfl) (Yo (Z2 Zm8 (Zvn (Zfk rfl) Zhj (Zb (mv 2)) (J1 (Zbs (own:=["a"]) (caps:=[3]) (N':=["a", "b"]) (by exact ⟨rfl,by decide +kernel,rfl,by decide +kernel,rfl,rfl⟩) (by rfl) (by decide) (Zb1 (Yi (by rfl) T.z_range (Za (Zb (mv 3)) (Zf Zg)))) (fun _ _ _ _ _=>(Z0 (Zz (i:=0) (by show List.Nodup (["a", "b"]:List Str); decide +kernel)))) (fun _ _ _ _ _=>(Jh Jg)) (fun _ _ _ _ _=>(Zdy (Zgm (Za (Zb (mv 0)) (Za (Zb (mv 1)) (Zf Zg))))))))))))))))
   (Zu (Zh (Z8 (Z7 (i:=4) Yt.nd rfl (Or.inl rfl) (Wt (Za3 (Zf Zg)))))
   (Zu (Zh (Wd (Wg PassesOwn.never rfl (Wy (W0 (Z38 Zy3 (Z8m Zvf (Zpz Z3a rfl hu) (by rfl) T.z_sorted L2.B.boot_sorted (Za (Zb (mv 2)) (Zf Zg)))))) (Zop (Zow (n:=2) (by rfl) (Zb0 (Zd5 (Z0 (Zz (i:=5) Yt.nd)) (Zb0 (Zd5 (Z0 (Zz (i:=3) Yt.nd)) (Zj0 Zkb)))))))
   (Zn (Z8 (Z7 (i:=4) Yt.nd rfl (Or.inl rfl) (Yo (Z2 Zm8 (Zvn (Zfk rfl) Zhj (Zb (mv 4)) (J1 (Zbs (own:=["c"]) (caps:=[5,3]) (N':=["c", "a", "b"]) (by exact ⟨rfl,by decide +kernel,rfl,by decide +kernel,rfl,rfl⟩) (by rfl) (by decide) (Zqd (Zey (by rfl) T.z_range (Za (Zt Zbc (Yd W3 Ye (Zb (mv 3)) (Z9 Zo))) (Za (Zb (mv 1)) (Zf Zg))))) (fun _ _ _ _ _=>(Z0 (Zz (i:=0) (by show List.Nodup (["c", "a", "b"]:List Str); decide +kernel)))) (fun _ _ _ _ _=>(Jh Jg)) (fun _ _ _ _ _=>(Zdy (Zgm (Za (Zb (mv 1)) (Za (Zb (mv 2)) (Za (Zb (mv 0)) (Zf Zg)))))))))))))))))
   (Zu (Zh (Z8 (Z7 (i:=6) Yt.nd rfl (Or.inl rfl) (Wt (Za3 (Zf Zg)))))
   (Zu (Zh (Wd (Wg PassesOwn.never rfl (Wy (W0 (Zb (mv 4)))) (Zop (Zow (n:=3) (by rfl) (Zb0 (Zd5 (Z0 (Zz (i:=5) Yt.nd)) (Zb0 (Zd5 (Z0 (Zz (i:=3) Yt.nd)) (Zb0 (Zd5 (Z0 (Zz (i:=7) Yt.nd)) (Zj0 Zkb)))))))))
   (Zn (Z8 (Z7 (i:=6) Yt.nd rfl (Or.inl rfl) (Yo (Z2 Zm8 (Zvn (Zfk rfl) Zhj (Zb (mv 6)) (J1 (Zbs (own:=["e"]) (caps:=[5,3,7]) (N':=["e", "a", "b", "c"]) (by exact ⟨rfl,by decide +kernel,rfl,by decide +kernel,rfl,rfl⟩) (by rfl) (by decide) (Zqd (Zey (by rfl) T.z_range (Za (Zt Zbc (Yd W3 Ye (Zb (mv 7)) (Z9 Zo))) (Za (Zb (mv 1)) (Zf Zg))))) (fun _ _ _ _ _=>(Z0 (Zz (i:=0) (by show List.Nodup (["e", "a", "b", "c"]:List Str); decide +kernel)))) (fun _ _ _ _ _=>(Jh Jg)) (fun _ _ _ _ _=>(Zdy (Zgm (Za (Zb (mv 1)) (Za (Zb (mv 2)) (Za (Zb (mv 3)) (Za (Zb (mv 0)) (Zf Zg))))))))))))))))))
   (Zu (Zh (Wd (Wg PassesOwn.never rfl (Wy (W0 (Yo (Z2 Zm8 (Zvn (Zfk rfl) Zhj (Zb (mv 4)) (Zb (mv 6))))))) (Z0 (Zz (i:=8) Yt.nd))
   (Zn (Zbe (Zbd (Wm Z4k (Wn Zot Znn (Z6 (Ys G_law_on_line (hr.mono (by decide)) (by rfl) T.m_law_on_line T.F_law_on_line.kp T.b_law_on_line Yk (Za (Zb (mv 0)) (Za (Zb (mv 8)) (Zf Zg))))) (Z9 Zfd) (hm:=(Yw _)))) (Zn (Ym (Yl (Zb (mv 8))))) (Y4 Y0))))))
   (Zn (Ym (Yl (Z9 Zfd))))))))))))))))))))
theorem Zhi:Z3 ["deck", "many", "taken"] ["deck", "many"] (Zi Zb7):=⟨rfl,rfl,rfl,by decide +kernel,rfl,by decide +kernel,by decide +kernel⟩
theorem Zbo {f:Nat→Addr} {fd:Nat→FuncData} {cls:Nat→Addr} (T:Txt K mg f fd cls):FnOk P w K mg base CX0 1 (f 3) (fd 3) ["deck", "many"] (spI K (sI Zj)):=by
 refine Zgo T.F_law_take Zhi (S:=Ze2) rfl rfl (fun cdv A outer s H E hr=>?_)
 have hu:=hr.units
 exact (Zu (Zh (Z8 (Z7 (i:=2) Zhi.nd rfl (Or.inl rfl) (Zt Zsk (Yd Zhl Zh8 (Yo (Z2 Za5 (Zbb (Zx rfl) Yy (Za0 (mo 0)) (Z9 Zo) (hs:=fun _ _=>rfl)))) (Zb (mv 1))))))
   (Zu (Zh (Zvj (Zwk 0 (Zt Zgv (Yd Zc7 Zgu (Yo (Z2 Za5 (Zbb (Zx rfl) Yy (Za0 (mo 0)) (Z9 Zo) (hs:=fun _ _=>rfl)))) (Zb (mv 1)))) (Z9 Zo)))
   (Zn (Ym (Yl (Zb (mv 2)))))))))
theorem Zkh:Z3 ["deck"] ["deck"] (Zi Zaq):=⟨rfl,rfl,rfl,by decide +kernel,rfl,by decide +kernel,by decide +kernel⟩
theorem Zjf {f:Nat→Addr} {fd:Nat→FuncData} {cls:Nat→Addr} (T:Txt K mg f fd cls):FnOk P w K mg base CX0 2 (f 4) (fd 4) ["deck"] (spI K (sI Zbh)):=by
 have G_law_take:=Zbo (P:=P) (w:=w) (base:=base) T
 refine Zgo T.F_law_bottom Zkh (S:=Zd1) rfl rfl (fun cdv A outer s H E hr=>?_)
 have hu:=hr.units
 exact (Zn (Ym (Yl (Zt Zbc (Yd W3 Ye (Z9 Zo) (Yg (Yu (i:=0) G_law_take (hr.mono (by decide)) (by rfl) T.m_law_take T.F_law_take.kp T.b_law_take Yk (Za (Yo (Z2 Za5 (Zbb (Zx rfl) Yy (Wt (Za3 (Za (Z9 Zo) (Za (Z9 Zo) (Za (Zt Zgy (Yd Zbu Zdu (Z9 Zo) (Z9 Zo))) (Zf Zg)))))) (Yg (Yu (i:=0) G_law_take (hr.mono (by decide)) (by rfl) T.m_law_take T.F_law_take.kp T.b_law_take Yk (Za (Z9 Zo) (Zf Zg)))) (hs:=fun _ _=>rfl)))) (Zf Zg)))))))))
theorem Zfs:Z3 ["cell", "k", "number"] ["cell", "k"] (Zi Zb8):=⟨rfl,rfl,rfl,by decide +kernel,rfl,by decide +kernel,by decide +kernel⟩
theorem Zmp {f:Nat→Addr} {fd:Nat→FuncData} {cls:Nat→Addr} (T:Txt K mg f fd cls):FnOk P w K mg base CX0 1 (f 5) (fd 5) ["cell", "k"] (spD K (sD Wb)):=by
 refine Ws T.F_law_stir Zfs (S:=Zeo) rfl rfl (fun cdv A outer s H E hr=>?_)
 have hu:=hr.units
 exact (Zu (Zh (Z8 (Z7 (i:=2) Zfs.nd rfl (Or.inl rfl) (Zt Zbc (Yd W3 Ye (Zt Zbc (Yd W3 Ye (Zt Zhn (Yd Zcv Ze7 (Zt Zsk (Yd Zhl Zh8 (Zb (mv 0)) (Zt Zgy (Yd Zbu Zdu (Z9 Zo) (Z9 Zo))))) (Z9 Zo))) (Zt Zhn (Yd Zcv Ze7 (Zt Zhn (Yd Zcv Ze7 (Zt Zgy (Yd Zbu Zdu (Z9 Zo) (Z9 Zo))) (Zt Zbc (Yd W3 Ye (Zb (mv 1)) (Z9 Zo))))) (Zt Zbc (Yd W3 Ye (Zb (mv 1)) (Z9 Zo))))))) (Zb (mv 1))))))
   (Zu (Zh (Z8 (Z7 (i:=2) Zfs.nd rfl (Or.inl rfl) (Zt Zbc (Yd W3 Ye (Zt Zhn (Yd Zcv Ze7 (Zb (mv 2)) (Zb (mv 2)))) (Zt Zhn (Yd Zcv Ze7 (Z9 Zo) (Zb (mv 2))))))))
   (Zn (Ym (Yl (Zt Zgv (Yd Zc7 Zgu (Zt Zsk (Yd Zhl Zh8 (Zt Zhn (Yd Zcv Ze7 (Zb (mv 2)) (Zb (mv 2)))) (Zt Zbc (Yd W3 Ye (Zt Zgy (Yd Zbu Zdu (Z9 Zo) (Z9 Zo))) (Z9 Zo))))) (Z9 Zo))))))))))
theorem Zmw:Z3 ["cell"] ["cell"] (Zi Zb6):=⟨rfl,rfl,rfl,by decide +kernel,rfl,by decide +kernel,by decide +kernel⟩
theorem Zmi {f:Nat→Addr} {fd:Nat→FuncData} {cls:Nat→Addr} (T:Txt K mg f fd cls):FnOk P w K mg base CX0 2 (f 6) (fd 6) ["cell"] (spD K (sD Zav)):=by
 have G_law_stir:=Zmp (P:=P) (w:=w) (base:=base) T
 refine Ws T.F_law_deck Zmw (S:=Za2) rfl rfl (fun cdv A outer s H E hr=>?_)
 have hu:=hr.units
 exact (Zu (Zh (Zbe (Zbd (Wm Z8i (Wn Z6d Zgt (Zb (mv 0)) (Zt Zgy (Yd Zbu Zdu (Z9 Zo) (Z9 Zo))) (hm:=(Yw _)))) (Zn (Ym (Yl (Wt (Za3 (Za (Zt Zl5 (Yd Zgs Ye (Zb (mv 0)) (Zt Zgy (Yd Zbu Zdu (Z9 Zo) (Z9 Zo))))) (Zf Zg))))))) (Y4 Y0)))
   (Zn (Ym (Yl (Wt (Za3 (Za (Zt Zbc (Yd W3 Ye (Zt Zhn (Yd Zcv Ze7 (Zt Zbc (Yd W3 Ye (Zt Zhn (Yd Zcv Ze7 (Z6 (Ys G_law_stir (hr.mono (by decide)) (by rfl) T.m_law_stir T.F_law_stir.kp T.b_law_stir Yk (Za (Zb (mv 0)) (Za (Z9 Zo) (Zf Zg))))) (Zt Zgy (Yd Zbu Zdu (Z9 Zo) (Z9 Zo))))) (Z6 (Ys G_law_stir (hr.mono (by decide)) (by rfl) T.m_law_stir T.F_law_stir.kp T.b_law_stir Yk (Za (Zb (mv 0)) (Za (Z9 Zo) (Zf Zg))))))) (Zt Zgy (Yd Zbu Zdu (Z9 Zo) (Z9 Zo))))) (Z6 (Ys G_law_stir (hr.mono (by decide)) (by rfl) T.m_law_stir T.F_law_stir.kp T.b_law_stir Yk (Za (Zb (mv 0)) (Za (Z9 Zo) (Zf Zg))))))) (Zf Zg)))))))))
theorem Zlm:Z3 ["places"] ["places"] (Zi Zbk):=⟨rfl,rfl,rfl,by decide +kernel,rfl,by decide +kernel,by decide +kernel⟩
theorem Zkr {f:Nat→Addr} {fd:Nat→FuncData} {cls:Nat→Addr} (T:Txt K mg f fd cls):FnOk P w K mg base CX0 1 (f 7) (fd 7) ["places"] (spD K (sD Ji)):=by
 refine Ws T.F_law_lined Zlm (S:=Zbw) rfl rfl (fun cdv A outer s H E hr=>?_)
 have hu:=hr.units
 exact (Zn (Ym (Yl (J1 (Zbs (own:=["one"]) (caps:=[0]) (N':=["one", "places"]) (by exact ⟨rfl,by decide +kernel,rfl,by decide +kernel,rfl,rfl⟩) (by rfl) (by decide) (Wy (W0 (Zb (mv 0)))) (fun _ _ _ _ _=>(Z0 (Zz (i:=0) (by show List.Nodup (["one", "places"]:List Str); decide +kernel)))) (fun _ _ _ _ _=>(Jh Jg)) (fun _ _ _ _ _=>(J1 (Zbs (own:=["other"]) (caps:=[0]) (N':=["other", "one"]) (by exact ⟨rfl,by decide +kernel,rfl,by decide +kernel,rfl,rfl⟩) (by rfl) (by decide) (Wy (W0 (Zb (mv 1)))) (fun _ _ _ _ _=>(Z0 (Zz (i:=0) (by show List.Nodup (["other", "one"]:List Str); decide +kernel)))) (fun _ _ _ _ _=>(Jh Jg)) (fun _ _ _ _ _=>(W2 Zjo (Zbq Zf8 Zb2 (by rfl) T.z_abs L2.B.boot_abs (Za (Zt Zl5 (Yd Zgs Ye (Zb (mv 1)) (Zb (mv 0)))) (Zf Zg)))))))))))))
theorem Zdm:Z3 ["rows", "bits", "weight", "one", "other"] ["rows", "bits", "weight"] (Zi Zac):=⟨rfl,rfl,rfl,by decide +kernel,rfl,by decide +kernel,by decide +kernel⟩
theorem Zie {f:Nat→Addr} {fd:Nat→FuncData} {cls:Nat→Addr} (T:Txt K mg f fd cls):FnOk P w K mg base CX0 1 (f 8) (fd 8) ["rows", "bits", "weight"] (spI K (sI Jz)):=by
 refine Zgo T.F_law_add_cut Zdm (S:=Zdc) rfl rfl (fun cdv A outer s H E hr=>?_)
 have hu:=hr.units
 exact (Zn (Wd (Wg PassesOwn.never rfl (Zb1 (Yi (by rfl) T.z_range (Za (W2 Zfc (Zbq Zbx (Wk rfl) (by rfl) T.z_len L2.B.boot_len (Za (Za0 (mo 0)) (Zf Zg)))) (Zf Zg)))) (Z0 (Zz (i:=3) Zdm.nd))
   (Zn (Wd (Wg PassesOwn.never rfl (Zb1 (Yi (by rfl) T.z_range (Za (W2 Zfc (Zbq Zbx (Wk rfl) (by rfl) T.z_len L2.B.boot_len (Za (Za0 (mo 0)) (Zf Zg)))) (Zf Zg)))) (Z0 (Zz (i:=4) Zdm.nd))
   (Zn (Zbe (Zbd (Wm Zp9 (Wn (Zed hu) Zg0 (Zt Z19 (Yd Zvo Ye (Zt Z1u (Yd Zwu Zh8 (Zb (mv 1)) (Zb (mv 3)))) (Z9 Zo))) (Zt Z19 (Yd Zvo Ye (Zt Z1u (Yd Zwu Zh8 (Zb (mv 1)) (Zb (mv 4)))) (Z9 Zo))) (hm:=(Yw _)))) (Zn (Zeb (Zd7 0 (Zt Zbc (Yd W3 Ye (Yo (Z2 Za5 (Zbb (Zx rfl) Yy (Yo (Z2 Za5 (Zbb (Zx rfl) Yy (Za0 (mo 0)) (Zb (mv 3)) (hs:=fun _ _=>rfl)))) (Zb (mv 4)) (hs:=fun _ _=>rfl)))) (Zb (mv 2)))) (Zb (mv 3)) (Zb (mv 4)) (fun _ _=>rfl)))) (Y4 Y0))))))))))
theorem Zkj:Z3 ["n"] ["n"] (Zi Zap):=⟨rfl,rfl,rfl,by decide +kernel,rfl,by decide +kernel,by decide +kernel⟩
theorem Zjg {f:Nat→Addr} {fd:Nat→FuncData} {cls:Nat→Addr} (T:Txt K mg f fd cls):FnOk P w K mg base CX0 1 (f 9) (fd 9) ["n"] (spD K (sD Wo)):=by
 refine Ws T.F_law_nought Zkj (S:=J7) rfl rfl (fun cdv A outer s H E hr=>?_)
 have hu:=hr.units
 exact (Zn (Ym (Yl (J1 (Zbs (own:=["one"]) (caps:=[0]) (N':=["one", "n"]) (by exact ⟨rfl,by decide +kernel,rfl,by decide +kernel,rfl,rfl⟩) (by rfl) (by decide) (Zb1 (Yi (by rfl) T.z_range (Za (Zb (mv 0)) (Zf Zg)))) (fun _ _ _ _ _=>(Z0 (Zz (i:=0) (by show List.Nodup (["one", "n"]:List Str); decide +kernel)))) (fun _ _ _ _ _=>(Jh Jg)) (fun _ _ _ _ _=>(J1 (Zbs (own:=["other"]) (caps:=[]) (N':=["other"]) (by exact ⟨rfl,by decide +kernel,rfl,by decide +kernel,rfl,rfl⟩) (by rfl) (by decide) (Zb1 (Yi (by rfl) T.z_range (Za (Zb (mv 1)) (Zf Zg)))) (fun _ _ _ _ _=>(Z0 (Zz (i:=0) (by show List.Nodup (["other"]:List Str); decide +kernel)))) (fun _ _ _ _ _=>(Jh Jg)) (fun _ _ _ _ _=>(Z9 Zo))))))))))
theorem J0:Z3 ["rows", "n", "by", "one", "other"] ["rows"] (Zi Jr):=⟨rfl,rfl,rfl,by decide +kernel,rfl,by decide +kernel,by decide +kernel⟩
theorem Zhb {f:Nat→Addr} {fd:Nat→FuncData} {cls:Nat→Addr} (T:Txt K mg f fd cls):FnOk P w K mg base CX0 1 (f 10) (fd 10) ["rows"] (spI K (sI Zaj)):=by
 refine Zgo T.F_law_shortest J0 (S:=Zcw) rfl rfl (fun cdv A outer s H E hr=>?_)
 have hu:=hr.units
 exact (Zu (Zh (Z8 (Z7 (i:=1) J0.nd rfl (Or.inl rfl) (W2 Zfc (Zbq Zbx (Wk rfl) (by rfl) T.z_len L2.B.boot_len (Za (Za0 (mo 0)) (Zf Zg))))))
   (Zn (Wd (Wg PassesOwn.never rfl (Zb1 (Yi (by rfl) T.z_range (Za (Zb (mv 1)) (Zf Zg)))) (Z0 (Zz (i:=2) J0.nd))
   (Zn (Wd (Wg PassesOwn.never rfl (Zb1 (Yi (by rfl) T.z_range (Za (Zb (mv 1)) (Zf Zg)))) (Z0 (Zz (i:=3) J0.nd))
   (Zn (Wd (Wg PassesOwn.never rfl (Zb1 (Yi (by rfl) T.z_range (Za (Zb (mv 1)) (Zf Zg)))) (Z0 (Zz (i:=4) J0.nd))
   (Zn (Zeb (Zd7 0 (W2 Z6s (Zbq Zw8 (Zrh (by rfl)) (by rfl) T.z_min L2.B.boot_min (Za (Yo (Z2 Za5 (Zbb (Zx rfl) Yy (Yo (Z2 Za5 (Zbb (Zx rfl) Yy (Za0 (mo 0)) (Zb (mv 3)) (hs:=fun _ _=>rfl)))) (Zb (mv 4)) (hs:=fun _ _=>rfl)))) (Za (Zt Zbc (Yd W3 Ye (Yo (Z2 Za5 (Zbb (Zx rfl) Yy (Yo (Z2 Za5 (Zbb (Zx rfl) Yy (Za0 (mo 0)) (Zb (mv 3)) (hs:=fun _ _=>rfl)))) (Zb (mv 2)) (hs:=fun _ _=>rfl)))) (Yo (Z2 Za5 (Zbb (Zx rfl) Yy (Yo (Z2 Za5 (Zbb (Zx rfl) Yy (Za0 (mo 0)) (Zb (mv 2)) (hs:=fun _ _=>rfl)))) (Zb (mv 4)) (hs:=fun _ _=>rfl)))))) (Zf Zg))))) (Zb (mv 3)) (Zb (mv 4)) (fun _ _=>rfl)))))))))))))))
theorem Wz:Z3 ["deck", "n", "rows", "kind", "k", "bits", "ways", "most", "one", "other"] ["deck", "n"] (Zi Zb4):=⟨rfl,rfl,rfl,by decide +kernel,rfl,by decide +kernel,by decide +kernel⟩
theorem Zmh {f:Nat→Addr} {fd:Nat→FuncData} {cls:Nat→Addr} (T:Txt K mg f fd cls):FnOk P w K mg base CX0 2 (f 11) (fd 11) ["deck", "n"] (spI K (sI Zcy)):=by
 have G_law_add_cut:=Zie (P:=P) (w:=w) (base:=base) T
 have G_law_nought:=Zjg (P:=P) (w:=w) (base:=base) T
 have G_law_shortest:=Zhb (P:=P) (w:=w) (base:=base) T
 have G_law_take:=Zbo (P:=P) (w:=w) (base:=base) T
 refine Zgo T.F_law_long Wz (S:=Zez) rfl rfl (fun cdv A outer s H E hr=>?_)
 have hu:=hr.units
 exact (Zu (Zh (Zdj (Zdk (i:=2) Wz.nd rfl (Or.inl rfl) (Z6 (Ys G_law_nought (hr.mono (by decide)) (by rfl) T.m_law_nought T.F_law_nought.kp T.b_law_nought Yk (Za (Zb (mv 1)) (Zf Zg))))))
   (Zu (Zh (Z8 (Z7 (i:=3) Wz.nd rfl (Or.inl rfl) (Yg (Yu (i:=0) G_law_take (hr.mono (by decide)) (by rfl) T.m_law_take T.F_law_take.kp T.b_law_take Yk (Za (Z9 Zo) (Zf Zg))))))
   (Zu (Zh (Zbe (Zbd (Wm Zp9 (Wn (Zed hu) Zg0 (Zb (mv 3)) (Z9 Zo) (hm:=(Yw _)))) (Zn (Wd (Wg PassesOwn.never rfl (Zb1 (Yi (by rfl) T.z_range (Za (Yg (Yu (i:=0) G_law_take (hr.mono (by decide)) (by rfl) T.m_law_take T.F_law_take.kp T.b_law_take Yk (Za (Z9 Zo) (Zf Zg)))) (Zf Zg)))) (Z0 (Zz (i:=4) Wz.nd))
   (Zu (Zh (Z8 (Z7 (i:=5) Wz.nd rfl (Or.inl rfl) (Yg (Yu (i:=0) G_law_take (hr.mono (by decide)) (by rfl) T.m_law_take T.F_law_take.kp T.b_law_take Yk (Za (Zt Z57 (Yd Z21 Z1p (Z9 Zo) (Zb (mv 1)))) (Zf Zg))))))
   (Zn (Zre (Zss (Yg (Yu (i:=2) G_law_add_cut (hr.mono (by decide)) (by rfl) T.m_law_add_cut T.F_law_add_cut.kp T.b_law_add_cut Yk (Za (Zb (mv 5)) (Za (Zt Zbc (Yd W3 Ye (Z9 Zo) (Yg (Yu (i:=0) G_law_take (hr.mono (by decide)) (by rfl) T.m_law_take T.F_law_take.kp T.b_law_take Yk (Za (Yo (Z2 Za5 (Zbb (Zx rfl) Yy (Wt (Za3 (Za (Z9 Zo) (Za (Zt Zgy (Yd Zbu Zdu (Z9 Zo) (Z9 Zo))) (Zf Zg))))) (Yg (Yu (i:=0) G_law_take (hr.mono (by decide)) (by rfl) T.m_law_take T.F_law_take.kp T.b_law_take Yk (Za (Z9 Zo) (Zf Zg)))) (hs:=fun _ _=>rfl)))) (Zf Zg)))))) (Zf Zg))))))))))))) (Y4 Y0)))
   (Zu (Zh (Zbe (Zbd (Wm Z0b (Wn Zo0 Zgt (Zb (mv 3)) (Z9 Zo) (hm:=(Yw _)))) (Zu (Zh (Zdj (Zdk (i:=6) Wz.nd rfl (Or.inl rfl) (Z6 (Ys G_law_nought (hr.mono (by decide)) (by rfl) T.m_law_nought T.F_law_nought.kp T.b_law_nought Yk (Za (Zb (mv 1)) (Zf Zg))))))
   (Zu (Zh (Z8 (Z7 (i:=7) Wz.nd rfl (Or.inl rfl) (Yo (Z2 Za5 (Zbb (Zx rfl) Yy (Wt (Za3 (Za (Z9 Zo) (Za (Z9 Zo) (Za (Zt Zgy (Yd Zbu Zdu (Z9 Zo) (Z9 Zo))) (Zf Zg)))))) (Yg (Yu (i:=0) G_law_take (hr.mono (by decide)) (by rfl) T.m_law_take T.F_law_take.kp T.b_law_take Yk (Za (Z9 Zo) (Zf Zg)))) (hs:=fun _ _=>rfl))))))
   (Zu (Zh (Wd (Wg PassesOwn.never rfl (Zb1 (Yi (by rfl) T.z_range (Za (Zb (mv 1)) (Zf Zg)))) (Z0 (Zz (i:=8) Wz.nd))
   (Zn (Wd (Wg PassesOwn.never rfl (Zb1 (Yi (by rfl) T.z_range (Za (Zb (mv 8)) (Zf Zg)))) (Z0 (Zz (i:=9) Wz.nd))
   (Zu (Zh (Zeb (Zd7 6 (Yo (Z2 Za5 (Zbb (Zx rfl) Yy (Wt (Za3 (Za (Zt Zbc (Yd W3 Ye (Z9 Zo) (Yg (Yu (i:=0) G_law_take (hr.mono (by decide)) (by rfl) T.m_law_take T.F_law_take.kp T.b_law_take Yk (Za (Zb (mv 7)) (Zf Zg)))))) (Za (Zb (mv 7)) (Zf Zg))))) (W2 Z2o (Z06 Zv8 Zlp (by rfl) T.z_int L2.B.boot_int (Za (Zt Zpu (Zmm (Zd4 hu) Zgk (Zb (mv 3)) (Z9 Zo) (hm:=(Yw _)))) (Zf Zg)))) (hs:=fun _ _=>rfl)))) (Zb (mv 8)) (Zb (mv 9)) (fun _ _=>rfl)))
   (Zu (Zh (Zbe (Zbd (MW.mt (Zs7 (Zqb (Wm Zpu (Wn (Zd4 hu) Zgk (Zb (mv 3)) (Z9 Zo) (hm:=(Yw _)))) (Znc (Wm Zpu (Wn (Zd4 hu) Zgk (Yg (Yu (i:=0) G_law_take (hr.mono (by decide)) (by rfl) T.m_law_take T.F_law_take.kp T.b_law_take Yk (Za (Z9 Zo) (Zf Zg)))) (Z9 Zo) (hm:=(Yw _)))))))) (Zn (Zeb (Zd7 6 (Z9 Zo) (Zb (mv 8)) (Zb (mv 9)) (fun _ _=>rfl)))) (Y4 Y0)))
   (Zn (Zeb (Zd7 6 (Zj7 (Zor (Yo (Z2 Za5 (Zbb (Zx rfl) Yy (Yo (Z2 Za5 (Zbb (Zx rfl) Yy (Za0 (mo 6)) (Zb (mv 8)) (hs:=fun _ _=>rfl)))) (Zb (mv 9)) (hs:=fun _ _=>rfl)))))) (Zb (mv 9)) (Zb (mv 8)) (fun _ _=>rfl)))))))))))))
   (Zu (Zh (Zre (Zss (Yg (Yu (i:=6) G_law_shortest (hr.mono (by decide)) (by rfl) T.m_law_shortest T.F_law_shortest.kp T.b_law_shortest Yk (Zf Zg)))))
   (Zn (Wd (Wg PassesOwn.never rfl (Zb1 (Yi (by rfl) T.z_range (Za (Zb (mv 1)) (Zf Zg)))) (Z0 (Zz (i:=8) Wz.nd))
   (Zn (Zvj (Zwk 2 (J1 (Zbs (own:=["number", "more"]) (caps:=[]) (N':=["number", "more"]) (by exact ⟨rfl,by decide +kernel,rfl,by decide +kernel,rfl,rfl⟩) (by rfl) (by decide) (Zxd (Zya (by rfl) T.z_zip L2.B.boot_zip (Za (Yo (Z2 Za5 (Zbb (Zx rfl) Yy (Za0 (mo 2)) (Zb (mv 8)) (hs:=fun _ _=>rfl)))) (Za (Yo (Z2 Za5 (Zbb (Zx rfl) Yy (Za0 (mo 6)) (Zb (mv 8)) (hs:=fun _ _=>rfl)))) (Zf Zg))))) (fun _ _ _ _ _=>(Zop (Zow (n:=2) (by rfl) (Zb0 (Zll (Zg2 (Zg6 (i:=0) (by show List.Nodup (["number", "more"]:List Str); decide +kernel))) (Zb0 (Zll (Zg2 (Zg6 (i:=1) (by show List.Nodup (["number", "more"]:List Str); decide +kernel))) (Zj0 Zkb)))))))) (fun _ _ _ _ _=>(Jh Jg)) (fun _ _ _ _ _=>(Zt Zbc (Yd W3 Ye (Zb (mv 0)) (Zb (mv 1))))))) (Zb (mv 8)))))))))))))))) (Y4 Y0)))
   (Zn (Zh7 (Zh5 2)))))))))))
theorem Zf4:Z3 ["deck", "n", "far"] ["deck", "n"] (Zi Zas):=⟨rfl,rfl,rfl,by decide +kernel,rfl,by decide +kernel,by decide +kernel⟩
theorem Zkf {f:Nat→Addr} {fd:Nat→FuncData} {cls:Nat→Addr} (T:Txt K mg f fd cls):FnOk P w K mg base CX0 2 (f 12) (fd 12) ["deck", "n"] (spI K (sI J8)):=by
 have G_law_take:=Zbo (P:=P) (w:=w) (base:=base) T
 refine Zgo T.F_law_places Zf4 (S:=Zd0) rfl rfl (fun cdv A outer s H E hr=>?_)
 have hu:=hr.units
 exact (Zu (Zh (Z8 (Z7 (i:=2) Zf4.nd rfl (Or.inr rfl) (Yo (Z2 Za5 (Zbb (Zx rfl) Yy (Wt (Za3 (Za (Z9 Zo) (Za (Z9 Zo) (Za (Zt Zgy (Yd Zbu Zdu (Z9 Zo) (Z9 Zo))) (Zf Zg)))))) (Yg (Yu (i:=0) G_law_take (hr.mono (by decide)) (by rfl) T.m_law_take T.F_law_take.kp T.b_law_take Yk (Za (Z9 Zo) (Zf Zg)))) (hs:=fun _ _=>rfl))))))
   (Zn (Ym (Yl (Ztg (Zyn (own:=["point"]) (caps:=[0,2]) (N':=["point", "deck", "far"]) (o:=0) (q:=1) (by exact ⟨rfl,by decide +kernel,rfl,by decide +kernel,rfl,rfl⟩) (by rfl) (by decide) rfl (by decide) (Zb1 (Yi (by rfl) T.z_range (Za (Zb (mv 1)) (Zf Zg)))) (fun _ _ _ _ _=>(Z0 (Zz (i:=0) (by show List.Nodup (["point", "deck", "far"]:List Str); decide +kernel)))) (fun _ _ _ _ _=>(Jh Jg)) (fun _ _ _ _ _=>(Zt Zl5 (Yd Zgs Ye (Yg (Yu (i:=1) G_law_take (hr.mono (by decide)) (by rfl) T.m_law_take T.F_law_take.kp T.b_law_take Yk (Za (Zt Zbc (Yd W3 Ye (Zt Zhn (Yd Zcv Ze7 (Z9 Zo) (Zb (mv 2)))) (Z9 Zo))) (Zf Zg)))) (Zb (mv 2))))))))))))
theorem Zai:Z3 ["deck", "n", "one", "other", "square", "near", "k"] ["deck", "n"] (Zi Zcd):=⟨rfl,rfl,rfl,by decide +kernel,rfl,by decide +kernel,by decide +kernel⟩
theorem Zme {f:Nat→Addr} {fd:Nat→FuncData} {cls:Nat→Addr} (T:Txt K mg f fd cls):FnOk P w K mg base CX0 2 (f 13) (fd 13) ["deck", "n"] (spI K (sI Zci)):=by
 have G_law_take:=Zbo (P:=P) (w:=w) (base:=base) T
 refine Zgo T.F_law_ring Zai (S:=Zew) rfl rfl (fun cdv A outer s H E hr=>?_)
 have hu:=hr.units
 exact (Zu (Zh (Z8 (Z7 (i:=2) Zai.nd rfl (Or.inl rfl) (Zt Zbc (Yd W3 Ye (Z9 Zo) (Yg (Yu (i:=0) G_law_take (hr.mono (by decide)) (by rfl) T.m_law_take T.F_law_take.kp T.b_law_take Yk (Za (Z9 Zo) (Zf Zg))))))))
   (Zu (Zh (Z8 (Z7 (i:=3) Zai.nd rfl (Or.inl rfl) (Zt Zbc (Yd W3 Ye (Z9 Zo) (Yg (Yu (i:=0) G_law_take (hr.mono (by decide)) (by rfl) T.m_law_take T.F_law_take.kp T.b_law_take Yk (Za (Z9 Zo) (Zf Zg))))))))
   (Zu (Zh (Z8 (Z7 (i:=4) Zai.nd rfl (Or.inr rfl) (Wt (Za3 (Za (Wt (Za3 (Za (Z9 Zo) (Za (Zb (mv 2)) (Za (Zt Zbc (Yd W3 Ye (Zb (mv 2)) (Zb (mv 3)))) (Za (Zb (mv 3)) (Zf Zg))))))) (Za (Wt (Za3 (Za (Zb (mv 2)) (Za (Z9 Zo) (Za (Zb (mv 3)) (Za (Zt Zbc (Yd W3 Ye (Zb (mv 2)) (Zb (mv 3)))) (Zf Zg))))))) (Zf Zg)))))))
   (Zu (Zh (Z8 (Z7 (i:=4) Zai.nd rfl (Or.inr rfl) (Yo (Z2 Zm8 (Zvn (Zfk rfl) Zhj (Zb (mv 4)) (Wt (Za3 (Za (Wt (Za3 (Za (Zt Zbc (Yd W3 Ye (Zb (mv 2)) (Zb (mv 3)))) (Za (Zb (mv 3)) (Za (Z9 Zo) (Za (Zb (mv 2)) (Zf Zg))))))) (Za (Wt (Za3 (Za (Zb (mv 3)) (Za (Zt Zbc (Yd W3 Ye (Zb (mv 2)) (Zb (mv 3)))) (Za (Zb (mv 2)) (Za (Z9 Zo) (Zf Zg))))))) (Zf Zg))))))))))
   (Zu (Zh (Zdj (Zdk (i:=5) Zai.nd rfl (Or.inr rfl) (Wt (Za3 (Zf Zg)))))
   (Zu (Zh (Wd (Wg PassesOwn.never rfl (Zb1 (Yi (by rfl) T.z_range (Za (Zb (mv 1)) (Zf Zg)))) (Z0 (Zz (i:=6) Zai.nd))
   (Zn (Zrm (Zqt 5 (Za (Yg (Yu (i:=0) G_law_take (hr.mono (by decide)) (by rfl) T.m_law_take T.F_law_take.kp T.b_law_take Yk (Za (Zt Zbc (Yd W3 Ye (Zb (mv 6)) (Z9 Zo))) (Zf Zg)))) (Za (Yo (Z2 Za5 (Zbb (Zx rfl) Yy (Wt (Za3 (Za (Zb (mv 6)) (Za (Yg (Yu (i:=0) G_law_take (hr.mono (by decide)) (by rfl) T.m_law_take T.F_law_take.kp T.b_law_take Yk (Za (Z9 Zo) (Zf Zg)))) (Zf Zg))))) (W2 Z2o (Z06 Zv8 Zlp (by rfl) T.z_int L2.B.boot_int (Za (Zt Z0b (Zmm Zo0 Zgt (Zb (mv 6)) (Z9 Zo) (hm:=(Yw _)))) (Zf Zg)))) (hs:=fun _ _=>rfl)))) (Zf Zg))))))))
   (Zn (Ym (Yl (J1 (Zbs (own:=["a"]) (caps:=[5,4]) (N':=["a", "near", "square"]) (by exact ⟨rfl,by decide +kernel,rfl,by decide +kernel,rfl,rfl⟩) (by rfl) (by decide) (Wy (W0 (Za0 (mo 5)))) (fun _ _ _ _ _=>(Zg2 (Zg6 (i:=0) (by show List.Nodup (["a", "near", "square"]:List Str); decide +kernel)))) (fun _ _ _ _ _=>(Jh Jg)) (fun _ _ _ _ _=>(J1 (Zbs (own:=["b"]) (caps:=[2,0]) (N':=["b", "square", "a"]) (by exact ⟨rfl,by decide +kernel,rfl,by decide +kernel,rfl,rfl⟩) (by rfl) (by decide) (Wy (W0 (Za0 (mo 1)))) (fun _ _ _ _ _=>(Zg2 (Zg6 (i:=0) (by show List.Nodup (["b", "square", "a"]:List Str); decide +kernel)))) (fun _ _ _ _ _=>(Jh Jg)) (fun _ _ _ _ _=>(Yo (Z2 Za5 (Zbb (Zx rfl) Yy (Yo (Z2 Za5 (Zbb (Zx rfl) Yy (Zb (mv 1)) (Zb (mv 2)) (hs:=fun _ _=>rfl)))) (Zb (mv 0)) (hs:=fun _ _=>rfl)))))))))))))))))))))))))
theorem Yn:Z3 ["deck", "n", "kind", "rows", "k", "one", "other", "far"] ["deck", "n"] (Zi Wr):=⟨rfl,rfl,rfl,by decide +kernel,rfl,by decide +kernel,by decide +kernel⟩
theorem Zgf {f:Nat→Addr} {fd:Nat→FuncData} {cls:Nat→Addr} (T:Txt K mg f fd cls):FnOk P w K mg base CX0 3 (f 14) (fd 14) ["deck", "n"] (spI K (sI J5)):=by
 have G_law_lined:=Zkr (P:=P) (w:=w) (base:=base) T
 have G_law_long:=Zmh (P:=P) (w:=w) (base:=base) T
 have G_law_places:=Zkf (P:=P) (w:=w) (base:=base) T
 have G_law_ring:=Zme (P:=P) (w:=w) (base:=base) T
 have G_law_take:=Zbo (P:=P) (w:=w) (base:=base) T
 refine Zgo T.F_law_some_table Yn (S:=Zbr) rfl rfl (fun cdv A outer s H E hr=>?_)
 have hu:=hr.units
 exact (Zu (Zh (Z8 (Z7 (i:=2) Yn.nd rfl (Or.inl rfl) (Yg (Yu (i:=0) G_law_take (hr.mono (by decide)) (by rfl) T.m_law_take T.F_law_take.kp T.b_law_take Yk (Za (Z9 Zo) (Zf Zg))))))
   (Zu (Zh (Zbe (Zbd (Wm Zpu (Wn (Zd4 hu) Zgk (Zb (mv 2)) (Z9 Zo) (hm:=(Yw _)))) (Zn (Ym (Yl (Yg (Yu (i:=0) G_law_long (hr.mono (by decide)) (by rfl) T.m_law_long T.F_law_long.kp T.b_law_long Yk (Za (Zb (mv 1)) (Zf Zg))))))) (Y4 Y0)))
   (Zu (Zh (Zbe (Zbd (MW.mt (Zs7 (Zqb (Wm Zpu (Wn (Zd4 hu) Zgk (Zb (mv 2)) (Z9 Zo) (hm:=(Yw _)))) (Znc (Wm Z0b (Wn Zo0 Zgt (Zb (mv 1)) (Z9 Zo) (hm:=(Yw _)))))))) (Zn (Ym (Yl (Yg (Yu (i:=0) G_law_ring (hr.mono (by decide)) (by rfl) T.m_law_ring T.F_law_ring.kp T.b_law_ring Yk (Za (Zb (mv 1)) (Zf Zg))))))) (Y4 Y0)))
   (Zu (Zh (Zdj (Zdk (i:=3) Yn.nd rfl (Or.inl rfl) (Z6 (Ys G_law_lined (hr.mono (by decide)) (by rfl) T.m_law_lined T.F_law_lined.kp T.b_law_lined Yk (Za (Yg (Yu (i:=0) G_law_places (hr.mono (by decide)) (by rfl) T.m_law_places T.F_law_places.kp T.b_law_places Yk (Za (Zb (mv 1)) (Zf Zg)))) (Zf Zg))))))
   (Zu (Zh (Wd (Wg PassesOwn.never rfl (Zb1 (Yi (by rfl) T.z_range (Za (Yo (Z2 Za5 (Zbb (Zx rfl) Yy (Wt (Za3 (Za (Z9 Zo) (Za (Z9 Zo) (Za (Z9 Zo) (Za (Z9 Zo) (Za (Z9 Zo) (Za (Z9 Zo) (Zf Zg))))))))) (Zb (mv 2)) (hs:=fun _ _=>rfl)))) (Zf Zg)))) (Z0 (Zz (i:=4) Yn.nd))
   (Zu (Zh (Z8 (Z7 (i:=5) Yn.nd rfl (Or.inl rfl) (Yg (Yu (i:=0) G_law_take (hr.mono (by decide)) (by rfl) T.m_law_take T.F_law_take.kp T.b_law_take Yk (Za (Zb (mv 1)) (Zf Zg))))))
   (Zu (Zh (Z8 (Z7 (i:=6) Yn.nd rfl (Or.inl rfl) (Yg (Yu (i:=0) G_law_take (hr.mono (by decide)) (by rfl) T.m_law_take T.F_law_take.kp T.b_law_take Yk (Za (Zb (mv 1)) (Zf Zg))))))
   (Zn (Zbe (Zbd (Wm Zp9 (Wn (Zed hu) Zg0 (Zb (mv 5)) (Zb (mv 6)) (hm:=(Yw _)))) (Zu (Zh (Z8 (Z7 (i:=7) Yn.nd rfl (Or.inl rfl) (Zt Zl5 (Yd Zgs Ye (Zt Zbc (Yd W3 Ye (Zj7 (Zor (Yo (Z2 Za5 (Zbb (Zx rfl) Yy (Yo (Z2 Za5 (Zbb (Zx rfl) Yy (Za0 (mo 3)) (Zb (mv 5)) (hs:=fun _ _=>rfl)))) (Zb (mv 6)) (hs:=fun _ _=>rfl)))))) (Yg (Yu (i:=0) G_law_take (hr.mono (by decide)) (by rfl) T.m_law_take T.F_law_take.kp T.b_law_take Yk (Za (Z9 Zo) (Zf Zg)))))) (Z9 Zo)))))
   (Zu (Zh (Zeb (Zd7 3 (W2 Zjo (Zbq Zf8 Zb2 (by rfl) T.z_abs L2.B.boot_abs (Za (Zb (mv 7)) (Zf Zg)))) (Zb (mv 5)) (Zb (mv 6)) (fun _ _=>rfl)))
   (Zn (Zeb (Zd7 3 (W2 Zjo (Zbq Zf8 Zb2 (by rfl) T.z_abs L2.B.boot_abs (Za (Zb (mv 7)) (Zf Zg)))) (Zb (mv 6)) (Zb (mv 5)) (fun _ _=>rfl)))))))) (Y4 Y0))))))))))
   (Zu (Zh (Zbe (Zbd (Wm Zpu (Wn (Zd4 hu) Zgk (Zb (mv 2)) (Z9 Zo) (hm:=(Yw _)))) (Zn (Wd (Wg PassesOwn.never rfl (Zb1 (Yi (by rfl) T.z_range (Za (Zb (mv 1)) (Zf Zg)))) (Z0 (Zz (i:=5) Yn.nd))
   (Zn (Wd (Wg PassesOwn.never rfl (Zb1 (Yi (by rfl) T.z_range (Za (Zb (mv 5)) (Zf Zg)))) (Z0 (Zz (i:=6) Yn.nd))
   (Zu (Zh (Zeb (Zd7 3 (Yg (Yu (i:=0) G_law_take (hr.mono (by decide)) (by rfl) T.m_law_take T.F_law_take.kp T.b_law_take Yk (Za (Z9 Zo) (Zf Zg)))) (Zb (mv 5)) (Zb (mv 6)) (fun _ _=>rfl)))
   (Zn (Zeb (Zd7 3 (Zj7 (Zor (Yo (Z2 Za5 (Zbb (Zx rfl) Yy (Yo (Z2 Za5 (Zbb (Zx rfl) Yy (Za0 (mo 3)) (Zb (mv 5)) (hs:=fun _ _=>rfl)))) (Zb (mv 6)) (hs:=fun _ _=>rfl)))))) (Zb (mv 6)) (Zb (mv 5)) (fun _ _=>rfl)))))))))))) (Y4 Y0)))
   (Zn (Zh7 (Zh5 3)))))))))))))))
theorem W8:Z3 ["top", "bottom", "one", "other", "rest"] ["top", "bottom"] (Zi Jt):=⟨rfl,rfl,rfl,by decide +kernel,rfl,by decide +kernel,by decide +kernel⟩
theorem Zh0 {f:Nat→Addr} {fd:Nat→FuncData} {cls:Nat→Addr} (T:Txt K mg f fd cls):FnOk P w K mg base CX0 1 (f 15) (fd 15) ["top", "bottom"] (spD K (sD Zal)):=by
 refine Ws T.F_law_fraction W8 (S:=Zcu) rfl rfl (fun cdv A outer s H E hr=>?_)
 have hu:=hr.units
 exact (Zu (Zh (Z8 (Z7 (i:=2) W8.nd rfl (Or.inl rfl) (W2 Zjo (Zbq Zf8 Zb2 (by rfl) T.z_abs L2.B.boot_abs (Za (Zb (mv 0)) (Zf Zg))))))
   (Zu (Zh (Z8 (Z7 (i:=3) W8.nd rfl (Or.inl rfl) (Zb (mv 1))))
   (Zu (Zh (Znr (Zoq PassesOwn.never (Wm Zp9 (Wn (Zed hu) Zg0 (Zb (mv 3)) (Z9 Zo) (hm:=(Yw _)))) (Zu (Zh (Z8 (Z7 (i:=4) W8.nd rfl (Or.inl rfl) (Zt Zsk (Yd Zhl Zh8 (Zb (mv 2)) (Zb (mv 3))))))
   (Zu (Zh (Z8 (Z7 (i:=2) W8.nd rfl (Or.inl rfl) (Zb (mv 3))))
   (Zn (Z8 (Z7 (i:=3) W8.nd rfl (Or.inl rfl) (Zb (mv 4)))))))))))
   (Zn (Ym (Yl (Zdy (Zgm (Za (Zt Zgv (Yd Zc7 Zgu (Zb (mv 0)) (Zb (mv 2)))) (Za (Zt Zgv (Yd Zc7 Zgu (Zb (mv 1)) (Zb (mv 2)))) (Zf Zg))))))))))))))
theorem Zlf:Z3 ["rows", "bottom"] ["rows", "bottom"] (Zi Zbi):=⟨rfl,rfl,rfl,by decide +kernel,rfl,by decide +kernel,by decide +kernel⟩
theorem Zkl {f:Nat→Addr} {fd:Nat→FuncData} {cls:Nat→Addr} (T:Txt K mg f fd cls):FnOk P w K mg base CX0 2 (f 16) (fd 16) ["rows", "bottom"] (spD K (sD Jl)):=by
 have G_law_fraction:=Zh0 (P:=P) (w:=w) (base:=base) T
 refine Ws T.F_law_table Zlf (S:=Zef) rfl rfl (fun cdv A outer s H E hr=>?_)
 have hu:=hr.units
 exact (Zn (Ym (Yl (J1 (Zbs (own:=["row"]) (caps:=[1]) (N':=["row", "bottom"]) (by exact ⟨rfl,by decide +kernel,rfl,by decide +kernel,rfl,rfl⟩) (by rfl) (by decide) (Wy (W0 (Zb (mv 0)))) (fun _ _ _ _ _=>(Z0 (Zz (i:=0) (by show List.Nodup (["row", "bottom"]:List Str); decide +kernel)))) (fun _ _ _ _ _=>(Jh Jg)) (fun _ _ _ _ _=>(J1 (Zbs (own:=["number"]) (caps:=[1]) (N':=["number", "bottom"]) (by exact ⟨rfl,by decide +kernel,rfl,by decide +kernel,rfl,rfl⟩) (by rfl) (by decide) (Wy (W0 (Zb (mv 0)))) (fun _ _ _ _ _=>(Z0 (Zz (i:=0) (by show List.Nodup (["number", "bottom"]:List Str); decide +kernel)))) (fun _ _ _ _ _=>(Jh Jg)) (fun _ _ _ _ _=>(Z6 (Ys G_law_fraction (hr.mono (by decide)) (by rfl) T.m_law_fraction T.F_law_fraction.kp T.b_law_fraction Yk (Za (Zb (mv 0)) (Za (Zb (mv 1)) (Zf Zg))))))))))))))
theorem Zm5:Z3 ["table", "point"] ["table", "point"] (Zi Zce):=⟨rfl,rfl,rfl,by decide +kernel,rfl,by decide +kernel,by decide +kernel⟩
theorem Zmk {f:Nat→Addr} {fd:Nat→FuncData} {cls:Nat→Addr} (T:Txt K mg f fd cls):FnOk P w K mg base CX0 1 (f 17) (fd 17) ["table", "point"] (spD K (sD Zc1)):=by
 refine Ws T.F_is_point Zm5 (S:=Zen) rfl rfl (fun cdv A outer s H E hr=>?_)
 have hu:=hr.units
 exact (Zn (Ym (Yl (Ztk (Zxb Z5w Z4a (Z9 Zo) (Zb (mv 1)) (W2 Zfc (Zbq Zbx (Wk rfl) (by rfl) T.z_len L2.B.boot_len (Za (Zb (mv 0)) (Zf Zg)))))))))
theorem Zip:Z3 ["table", "points", "point"] ["table", "points"] (Zi Zdv):=⟨rfl,rfl,rfl,by decide +kernel,rfl,by decide +kernel,by decide +kernel⟩
theorem Zi2 {f:Nat→Addr} {fd:Nat→FuncData} {cls:Nat→Addr} (T:Txt K mg f fd cls):FnOk P w K mg base CX0 2 (f 18) (fd 18) ["table", "points"] (spD K (sD Zdh)):=by
 have G_is_point:=Zmk (P:=P) (w:=w) (base:=base) T
 refine Ws T.F_is_part Zip (S:=Zfg) rfl rfl (fun cdv A outer s H E hr=>?_)
 have hu:=hr.units
 exact (Zu (Zh (Wd (Wg PassesOwn.never rfl (Wy (W0 (Zb (mv 1)))) (Z0 (Zz (i:=2) Zip.nd))
   (Zn (Zbe (Zbd (Zee (Zei (Zdd (Zde (Z6 (Ys G_is_point (hr.mono (by decide)) (by rfl) T.m_is_point T.F_is_point.kp T.b_is_point Yk (Za (Zb (mv 0)) (Za (Zb (mv 2)) (Zf Zg))))) (fun _=>rfl))))) (Zn (Ym (Yl (Z9 Zik)))) (Y4 Y0))))))
   (Zn (Ym (Yl (Zqh (Z3d (Zt Z0b (Zmm Zo0 Zgt (W2 Zfc (Zbq Zbx (Wk rfl) (by rfl) T.z_len L2.B.boot_len (Za (Zb (mv 1)) (Zf Zg)))) (Z9 Zo) (hm:=(Yw _)))) (Z10 (Zt Zpu (Zmm (Zd4 hu) Zgk (Zs5 (Zuu (by rfl) (by rfl) T.z_len L2.B.boot_len (by rfl) T.z_set L2.B.boot_set (Za (Zb (mv 1)) (Zf Zg)))) (W2 Zfc (Zbq Zbx (Wk rfl) (by rfl) T.z_len L2.B.boot_len (Za (Zb (mv 1)) (Zf Zg)))) (hm:=(Yw _))))))))))))
theorem Ze9:Z3 ["table", "points", "part", "point"] ["table", "points"] (Zi Zdw):=⟨rfl,rfl,rfl,by decide +kernel,rfl,by decide +kernel,by decide +kernel⟩
theorem Zo5 {f:Nat→Addr} {fd:Nat→FuncData} {cls:Nat→Addr} (T:Txt K mg f fd cls):FnOk P w K mg base CX0 3 (f 19) (fd 19) ["table", "points"] (spD K (sD Zae)):=by
 have G_is_part:=Zi2 (P:=P) (w:=w) (base:=base) T
 refine Ws T.F_part_of Ze9 (S:=Zdl) rfl rfl (fun cdv A outer s H E hr=>?_)
 have hu:=hr.units
 exact (Zu (Zh (Zbe (Zbd (Zee (Zei (Zdd (Zde (Z6 (Ys G_is_part (hr.mono (by decide)) (by rfl) T.m_is_part T.F_is_part.kp T.b_is_part Yk (Za (Zb (mv 0)) (Za (Zb (mv 1)) (Zf Zg))))) (fun _=>rfl))))) (Zn Zha) (Y4 Y0)))
   (Zu (Zh (Zdj (Zdk (i:=2) Ze9.nd rfl (Or.inl rfl) (Wt (Za3 (Zf Zg)))))
   (Zu (Zh (Wd (Wg PassesOwn.never rfl (Wy (W0 (Zb (mv 1)))) (Z0 (Zz (i:=3) Ze9.nd))
   (Zn (Zf9 (Zf3 2 (J1 (Zbs (own:=["other"]) (caps:=[0,3]) (N':=["other", "table", "point"]) (by exact ⟨rfl,by decide +kernel,rfl,by decide +kernel,rfl,rfl⟩) (by rfl) (by decide) (Wy (W0 (Zb (mv 1)))) (fun _ _ _ _ _=>(Z0 (Zz (i:=0) (by show List.Nodup (["other", "table", "point"]:List Str); decide +kernel)))) (fun _ _ _ _ _=>(Jh Jg)) (fun _ _ _ _ _=>(Yo (Z2 Za5 (Zbb (Zx rfl) Yy (Yo (Z2 Za5 (Zbb (Zx rfl) Yy (Zb (mv 1)) (Zb (mv 2)) (hs:=fun _ _=>rfl)))) (Zb (mv 0)) (hs:=fun _ _=>rfl))))))))))))
   (Zn (Zh7 (Zh5 2)))))))))
theorem Zna {f:Nat→Addr} {fd:Nat→FuncData} {cls:Nat→Addr} (T:Txt K mg f fd cls):FnOk P w K mg base (CX1 P w) 3 (f 19) (fd 19) ["table", "points"] (spX K (sX K Zae)):=by
 have G_is_part:=Zi2 (P:=P) (w:=w) (base:=base) T
 refine Zwi T.F_part_of Ze9 (S:=Zdl) rfl rfl (fun cdv A outer s H E hr=>?_)
 have hu:=hr.units
 exact (Zvz (Z39 (Z3m (Zee (Zei (Zdd (Zde (Z6 (Ys G_is_part (hr.mono (by decide)) (by rfl) T.m_is_part T.F_is_part.kp T.b_is_part Yk (Za (Zb (mv 0)) (Za (Zb (mv 1)) (Zf Zg))))) (fun _=>rfl))))) (Zr3 (Zom T.ca_NoPoint (Zn8 rfl hr.hd (by rfl) T.mC_NoPoint T.r_NoPoint))) (Zog _))) (Zbe (Zbd (Zee (Zei (Zdd (Zde (Z6 (Ys G_is_part (hr.mono (by decide)) (by rfl) T.m_is_part T.F_is_part.kp T.b_is_part Yk (Za (Zb (mv 0)) (Za (Zb (mv 1)) (Zf Zg))))) (fun _=>rfl))))) (Zn Zha) (Y4 Y0))) (Zog _))
theorem Zfe:Z3 ["rows", "point"] ["rows"] (Zi Zab):=⟨rfl,rfl,rfl,by decide +kernel,rfl,by decide +kernel,by decide +kernel⟩
theorem Zim {f:Nat→Addr} {fd:Nat→FuncData} {cls:Nat→Addr} (T:Txt K mg f fd cls):FnOk P w K mg base CX0 1 (f 20) (fd 20) ["rows"] (spD K (sD Jy)):=by
 refine Ws T.F_first_apart Zfe (S:=Zax) rfl rfl (fun cdv A outer s H E hr=>?_)
 have hu:=hr.units
 exact (Zu (Zh (Wd (Wg PassesOwn.never rfl (Zb1 (Yi (by rfl) T.z_range (Za (W2 Zfc (Zbq Zbx (Wk rfl) (by rfl) T.z_len L2.B.boot_len (Za (Zb (mv 0)) (Zf Zg)))) (Zf Zg)))) (Z0 (Zz (i:=1) Zfe.nd))
   (Zn (Zbe (Zbd (Wm Z0b (Wn Zo0 Zgt (Yo (Z2 Za5 (Zbb (Zx rfl) Yy (Yo (Z2 Za5 (Zbb (Zx rfl) Yy (Zb (mv 0)) (Z9 Zo) (hs:=fun _ _=>rfl)))) (Zb (mv 1)) (hs:=fun _ _=>rfl)))) (Z9 Zo) (hm:=(Yw _)))) (Zn (Ym (Yl (Zb (mv 1))))) (Y4 Y0))))))
   (Zn (Ym (Yl (Z9 Zo))))))
theorem Zec:Z3 ["n", "pairs", "i", "j"] ["n"] (Zi Zcc):=⟨rfl,rfl,rfl,by decide +kernel,rfl,by decide +kernel,by decide +kernel⟩
theorem Zmg {f:Nat→Addr} {fd:Nat→FuncData} {cls:Nat→Addr} (T:Txt K mg f fd cls):FnOk P w K mg base CX0 1 (f 21) (fd 21) ["n"] (spD K (sD Zcq)):=by
 refine Ws T.F_pairs_of Zec (S:=Zes) rfl rfl (fun cdv A outer s H E hr=>?_)
 have hu:=hr.units
 exact (Zu (Zh (Zdj (Zdk (i:=1) Zec.nd rfl (Or.inl rfl) (Wt (Za3 (Zf Zg)))))
   (Zu (Zh (Wd (Wg PassesOwn.never rfl (Zb1 (Yi (by rfl) T.z_range (Za (Zb (mv 0)) (Zf Zg)))) (Z0 (Zz (i:=2) Zec.nd))
   (Zn (Wd (Wg PassesOwn.never rfl (Zqd (Zey (by rfl) T.z_range (Za (Zt Zbc (Yd W3 Ye (Zb (mv 2)) (Z9 Zo))) (Za (Zb (mv 0)) (Zf Zg))))) (Z0 (Zz (i:=3) Zec.nd))
   (Zn (Zf9 (Zf3 1 (Zdy (Zgm (Za (Zb (mv 2)) (Za (Zb (mv 3)) (Zf Zg)))))))))))))
   (Zn (Zh7 (Zh5 1)))))))
theorem Zdp:Z3 ["rows", "places", "i", "j"] ["rows", "places"] (Zi Zaa):=⟨rfl,rfl,rfl,by decide +kernel,rfl,by decide +kernel,by decide +kernel⟩
theorem Zil {f:Nat→Addr} {fd:Nat→FuncData} {cls:Nat→Addr} (T:Txt K mg f fd cls):FnOk P w K mg base CX0 2 (f 22) (fd 22) ["rows", "places"] (spD K (sD Wv)):=by
 have G_pairs_of:=Zmg (P:=P) (w:=w) (base:=base) T
 refine Ws T.F_fits_places Zdp (S:=Za7) rfl rfl (fun cdv A outer s H E hr=>?_)
 have hu:=hr.units
 exact (Zu (Zh (Wd (Wg PassesOwn.never rfl (Wy (W0 (Z6 (Ys G_pairs_of (hr.mono (by decide)) (by rfl) T.m_pairs_of T.F_pairs_of.kp T.b_pairs_of Yk (Za (W2 Zfc (Zbq Zbx (Wk rfl) (by rfl) T.z_len L2.B.boot_len (Za (Zb (mv 0)) (Zf Zg)))) (Zf Zg)))))) (Zop (Zow (n:=2) (by rfl) (Zb0 (Zd5 (Z0 (Zz (i:=2) Zdp.nd)) (Zb0 (Zd5 (Z0 (Zz (i:=3) Zdp.nd)) (Zj0 Zkb)))))))
   (Zn (Zbe (Zbd (Wm Zp9 (Wn (Zed hu) Zg0 (W2 Zjo (Zbq Zf8 Zb2 (by rfl) T.z_abs L2.B.boot_abs (Za (Zt Zl5 (Yd Zgs Ye (Yo (Z2 Za5 (Zbb (Zx rfl) Yy (Zb (mv 1)) (Zb (mv 2)) (hs:=fun _ _=>rfl)))) (Yo (Z2 Za5 (Zbb (Zx rfl) Yy (Zb (mv 1)) (Zb (mv 3)) (hs:=fun _ _=>rfl)))))) (Zf Zg)))) (Yo (Z2 Za5 (Zbb (Zx rfl) Yy (Yo (Z2 Za5 (Zbb (Zx rfl) Yy (Zb (mv 0)) (Zb (mv 2)) (hs:=fun _ _=>rfl)))) (Zb (mv 3)) (hs:=fun _ _=>rfl)))) (hm:=(Yw _)))) (Zn (Ym (Yl (Z9 Zik)))) (Y4 Y0))))))
   (Zn (Ym (Yl (Z9 Zik))))))
theorem Zhr:Z3 ["rows", "apart", "point", "far"] ["rows", "apart", "point"] (Zi Zch):=⟨rfl,rfl,rfl,by decide +kernel,rfl,by decide +kernel,by decide +kernel⟩
theorem Zm9 {f:Nat→Addr} {fd:Nat→FuncData} {cls:Nat→Addr} (T:Txt K mg f fd cls):FnOk P w K mg base CX0 1 (f 23) (fd 23) ["rows", "apart", "point"] (spD K (sD Zc0)):=by
 refine Ws T.F_place_of Zhr (S:=Ze6) rfl rfl (fun cdv A outer s H E hr=>?_)
 have hu:=hr.units
 exact (Zu (Zh (Z8 (Z7 (i:=3) Zhr.nd rfl (Or.inl rfl) (Yo (Z2 Za5 (Zbb (Zx rfl) Yy (Yo (Z2 Za5 (Zbb (Zx rfl) Yy (Zb (mv 0)) (Z9 Zo) (hs:=fun _ _=>rfl)))) (Zb (mv 2)) (hs:=fun _ _=>rfl))))))
   (Zu (Zh (Zbe (Zbd (Wm Zpu (Wn (Zd4 hu) Zgk (W2 Zjo (Zbq Zf8 Zb2 (by rfl) T.z_abs L2.B.boot_abs (Za (Zt Zl5 (Yd Zgs Ye (Yo (Z2 Za5 (Zbb (Zx rfl) Yy (Yo (Z2 Za5 (Zbb (Zx rfl) Yy (Zb (mv 0)) (Z9 Zo) (hs:=fun _ _=>rfl)))) (Zb (mv 1)) (hs:=fun _ _=>rfl)))) (Zb (mv 3)))) (Zf Zg)))) (Yo (Z2 Za5 (Zbb (Zx rfl) Yy (Yo (Z2 Za5 (Zbb (Zx rfl) Yy (Zb (mv 0)) (Zb (mv 1)) (hs:=fun _ _=>rfl)))) (Zb (mv 2)) (hs:=fun _ _=>rfl)))) (hm:=(Yw _)))) (Zn (Ym (Yl (Zb (mv 3))))) (Y4 Y0)))
   (Zn (Ym (Yl (Zq6 (Zzl (Zb (mv 3)))))))))))
theorem Ze4:Z3 ["rows", "apart", "places"] ["rows"] (Zi Zbj):=⟨rfl,rfl,rfl,by decide +kernel,rfl,by decide +kernel,by decide +kernel⟩
theorem Zgr {f:Nat→Addr} {fd:Nat→FuncData} {cls:Nat→Addr} (T:Txt K mg f fd cls):FnOk P w K mg base CX0 3 (f 24) (fd 24) ["rows"] (spD K (sD Jp)):=by
 have G_first_apart:=Zim (P:=P) (w:=w) (base:=base) T
 have G_fits_places:=Zil (P:=P) (w:=w) (base:=base) T
 have G_place_of:=Zm9 (P:=P) (w:=w) (base:=base) T
 refine Ws T.F_places_of Ze4 (S:=Zeg) rfl rfl (fun cdv A outer s H E hr=>?_)
 have hu:=hr.units
 exact (Zu (Zh (Z8 (Z7 (i:=1) Ze4.nd rfl (Or.inr rfl) (Z6 (Ys G_first_apart (hr.mono (by decide)) (by rfl) T.m_first_apart T.F_first_apart.kp T.b_first_apart Yk (Za (Zb (mv 0)) (Zf Zg))))))
   (Zu (Zh (Zyz (Zpl (i:=2) (own:=["point"]) (caps:=[0,1]) (N':=["point", "rows", "apart"])  false Ze4.nd rfl (Or.inl rfl) (by exact ⟨rfl,by decide +kernel,rfl,by decide +kernel,rfl,rfl⟩) (by rfl) (by decide) (Zb1 (Yi (by rfl) T.z_range (Za (W2 Zfc (Zbq Zbx (Wk rfl) (by rfl) T.z_len L2.B.boot_len (Za (Zb (mv 0)) (Zf Zg)))) (Zf Zg)))) (fun _ _ _ _ _=>(Z0 (Zz (i:=0) (by show List.Nodup (["point", "rows", "apart"]:List Str); decide +kernel)))) (fun _ _ _ _ _=>(Jh Jg)) (fun _ _ _ _ _=>(Z6 (Ys G_place_of (hr.mono (by decide)) (by rfl) T.m_place_of T.F_place_of.kp T.b_place_of Yk (Za (Zb (mv 1)) (Za (Zb (mv 2)) (Za (Zb (mv 0)) (Zf Zg)))))))))
   (Zn (Ym (Yl (Yo (Z1c (Z72 (Zdd (Zde (Z6 (Ys G_fits_places (hr.mono (by decide)) (by rfl) T.m_fits_places T.F_fits_places.kp T.b_fits_places Yk (Za (Zb (mv 0)) (Za (Zb (mv 2)) (Zf Zg))))) (fun _=>rfl))) (Zb (mv 2)) (Z9 Zfd)))))))))))
theorem Wi:Z3 ["n", "many", "begun", "step", "grown", "points", "least"] ["n", "many"] (Zi W6):=⟨rfl,rfl,rfl,by decide +kernel,rfl,by decide +kernel,by decide +kernel⟩
theorem Zgz {f:Nat→Addr} {fd:Nat→FuncData} {cls:Nat→Addr} (T:Txt K mg f fd cls):FnOk P w K mg base CX0 1 (f 25) (fd 25) ["n", "many"] (spD K (sD Zad)):=by
 refine Ws T.F_rising_tuples Wi (S:=Zbz) rfl rfl (fun cdv A outer s H E hr=>?_)
 have hu:=hr.units
 exact (Zu (Zh (Z8 (Z7 (i:=2) Wi.nd rfl (Or.inl rfl) (Wt (Za3 (Za (Zdy (Zgm (Zf Zg))) (Zf Zg))))))
   (Zu (Zh (Wd (Wg PassesOwn.never rfl (Zb1 (Yi (by rfl) T.z_range (Za (Zb (mv 1)) (Zf Zg)))) (Z0 (Zz (i:=3) Wi.nd))
   (Zu (Zh (Zdj (Zdk (i:=4) Wi.nd rfl (Or.inl rfl) (Wt (Za3 (Zf Zg)))))
   (Zu (Zh (Wd (Wg PassesOwn.never rfl (Wy (W0 (Zb (mv 2)))) (Z0 (Zz (i:=5) Wi.nd))
   (Zu (Zh (Z8 (Z7 (i:=6) Wi.nd rfl (Or.inl rfl) (Yo (Z1c (Z72 (Wm Z0b (Wn Zo0 Zgt (W2 Zfc (Zbq Zbx (Wk rfl) (by rfl) T.z_len L2.B.boot_len (Za (Zb (mv 5)) (Zf Zg)))) (Z9 Zo) (hm:=(Yw _)))) (Zt Zbc (Yd W3 Ye (Yo (Z2 Za5 (Zbb (Zx rfl) Yy (Zb (mv 5)) (Zq6 (Zzl (Z9 Zo))) (hs:=fun _ _=>rfl)))) (Z9 Zo))) (Z9 Zo))))))
   (Zn (Zry (Zrk 4 (J1 (Zbs (own:=["point"]) (caps:=[5]) (N':=["point", "points"]) (by exact ⟨rfl,by decide +kernel,rfl,by decide +kernel,rfl,rfl⟩) (by rfl) (by decide) (Zqd (Zey (by rfl) T.z_range (Za (Zb (mv 6)) (Za (Zb (mv 0)) (Zf Zg))))) (fun _ _ _ _ _=>(Z0 (Zz (i:=0) (by show List.Nodup (["point", "points"]:List Str); decide +kernel)))) (fun _ _ _ _ _=>(Jh Jg)) (fun _ _ _ _ _=>(Yo (Z2 Z31 (Zvn Zz3 Zyv (Zb (mv 1)) (Zdy (Zgm (Za (Zb (mv 0)) (Zf Zg)))))))))))))))))
   (Zn (Zr9 (Zsg 4 (Z8 (Z7 (i:=2) Wi.nd rfl (Or.inl rfl) (Zb (mv 4)))))))))))))
   (Zn (Ym (Yl (Zb (mv 2)))))))))
theorem Zbf:Z3 ["rows", "many", "points"] ["rows"] (Zi Wq):=⟨rfl,rfl,rfl,by decide +kernel,rfl,by decide +kernel,by decide +kernel⟩
theorem Zgg {f:Nat→Addr} {fd:Nat→FuncData} {cls:Nat→Addr} (T:Txt K mg f fd cls):FnOk P w K mg base CX0 4 (f 26) (fd 26) ["rows"] (spD K (sD Ww)):=by
 have G_part_of:=Zo5 (P:=P) (w:=w) (base:=base) T
 have GX_part_of:=Zna (P:=P) (w:=w) (base:=base) T
 have G_places_of:=Zgr (P:=P) (w:=w) (base:=base) T
 have G_rising_tuples:=Zgz (P:=P) (w:=w) (base:=base) T
 refine Ws T.F_first_off_line Zbf (S:=J3) rfl rfl (fun cdv A outer s H E hr=>?_)
 have hu:=hr.units
 exact (Zu (Zh (Wd (Wg PassesOwn.never rfl (Zwd (Zwe (Zdy (Zgm (Za (Z9 Zo) (Za (Z9 Zo) (Zf Zg))))))) (Z0 (Zz (i:=1) Zbf.nd))
   (Zn (Wd (Wg PassesOwn.never rfl (Wy (W0 (Z6 (Ys G_rising_tuples (hr.mono (by decide)) (by rfl) T.m_rising_tuples T.F_rising_tuples.kp T.b_rising_tuples Yk (Za (W2 Zfc (Zbq Zbx (Wk rfl) (by rfl) T.z_len L2.B.boot_len (Za (Zb (mv 0)) (Zf Zg)))) (Za (Zb (mv 1)) (Zf Zg))))))) (Z0 (Zz (i:=2) Zbf.nd))
   (Zn (Zbe (Zbd (Wm Z4k (Wn Zot Znn (Z6 (Ys G_places_of (hr.mono (by decide)) (by rfl) T.m_places_of T.F_places_of.kp T.b_places_of Yk (Za (Z6 (Ys G_part_of (hr.mono (by decide)) (by rfl) T.m_part_of T.F_part_of.kp T.b_part_of Yk (Za (Zb (mv 0)) (Za (Z38 Z0l (Z8r Zw0 (Zpx rfl) (by rfl) T.z_list L2.B.boot_list (Za (Zb (mv 2)) (Zf Zg)))) (Zf Zg))))) (Zf Zg)))) (Z9 Zfd) (hm:=(Yw _)))) (Zn (Ym (Yl (Zb (mv 2))))) (Y4 Y0)))))))))
   (Zn (Ym (Yl (Z9 Zfd))))))
theorem Y7:Z3 ["a", "b", "left"] ["a", "b"] (Zi Wf):=⟨rfl,rfl,rfl,by decide +kernel,rfl,by decide +kernel,by decide +kernel⟩
theorem Zcz {f:Nat→Addr} {fd:Nat→FuncData} {cls:Nat→Addr} (T:Txt K mg f fd cls):FnOk P w K mg base CX0 1 (f 27) (fd 27) ["a", "b"] (spD K (sD Yz)):=by
 refine Ws T.F_greatest_divisor Y7 (S:=Za6) rfl rfl (fun cdv A outer s H E hr=>?_)
 have hu:=hr.units
 exact (Zu (Zh (Z8 (Z7 (i:=0) Y7.nd rfl (Or.inl rfl) (W2 Zjo (Zbq Zf8 Zb2 (by rfl) T.z_abs L2.B.boot_abs (Za (Zb (mv 0)) (Zf Zg))))))
   (Zu (Zh (Z8 (Z7 (i:=1) Y7.nd rfl (Or.inl rfl) (W2 Zjo (Zbq Zf8 Zb2 (by rfl) T.z_abs L2.B.boot_abs (Za (Zb (mv 1)) (Zf Zg))))))
   (Zu (Zh (Znr (Zoq PassesOwn.never (Wm Zp9 (Wn (Zed hu) Zg0 (Zb (mv 1)) (Z9 Zo) (hm:=(Yw _)))) (Zu (Zh (Z8 (Z7 (i:=2) Y7.nd rfl (Or.inl rfl) (Zt Zsk (Yd Zhl Zh8 (Zb (mv 0)) (Zb (mv 1))))))
   (Zu (Zh (Z8 (Z7 (i:=0) Y7.nd rfl (Or.inl rfl) (Zb (mv 1))))
   (Zn (Z8 (Z7 (i:=1) Y7.nd rfl (Or.inl rfl) (Zb (mv 2)))))))))))
   (Zn (Ym (Yl (Zb (mv 0)))))))))))
theorem Zfo:Z3 ["top", "bottom", "shared"] ["top", "bottom"] (Zi Zb5):=⟨rfl,rfl,rfl,by decide +kernel,rfl,by decide +kernel,by decide +kernel⟩
theorem Zhv {f:Nat→Addr} {fd:Nat→FuncData} {cls:Nat→Addr} (T:Txt K mg f fd cls):FnOk P w K mg base CX0 2 (f 28) (fd 28) ["top", "bottom"] (spD K (sD Zcl)):=by
 have G_greatest_divisor:=Zcz (P:=P) (w:=w) (base:=base) T
 refine Ws T.F_in_least Zfo (S:=Ze8) rfl rfl (fun cdv A outer s H E hr=>?_)
 have hu:=hr.units
 exact (Zu (Zh (Z8 (Z7 (i:=2) Zfo.nd rfl (Or.inl rfl) (Z6 (Ys G_greatest_divisor (hr.mono (by decide)) (by rfl) T.m_greatest_divisor T.F_greatest_divisor.kp T.b_greatest_divisor Yk (Za (Zb (mv 0)) (Za (Zb (mv 1)) (Zf Zg)))))))
   (Zu (Zh (Zbe (Zbd (Wm Z8f (Wn Z4a Zgt (Zb (mv 1)) (Z9 Zo) (hm:=(Yw _)))) (Zn (Z8 (Z7 (i:=2) Zfo.nd rfl (Or.inl rfl) (Zq6 (Zzl (Zb (mv 2))))))) (Y4 Y0)))
   (Zn (Ym (Yl (Zdy (Zgm (Za (Zt Zgv (Yd Zc7 Zgu (Zb (mv 0)) (Zb (mv 2)))) (Za (Zt Zgv (Yd Zc7 Zgu (Zb (mv 1)) (Zb (mv 2)))) (Zf Zg))))))))))))
theorem Zm1:Z3 ["thing"] ["thing"] (Zi Zb9):=⟨rfl,rfl,rfl,by decide +kernel,rfl,by decide +kernel,by decide +kernel⟩
theorem Zhw {f:Nat→Addr} {fd:Nat→FuncData} {cls:Nat→Addr} (T:Txt K mg f fd cls):FnOk P w K mg base CX0 1 (f 29) (fd 29) ["thing"] (spD K (sD J6)):=by
 refine Ws T.F_is_whole Zm1 (S:=Zer) rfl rfl (fun cdv A outer s H E hr=>?_)
 have hu:=hr.units
 exact (Zn (Ym (Yl (Zqh (Z3d (Zos (Zuk (by decide) (by rfl) T.z_isinstance L2.B.boot_isinstance (by rfl) T.z_int L2.B.boot_int (Zb (mv 0)))) (Z10 (Zzd (Z53 (Zos (Zuk (by decide) (by rfl) T.z_isinstance L2.B.boot_isinstance (by rfl) T.z_bool L2.B.boot_bool (Zb (mv 0))))))))))))
theorem Zh9:Z3 ["top", "bottom"] ["top", "bottom"] (Zi Zcg):=⟨rfl,rfl,rfl,by decide +kernel,rfl,by decide +kernel,by decide +kernel⟩
theorem Zmn {f:Nat→Addr} {fd:Nat→FuncData} {cls:Nat→Addr} (T:Txt K mg f fd cls):FnOk P w K mg base CX0 3 (f 30) (fd 30) ["top", "bottom"] (spD K (sD Za1)):=by
 have G_in_least:=Zhv (P:=P) (w:=w) (base:=base) T
 have G_is_whole:=Zhw (P:=P) (w:=w) (base:=base) T
 refine Ws T.F_fraction Zh9 (S:=Zcn) rfl rfl (fun cdv A outer s H E hr=>?_)
 have hu:=hr.units
 exact (Zu (Zh (Zbe (Zbd (MW.mt (Zjy (Zjz (Zee (Zei (Zdd (Zde (Z6 (Ys G_is_whole (hr.mono (by decide)) (by rfl) T.m_is_whole T.F_is_whole.kp T.b_is_whole Yk (Za (Zb (mv 0)) (Zf Zg)))) (fun _=>rfl))))) (Zjy (Zjz (Zee (Zei (Zdd (Zde (Z6 (Ys G_is_whole (hr.mono (by decide)) (by rfl) T.m_is_whole T.F_is_whole.kp T.b_is_whole Yk (Za (Zb (mv 1)) (Zf Zg)))) (fun _=>rfl))))) (Zi0 (Wm Zpu (Wn (Zd4 hu) Zgk (Zb (mv 1)) (Z9 Zo) (hm:=(Yw _)))))))))) (Zn Zha) (Y4 Y0)))
   (Zn (Ym (Yl (Z6 (Ys G_in_least (hr.mono (by decide)) (by rfl) T.m_in_least T.F_in_least.kp T.b_in_least Yk (Za (Zb (mv 0)) (Za (Zb (mv 1)) (Zf Zg))))))))))
theorem Zl4 {f:Nat→Addr} {fd:Nat→FuncData} {cls:Nat→Addr} (T:Txt K mg f fd cls):FnOk P w K mg base (CX1 P w) 3 (f 30) (fd 30) ["top", "bottom"] (spX K (sX K Za1)):=by
 have G_in_least:=Zhv (P:=P) (w:=w) (base:=base) T
 have G_is_whole:=Zhw (P:=P) (w:=w) (base:=base) T
 refine Zwi T.F_fraction Zh9 (S:=Zcn) rfl rfl (fun cdv A outer s H E hr=>?_)
 have hu:=hr.units
 exact (Zvz (Z39 (Z3m (MW.mt (Zjy (Zjz (Zee (Zei (Zdd (Zde (Z6 (Ys G_is_whole (hr.mono (by decide)) (by rfl) T.m_is_whole T.F_is_whole.kp T.b_is_whole Yk (Za (Zb (mv 0)) (Zf Zg)))) (fun _=>rfl))))) (Zjy (Zjz (Zee (Zei (Zdd (Zde (Z6 (Ys G_is_whole (hr.mono (by decide)) (by rfl) T.m_is_whole T.F_is_whole.kp T.b_is_whole Yk (Za (Zb (mv 1)) (Zf Zg)))) (fun _=>rfl))))) (Zi0 (Wm Zpu (Wn (Zd4 hu) Zgk (Zb (mv 1)) (Z9 Zo) (hm:=(Yw _)))))))))) (Zr3 (Zom T.ca_NoNumber (Zn8 rfl hr.hd (by rfl) T.mC_NoNumber T.r_NoNumber))) (Zog _))) (Zbe (Zbd (MW.mt (Zjy (Zjz (Zee (Zei (Zdd (Zde (Z6 (Ys G_is_whole (hr.mono (by decide)) (by rfl) T.m_is_whole T.F_is_whole.kp T.b_is_whole Yk (Za (Zb (mv 0)) (Zf Zg)))) (fun _=>rfl))))) (Zjy (Zjz (Zee (Zei (Zdd (Zde (Z6 (Ys G_is_whole (hr.mono (by decide)) (by rfl) T.m_is_whole T.F_is_whole.kp T.b_is_whole Yk (Za (Zb (mv 1)) (Zf Zg)))) (fun _=>rfl))))) (Zi0 (Wm Zpu (Wn (Zd4 hu) Zgk (Zb (mv 1)) (Z9 Zo) (hm:=(Yw _)))))))))) (Zn Zha) (Y4 Y0))) (Zog _))
theorem Zag:Z3 ["numbers", "bottom", "q"] ["numbers"] (Zi W9):=⟨rfl,rfl,rfl,by decide +kernel,rfl,by decide +kernel,by decide +kernel⟩
theorem Zgx {f:Nat→Addr} {fd:Nat→FuncData} {cls:Nat→Addr} (T:Txt K mg f fd cls):FnOk P w K mg base CX0 2 (f 31) (fd 31) ["numbers"] (spD K (sD W5)):=by
 have G_greatest_divisor:=Zcz (P:=P) (w:=w) (base:=base) T
 refine Ws T.F_shared_bottom Zag (S:=Zby) rfl rfl (fun cdv A outer s H E hr=>?_)
 have hu:=hr.units
 exact (Zu (Zh (Z8 (Z7 (i:=1) Zag.nd rfl (Or.inl rfl) (Z9 Zo)))
   (Zu (Zh (Wd (Wg PassesOwn.never rfl (Wy (W0 (Zb (mv 0)))) (Z0 (Zz (i:=2) Zag.nd))
   (Zn (Z8 (Z7 (i:=1) Zag.nd rfl (Or.inl rfl) (Zt Zhn (Yd Zcv Ze7 (Zt Zgv (Yd Zc7 Zgu (Zb (mv 1)) (Z6 (Ys G_greatest_divisor (hr.mono (by decide)) (by rfl) T.m_greatest_divisor T.F_greatest_divisor.kp T.b_greatest_divisor Yk (Za (Zb (mv 1)) (Za (Yo (Z2 Za5 (Zbb (Zx rfl) Yy (Zb (mv 2)) (Z9 Zo) (hs:=fun _ _=>rfl)))) (Zf Zg))))))) (Yo (Z2 Za5 (Zbb (Zx rfl) Yy (Zb (mv 2)) (Z9 Zo) (hs:=fun _ _=>rfl)))))))))))
   (Zn (Ym (Yl (Zb (mv 1)))))))))
theorem Zba:Z3 ["table", "bottom", "row"] ["table"] (Zi Jq):=⟨rfl,rfl,rfl,by decide +kernel,rfl,by decide +kernel,by decide +kernel⟩
theorem Zh6 {f:Nat→Addr} {fd:Nat→FuncData} {cls:Nat→Addr} (T:Txt K mg f fd cls):FnOk P w K mg base CX0 3 (f 32) (fd 32) ["table"] (spD K (sD Je)):=by
 have G_shared_bottom:=Zgx (P:=P) (w:=w) (base:=base) T
 refine Ws T.F_table_bottom Zba (S:=Zcj) rfl rfl (fun cdv A outer s H E hr=>?_)
 have hu:=hr.units
 exact (Zu (Zh (Z8 (Z7 (i:=1) Zba.nd rfl (Or.inl rfl) (Z9 Zo)))
   (Zu (Zh (Wd (Wg PassesOwn.never rfl (Wy (W0 (Zb (mv 0)))) (Z0 (Zz (i:=2) Zba.nd))
   (Zn (Z8 (Z7 (i:=1) Zba.nd rfl (Or.inl rfl) (Z6 (Ys G_shared_bottom (hr.mono (by decide)) (by rfl) T.m_shared_bottom T.F_shared_bottom.kp T.b_shared_bottom Yk (Za (Yo (Z2 Zm8 (Zvn (Zfk rfl) Zhj (Wt (Za3 (Za (Zdy (Zgm (Za (Z9 Zo) (Za (Zb (mv 1)) (Zf Zg))))) (Zf Zg)))) (Zb (mv 2))))) (Zf Zg)))))))))
   (Zn (Ym (Yl (Zb (mv 1)))))))))
theorem Zld:Z3 ["bottom", "numbers"] ["bottom", "numbers"] (Zi Zbg):=⟨rfl,rfl,rfl,by decide +kernel,rfl,by decide +kernel,by decide +kernel⟩
theorem Zkv {f:Nat→Addr} {fd:Nat→FuncData} {cls:Nat→Addr} (T:Txt K mg f fd cls):FnOk P w K mg base CX0 1 (f 33) (fd 33) ["bottom", "numbers"] (spD K (sD Zbv)):=by
 refine Ws T.F_tops_over Zld (S:=Zej) rfl rfl (fun cdv A outer s H E hr=>?_)
 have hu:=hr.units
 exact (Zn (Ym (Yl (J1 (Zbs (own:=["q"]) (caps:=[0]) (N':=["q", "bottom"]) (by exact ⟨rfl,by decide +kernel,rfl,by decide +kernel,rfl,rfl⟩) (by rfl) (by decide) (Wy (W0 (Zb (mv 1)))) (fun _ _ _ _ _=>(Z0 (Zz (i:=0) (by show List.Nodup (["q", "bottom"]:List Str); decide +kernel)))) (fun _ _ _ _ _=>(Jh Jg)) (fun _ _ _ _ _=>(Zt Zhn (Yd Zcv Ze7 (Yo (Z2 Za5 (Zbb (Zx rfl) Yy (Zb (mv 0)) (Z9 Zo) (hs:=fun _ _=>rfl)))) (Zt Zgv (Yd Zc7 Zgu (Zb (mv 1)) (Yo (Z2 Za5 (Zbb (Zx rfl) Yy (Zb (mv 0)) (Z9 Zo) (hs:=fun _ _=>rfl))))))))))))))
theorem Zki:Z3 ["bottom", "table"] ["bottom", "table"] (Zi Zao):=⟨rfl,rfl,rfl,by decide +kernel,rfl,by decide +kernel,by decide +kernel⟩
theorem Zi9 {f:Nat→Addr} {fd:Nat→FuncData} {cls:Nat→Addr} (T:Txt K mg f fd cls):FnOk P w K mg base CX0 2 (f 34) (fd 34) ["bottom", "table"] (spD K (sD Zbm)):=by
 have G_tops_over:=Zkv (P:=P) (w:=w) (base:=base) T
 refine Ws T.F_table_over Zki (S:=Zdt) rfl rfl (fun cdv A outer s H E hr=>?_)
 have hu:=hr.units
 exact (Zn (Ym (Yl (J1 (Zbs (own:=["row"]) (caps:=[0]) (N':=["row", "bottom"]) (by exact ⟨rfl,by decide +kernel,rfl,by decide +kernel,rfl,rfl⟩) (by rfl) (by decide) (Wy (W0 (Zb (mv 1)))) (fun _ _ _ _ _=>(Z0 (Zz (i:=0) (by show List.Nodup (["row", "bottom"]:List Str); decide +kernel)))) (fun _ _ _ _ _=>(Jh Jg)) (fun _ _ _ _ _=>(Z6 (Ys G_tops_over (hr.mono (by decide)) (by rfl) T.m_tops_over T.F_tops_over.kp T.b_tops_over Yk (Za (Zb (mv 1)) (Za (Zb (mv 0)) (Zf Zg)))))))))))
theorem Zdb:Z3 ["table", "bottom", "rows", "places"] ["table"] (Zi Zbl):=⟨rfl,rfl,rfl,by decide +kernel,rfl,by decide +kernel,by decide +kernel⟩
theorem Zko {f:Nat→Addr} {fd:Nat→FuncData} {cls:Nat→Addr} (T:Txt K mg f fd cls):FnOk P w K mg base CX0 5 (f 35) (fd 35) ["table"] (spD K (sD Zbt)):=by
 have G_first_off_line:=Zgg (P:=P) (w:=w) (base:=base) T
 have G_fraction:=Zmn (P:=P) (w:=w) (base:=base) T
 have GX_fraction:=Zl4 (P:=P) (w:=w) (base:=base) T
 have G_places_of:=Zgr (P:=P) (w:=w) (base:=base) T
 have G_table_bottom:=Zh6 (P:=P) (w:=w) (base:=base) T
 have G_table_over:=Zi9 (P:=P) (w:=w) (base:=base) T
 refine Ws T.F_line_told Zdb (S:=Zeh) rfl rfl (fun cdv A outer s H E hr=>?_)
 have hu:=hr.units
 exact (Zu (Zh (Z8 (Z7 (i:=1) Zdb.nd rfl (Or.inr rfl) (Z6 (Ys G_table_bottom (hr.mono (by decide)) (by rfl) T.m_table_bottom T.F_table_bottom.kp T.b_table_bottom Yk (Za (Zb (mv 0)) (Zf Zg))))))
   (Zu (Zh (Z8 (Z7 (i:=2) Zdb.nd rfl (Or.inl rfl) (Z6 (Ys G_table_over (hr.mono (by decide)) (by rfl) T.m_table_over T.F_table_over.kp T.b_table_over Yk (Za (Zb (mv 1)) (Za (Zb (mv 0)) (Zf Zg)))))))
   (Zu (Zh (Z8 (Z7 (i:=3) Zdb.nd rfl (Or.inl rfl) (Z6 (Ys G_places_of (hr.mono (by decide)) (by rfl) T.m_places_of T.F_places_of.kp T.b_places_of Yk (Za (Zb (mv 2)) (Zf Zg))))))
   (Zu (Zh (Zbe (Zbd (Wm Z4k (Wn Zot Znn (Zb (mv 3)) (Z9 Zfd) (hm:=(Yw _)))) (Zn (Ym (Yl (Zdy (Zgm (Za (Z9 Zni) (Za (Z6 (Ys G_first_off_line (hr.mono (by decide)) (by rfl) T.m_first_off_line T.F_first_off_line.kp T.b_first_off_line Yk (Za (Zb (mv 2)) (Zf Zg)))) (Zf Zg)))))))) (Y4 Y0)))
   (Zn (Ym (Yl (Zw2 (Z0n (Za (Z9 Zni) (Za (J1 (Zbs (own:=["place"]) (caps:=[1]) (N':=["place", "bottom"]) (by exact ⟨rfl,by decide +kernel,rfl,by decide +kernel,rfl,rfl⟩) (by rfl) (by decide) (Wy (W0 (Zb (mv 3)))) (fun _ _ _ _ _=>(Z0 (Zz (i:=0) (by show List.Nodup (["place", "bottom"]:List Str); decide +kernel)))) (fun _ _ _ _ _=>(Jh Jg)) (fun _ _ _ _ _=>(Z6 (Ys G_fraction (hr.mono (by decide)) (by rfl) T.m_fraction T.F_fraction.kp T.b_fraction Yk (Za (Zb (mv 0)) (Za (Zb (mv 1)) (Zf Zg)))))))) (Zf Zg))))))))))))))))
theorem Zeu:Z3 ["script", "cell", "deck", "n", "rows", "bottom", "table", "bars", "is_line", "turn", "found"] ["script"] (Zi Zgw):=⟨rfl,rfl,rfl,by decide +kernel,rfl,by decide +kernel,by decide +kernel⟩
theorem Z03 {f:Nat→Addr} {fd:Nat→FuncData} {cls:Nat→Addr} (T:Txt K mg f fd cls):FnOk P w K mg base CX0 6 (f 36) (fd 36) ["script"] (spD K (sD Zgj)):=by
 have G_law_bars:=Zm7 (P:=P) (w:=w) (base:=base) T
 have G_law_bottom:=Zjf (P:=P) (w:=w) (base:=base) T
 have G_law_deck:=Zmi (P:=P) (w:=w) (base:=base) T
 have G_law_on_line:=Zff (P:=P) (w:=w) (base:=base) T
 have G_law_some_table:=Zgf (P:=P) (w:=w) (base:=base) T
 have G_law_table:=Zkl (P:=P) (w:=w) (base:=base) T
 have G_law_take:=Zbo (P:=P) (w:=w) (base:=base) T
 have G_line_told:=Zko (P:=P) (w:=w) (base:=base) T
 refine Ws T.F_law Zeu (S:=Zgn) rfl rfl (fun cdv A outer s H E hr=>?_)
 have hu:=hr.units
 exact (Zu (Zh (Wd (Wg PassesOwn.never rfl (Wy (W0 (Yo (Z2 Zm8 (Zvn (Zfk rfl) Zhj (Wt (Za3 (Za (Zt Zgy (Yd Zbu Zdu (Z9 Zo) (Z9 Zo))) (Zf Zg)))) (Z5s (Z42 (Zb (mv 0)) (Zy7 Zy9) (Zy5 (Zyu (Z9 Zo)))))))))) (Z0 (Zz (i:=1) Zeu.nd))
   (Zu (Zh (Zdj (Zdk (i:=2) Zeu.nd rfl (Or.inl rfl) (Z6 (Ys G_law_deck (hr.mono (by decide)) (by rfl) T.m_law_deck T.F_law_deck.kp T.b_law_deck Yk (Za (Zb (mv 1)) (Zf Zg))))))
   (Zu (Zh (Z8 (Z7 (i:=3) Zeu.nd rfl (Or.inl rfl) (Zt Zbc (Yd W3 Ye (Z9 Zo) (Yg (Yu (i:=2) G_law_take (hr.mono (by decide)) (by rfl) T.m_law_take T.F_law_take.kp T.b_law_take Yk (Za (Yo (Z2 Za5 (Zbb (Zx rfl) Yy (Wt (Za3 (Za (Z9 Zo) (Za (Z9 Zo) (Za (Z9 Zo) (Za (Z9 Zo) (Zf Zg))))))) (Yg (Yu (i:=2) G_law_take (hr.mono (by decide)) (by rfl) T.m_law_take T.F_law_take.kp T.b_law_take Yk (Za (Z9 Zo) (Zf Zg)))) (hs:=fun _ _=>rfl)))) (Zf Zg))))))))
   (Zu (Zh (Z8 (Z7 (i:=4) Zeu.nd rfl (Or.inl rfl) (Yg (Yu (i:=2) G_law_some_table (hr.mono (by decide)) (by rfl) T.m_law_some_table T.F_law_some_table.kp T.b_law_some_table Yk (Za (Zb (mv 3)) (Zf Zg))))))
   (Zu (Zh (Z8 (Z7 (i:=5) Zeu.nd rfl (Or.inl rfl) (Yg (Yu (i:=2) G_law_bottom (hr.mono (by decide)) (by rfl) T.m_law_bottom T.F_law_bottom.kp T.b_law_bottom Yk (Zf Zg)))))
   (Zu (Zh (Z8 (Z7 (i:=6) Zeu.nd rfl (Or.inl rfl) (Z6 (Ys G_law_table (hr.mono (by decide)) (by rfl) T.m_law_table T.F_law_table.kp T.b_law_table Yk (Za (Zb (mv 4)) (Za (Zb (mv 5)) (Zf Zg)))))))
   (Zu (Zh (Z8 (Z7 (i:=7) Zeu.nd rfl (Or.inl rfl) (Z6 (Ys G_law_bars (hr.mono (by decide)) (by rfl) T.m_law_bars T.F_law_bars.kp T.b_law_bars Yk (Za (Zb (mv 4)) (Zf Zg))))))
   (Zu (Zh (Z8 (Z7 (i:=8) Zeu.nd rfl (Or.inl rfl) (Zt Zr1 (Zmm Zql Zr8 (Z6 (Ys G_law_on_line (hr.mono (by decide)) (by rfl) T.m_law_on_line T.F_law_on_line.kp T.b_law_on_line Yk (Za (Zb (mv 4)) (Za (Z1l (Zsf (by rfl) (by rfl) T.z_list L2.B.boot_list (by rfl) T.z_range L2.B.boot_range (Za (Zb (mv 3)) (Zf Zg)))) (Zf Zg))))) (Z9 Zfd) (hm:=(Yw _))))))
   (Zn (Wd (Wg PassesOwn.never rfl (Zb1 (Yi (by rfl) T.z_range (Za (Z9 Zo) (Zf Zg)))) (Z0 (Zz (i:=9) Zeu.nd))
   (Zu (Zh (Z8 (Z7 (i:=10) Zeu.nd rfl (Or.inl rfl) (Z6 (Ys G_line_told (hr.mono (by decide)) (by rfl) T.m_line_told T.F_line_told.kp T.b_line_told Yk (Za (Zb (mv 6)) (Zf Zg))))))
   (Zu (Zh (Zbe (Zbd (MW.mt (Zjy (Zjz (Zee (Zei (Zdd (Zde (Zos (Zuk (by decide) (by rfl) T.z_isinstance L2.B.boot_isinstance (by rfl) T.z_tuple L2.B.boot_tuple (Zb (mv 10)))) (fun _=>rfl))))) (Zi0 (Wm Zp9 (Wn (Zed hu) Zg0 (W2 Zfc (Zbq Zbx (Wk rfl) (by rfl) T.z_len L2.B.boot_len (Za (Zb (mv 10)) (Zf Zg)))) (Z9 Zo) (hm:=(Yw _)))))))) (Zn (Ym (Yl (Z9 Zik)))) (Y4 Y0)))
   (Zu (Zh (Zbe (Zbd (Wm Zp9 (Wn (Zed hu) Zg0 (Zb (mv 6)) (Z6 (Ys G_law_table (hr.mono (by decide)) (by rfl) T.m_law_table T.F_law_table.kp T.b_law_table Yk (Za (Zb (mv 4)) (Za (Zb (mv 5)) (Zf Zg))))) (hm:=(Yw _)))) (Zn (Ym (Yl (Z9 Zik)))) (Y4 Y0)))
   (Zu (Zh (Zbe (Zbd (MW.mt (Zjy (Zjz (Wm Zp9 (Wn (Zed hu) Zg0 (Zb (mv 8)) (Zt Zpu (Zmm (Zd4 hu) Zgk (Yo (Z2 Za5 (Zbb (Zx rfl) Yy (Zb (mv 10)) (Z9 Zo) (hs:=fun _ _=>rfl)))) (Z9 Zni) (hm:=(Yw _)))) (hm:=(Yw _)))) (Zi0 (Wm Zp9 (Wn (Zed hu) Zg0 (Zb (mv 8)) (Zt Z4k (Zmm Zot Znn (Zb (mv 7)) (Z9 Zfd) (hm:=(Yw _)))) (hm:=(Yw _)))))))) (Zn (Ym (Yl (Z9 Zik)))) (Y4 Y0)))
   (Zn (Zbe (Zbd (MW.mt (Zs7 (Zqb (Wm Zr1 (Wn Zql Zr8 (Zb (mv 7)) (Z9 Zfd) (hm:=(Yw _)))) (Znc (MW.mt (Zjy (Zjz (Wm Zp9 (Wn (Zed hu) Zg0 (Zb (mv 10)) (Zdy (Zgm (Za (Z9 Zni) (Za (Zb (mv 7)) (Zf Zg))))) (hm:=(Yw _)))) (Zi0 (Zee (Zei (Zdd (Zde (Zos (Zuk (by decide) (by rfl) T.z_isinstance L2.B.boot_isinstance (by rfl) T.z_tuple L2.B.boot_tuple (Yo (Z2 Za5 (Zbb (Zx rfl) Yy (Zb (mv 10)) (Z9 Zo) (hs:=fun _ _=>rfl)))))) (fun _=>rfl))))))))))))) (Zn (Ym (Yl (Z9 Zik)))) (Y4 Y0)))))))))))))))))))))))))))))))
   (Zn (Ym (Yl (Z9 Zik))))))
theorem Zyp {f:Nat→Addr} {fd:Nat→FuncData} {cls:Nat→Addr} (T:Txt K mg f fd cls):FnOk P w K mg base CX0 6 (f 36) (fd 36) ["script"] (spD K Z00):=(Z03 T).imp fun vs H Q E q=>by
 obtain ⟨L,ds,k,h1,⟨ns,e,hl,hk⟩,h3⟩:=q
 exact ⟨L,ds,k,h1,⟨_,by rw [e]; exact Zu4 ns hl,hk⟩,h3⟩
end
theorem Z1r {l:PySem.W.OpenLaw} {w:World} {K:PySem.W.Frag} {h:Heap} {mg:Str→Option Value} {fa:Addr} {C_NoNumber:Addr} {C_NoPoint:Addr} (X:K.In h) (G:h.Ns mainGlobals mg) (hfa:mg "law" = some (.ref fa))
  {f1:Addr} {od1 an1:Option Addr} {sl1:Array (Option Value)} {oc1 kV1 dc1 pm1 cd1 ct1:Value}
  {f2:Addr} {od2 an2:Option Addr} {sl2:Array (Option Value)} {oc2 kV2 dc2 pm2 cd2 ct2:Value}
  {f3:Addr} {od3 an3:Option Addr} {sl3:Array (Option Value)} {oc3 kV3 dc3 pm3 cd3 ct3:Value}
  {f4:Addr} {od4 an4:Option Addr} {sl4:Array (Option Value)} {oc4 kV4 dc4 pm4 cd4 ct4:Value}
  {f5:Addr} {od5 an5:Option Addr} {sl5:Array (Option Value)} {oc5 kV5 dc5 pm5 cd5 ct5:Value}
  {f6:Addr} {od6 an6:Option Addr} {sl6:Array (Option Value)} {oc6 kV6 dc6 pm6 cd6 ct6:Value}
  {f7:Addr} {od7 an7:Option Addr} {sl7:Array (Option Value)} {oc7 kV7 dc7 pm7 cd7 ct7:Value}
  {f8:Addr} {od8 an8:Option Addr} {sl8:Array (Option Value)} {oc8 kV8 dc8 pm8 cd8 ct8:Value}
  {f9:Addr} {od9 an9:Option Addr} {sl9:Array (Option Value)} {oc9 kV9 dc9 pm9 cd9 ct9:Value}
  {f10:Addr} {od10 an10:Option Addr} {sl10:Array (Option Value)} {oc10 kV10 dc10 pm10 cd10 ct10:Value}
  {f11:Addr} {od11 an11:Option Addr} {sl11:Array (Option Value)} {oc11 kV11 dc11 pm11 cd11 ct11:Value}
  {f12:Addr} {od12 an12:Option Addr} {sl12:Array (Option Value)} {oc12 kV12 dc12 pm12 cd12 ct12:Value}
  {f13:Addr} {od13 an13:Option Addr} {sl13:Array (Option Value)} {oc13 kV13 dc13 pm13 cd13 ct13:Value}
  {f14:Addr} {od14 an14:Option Addr} {sl14:Array (Option Value)} {oc14 kV14 dc14 pm14 cd14 ct14:Value}
  {f15:Addr} {od15 an15:Option Addr} {sl15:Array (Option Value)} {oc15 kV15 dc15 pm15 cd15 ct15:Value}
  {f16:Addr} {od16 an16:Option Addr} {sl16:Array (Option Value)} {oc16 kV16 dc16 pm16 cd16 ct16:Value}
  {f17:Addr} {od17 an17:Option Addr} {sl17:Array (Option Value)} {oc17 kV17 dc17 pm17 cd17 ct17:Value}
  {f18:Addr} {od18 an18:Option Addr} {sl18:Array (Option Value)} {oc18 kV18 dc18 pm18 cd18 ct18:Value}
  {f19:Addr} {od19 an19:Option Addr} {sl19:Array (Option Value)} {oc19 kV19 dc19 pm19 cd19 ct19:Value}
  {f20:Addr} {od20 an20:Option Addr} {sl20:Array (Option Value)} {oc20 kV20 dc20 pm20 cd20 ct20:Value}
  {f21:Addr} {od21 an21:Option Addr} {sl21:Array (Option Value)} {oc21 kV21 dc21 pm21 cd21 ct21:Value}
  {f22:Addr} {od22 an22:Option Addr} {sl22:Array (Option Value)} {oc22 kV22 dc22 pm22 cd22 ct22:Value}
  {f23:Addr} {od23 an23:Option Addr} {sl23:Array (Option Value)} {oc23 kV23 dc23 pm23 cd23 ct23:Value}
  {f24:Addr} {od24 an24:Option Addr} {sl24:Array (Option Value)} {oc24 kV24 dc24 pm24 cd24 ct24:Value}
  {f25:Addr} {od25 an25:Option Addr} {sl25:Array (Option Value)} {oc25 kV25 dc25 pm25 cd25 ct25:Value}
  {f26:Addr} {od26 an26:Option Addr} {sl26:Array (Option Value)} {oc26 kV26 dc26 pm26 cd26 ct26:Value}
  {f27:Addr} {od27 an27:Option Addr} {sl27:Array (Option Value)} {oc27 kV27 dc27 pm27 cd27 ct27:Value}
  {f28:Addr} {od28 an28:Option Addr} {sl28:Array (Option Value)} {oc28 kV28 dc28 pm28 cd28 ct28:Value}
  {f29:Addr} {od29 an29:Option Addr} {sl29:Array (Option Value)} {oc29 kV29 dc29 pm29 cd29 ct29:Value}
  {f30:Addr} {od30 an30:Option Addr} {sl30:Array (Option Value)} {oc30 kV30 dc30 pm30 cd30 ct30:Value}
  {f31:Addr} {od31 an31:Option Addr} {sl31:Array (Option Value)} {oc31 kV31 dc31 pm31 cd31 ct31:Value}
  {f32:Addr} {od32 an32:Option Addr} {sl32:Array (Option Value)} {oc32 kV32 dc32 pm32 cd32 ct32:Value}
  {f33:Addr} {od33 an33:Option Addr} {sl33:Array (Option Value)} {oc33 kV33 dc33 pm33 cd33 ct33:Value}
  {f34:Addr} {od34 an34:Option Addr} {sl34:Array (Option Value)} {oc34 kV34 dc34 pm34 cd34 ct34:Value}
  {f35:Addr} {od35 an35:Option Addr} {sl35:Array (Option Value)} {oc35 kV35 dc35 pm35 cd35 ct35:Value}
  {f36:Addr} {od36 an36:Option Addr} {sl36:Array (Option Value)} {oc36 kV36 dc36 pm36 cd36 ct36:Value}
  {f37:Addr} {od37 an37:Option Addr} {sl37:Array (Option Value)} {oc37 kV37 dc37 pm37 cd37 ct37:Value}
  (a1:PySem.W.nsIn K mainGlobals "_law_fits" = some (some (.ref f1))) (l1:K.lookup f1 = some ⟨oc1,od1,.func (PySem.W.fnOf "_law_fits" "_law_fits" (Z5 Zcb) (Z1 Zcb) (Zi Zcb) .none kV1 dc1 pm1 an1 cd1 ct1),sl1⟩) (c1:PySem.W.codeIn K cd1 "_law_fits" = true) (k1:PySem.W.keepIn K (.ref f1) = true)
  (a2:PySem.W.nsIn K mainGlobals "_law_on_line" = some (some (.ref f2))) (l2:K.lookup f2 = some ⟨oc2,od2,.func (PySem.W.fnOf "_law_on_line" "_law_on_line" (Z5 J9) (Z1 J9) (Zi J9) .none kV2 dc2 pm2 an2 cd2 ct2),sl2⟩) (c2:PySem.W.codeIn K cd2 "_law_on_line" = true) (k2:PySem.W.keepIn K (.ref f2) = true)
  (a3:PySem.W.nsIn K mainGlobals "_law_bars" = some (some (.ref f3))) (l3:K.lookup f3 = some ⟨oc3,od3,.func (PySem.W.fnOf "_law_bars" "_law_bars" (Z5 Zca) (Z1 Zca) (Zi Zca) .none kV3 dc3 pm3 an3 cd3 ct3),sl3⟩) (c3:PySem.W.codeIn K cd3 "_law_bars" = true) (k3:PySem.W.keepIn K (.ref f3) = true)
  (a4:PySem.W.nsIn K mainGlobals "_law_take" = some (some (.ref f4))) (l4:K.lookup f4 = some ⟨oc4,od4,.func (PySem.W.fnOf "_law_take" "_law_take" (Z5 Zb7) (Z1 Zb7) (Zi Zb7) .none kV4 dc4 pm4 an4 cd4 ct4),sl4⟩) (c4:PySem.W.codeIn K cd4 "_law_take" = true) (k4:PySem.W.keepIn K (.ref f4) = true)
  (a5:PySem.W.nsIn K mainGlobals "_law_bottom" = some (some (.ref f5))) (l5:K.lookup f5 = some ⟨oc5,od5,.func (PySem.W.fnOf "_law_bottom" "_law_bottom" (Z5 Zaq) (Z1 Zaq) (Zi Zaq) .none kV5 dc5 pm5 an5 cd5 ct5),sl5⟩) (c5:PySem.W.codeIn K cd5 "_law_bottom" = true) (k5:PySem.W.keepIn K (.ref f5) = true)
  (a6:PySem.W.nsIn K mainGlobals "_law_stir" = some (some (.ref f6))) (l6:K.lookup f6 = some ⟨oc6,od6,.func (PySem.W.fnOf "_law_stir" "_law_stir" (Z5 Zb8) (Z1 Zb8) (Zi Zb8) .none kV6 dc6 pm6 an6 cd6 ct6),sl6⟩) (c6:PySem.W.codeIn K cd6 "_law_stir" = true) (k6:PySem.W.keepIn K (.ref f6) = true)
  (a7:PySem.W.nsIn K mainGlobals "_law_deck" = some (some (.ref f7))) (l7:K.lookup f7 = some ⟨oc7,od7,.func (PySem.W.fnOf "_law_deck" "_law_deck" (Z5 Zb6) (Z1 Zb6) (Zi Zb6) .none kV7 dc7 pm7 an7 cd7 ct7),sl7⟩) (c7:PySem.W.codeIn K cd7 "_law_deck" = true) (k7:PySem.W.keepIn K (.ref f7) = true)
  (a8:PySem.W.nsIn K mainGlobals "_law_lined" = some (some (.ref f8))) (l8:K.lookup f8 = some ⟨oc8,od8,.func (PySem.W.fnOf "_law_lined" "_law_lined" (Z5 Zbk) (Z1 Zbk) (Zi Zbk) .none kV8 dc8 pm8 an8 cd8 ct8),sl8⟩) (c8:PySem.W.codeIn K cd8 "_law_lined" = true) (k8:PySem.W.keepIn K (.ref f8) = true)
  (a9:PySem.W.nsIn K mainGlobals "_law_add_cut" = some (some (.ref f9))) (l9:K.lookup f9 = some ⟨oc9,od9,.func (PySem.W.fnOf "_law_add_cut" "_law_add_cut" (Z5 Zac) (Z1 Zac) (Zi Zac) .none kV9 dc9 pm9 an9 cd9 ct9),sl9⟩) (c9:PySem.W.codeIn K cd9 "_law_add_cut" = true) (k9:PySem.W.keepIn K (.ref f9) = true)
  (a10:PySem.W.nsIn K mainGlobals "_law_nought" = some (some (.ref f10))) (l10:K.lookup f10 = some ⟨oc10,od10,.func (PySem.W.fnOf "_law_nought" "_law_nought" (Z5 Zap) (Z1 Zap) (Zi Zap) .none kV10 dc10 pm10 an10 cd10 ct10),sl10⟩) (c10:PySem.W.codeIn K cd10 "_law_nought" = true) (k10:PySem.W.keepIn K (.ref f10) = true)
  (a11:PySem.W.nsIn K mainGlobals "_law_shortest" = some (some (.ref f11))) (l11:K.lookup f11 = some ⟨oc11,od11,.func (PySem.W.fnOf "_law_shortest" "_law_shortest" (Z5 Jr) (Z1 Jr) (Zi Jr) .none kV11 dc11 pm11 an11 cd11 ct11),sl11⟩) (c11:PySem.W.codeIn K cd11 "_law_shortest" = true) (k11:PySem.W.keepIn K (.ref f11) = true)
  (a12:PySem.W.nsIn K mainGlobals "_law_long" = some (some (.ref f12))) (l12:K.lookup f12 = some ⟨oc12,od12,.func (PySem.W.fnOf "_law_long" "_law_long" (Z5 Zb4) (Z1 Zb4) (Zi Zb4) .none kV12 dc12 pm12 an12 cd12 ct12),sl12⟩) (c12:PySem.W.codeIn K cd12 "_law_long" = true) (k12:PySem.W.keepIn K (.ref f12) = true)
  (a13:PySem.W.nsIn K mainGlobals "_law_places" = some (some (.ref f13))) (l13:K.lookup f13 = some ⟨oc13,od13,.func (PySem.W.fnOf "_law_places" "_law_places" (Z5 Zas) (Z1 Zas) (Zi Zas) .none kV13 dc13 pm13 an13 cd13 ct13),sl13⟩) (c13:PySem.W.codeIn K cd13 "_law_places" = true) (k13:PySem.W.keepIn K (.ref f13) = true)
  (a14:PySem.W.nsIn K mainGlobals "_law_ring" = some (some (.ref f14))) (l14:K.lookup f14 = some ⟨oc14,od14,.func (PySem.W.fnOf "_law_ring" "_law_ring" (Z5 Zcd) (Z1 Zcd) (Zi Zcd) .none kV14 dc14 pm14 an14 cd14 ct14),sl14⟩) (c14:PySem.W.codeIn K cd14 "_law_ring" = true) (k14:PySem.W.keepIn K (.ref f14) = true)
  (a15:PySem.W.nsIn K mainGlobals "_law_some_table" = some (some (.ref f15))) (l15:K.lookup f15 = some ⟨oc15,od15,.func (PySem.W.fnOf "_law_some_table" "_law_some_table" (Z5 Wr) (Z1 Wr) (Zi Wr) .none kV15 dc15 pm15 an15 cd15 ct15),sl15⟩) (c15:PySem.W.codeIn K cd15 "_law_some_table" = true) (k15:PySem.W.keepIn K (.ref f15) = true)
  (a16:PySem.W.nsIn K mainGlobals "_law_fraction" = some (some (.ref f16))) (l16:K.lookup f16 = some ⟨oc16,od16,.func (PySem.W.fnOf "_law_fraction" "_law_fraction" (Z5 Jt) (Z1 Jt) (Zi Jt) .none kV16 dc16 pm16 an16 cd16 ct16),sl16⟩) (c16:PySem.W.codeIn K cd16 "_law_fraction" = true) (k16:PySem.W.keepIn K (.ref f16) = true)
  (a17:PySem.W.nsIn K mainGlobals "_law_table" = some (some (.ref f17))) (l17:K.lookup f17 = some ⟨oc17,od17,.func (PySem.W.fnOf "_law_table" "_law_table" (Z5 Zbi) (Z1 Zbi) (Zi Zbi) .none kV17 dc17 pm17 an17 cd17 ct17),sl17⟩) (c17:PySem.W.codeIn K cd17 "_law_table" = true) (k17:PySem.W.keepIn K (.ref f17) = true)
  (a18:PySem.W.nsIn K mainGlobals "is_point" = some (some (.ref f18))) (l18:K.lookup f18 = some ⟨oc18,od18,.func (PySem.W.fnOf "is_point" "is_point" (Z5 Zce) (Z1 Zce) (Zi Zce) .none kV18 dc18 pm18 an18 cd18 ct18),sl18⟩) (c18:PySem.W.codeIn K cd18 "is_point" = true) (k18:PySem.W.keepIn K (.ref f18) = true)
  (a19:PySem.W.nsIn K mainGlobals "is_part" = some (some (.ref f19))) (l19:K.lookup f19 = some ⟨oc19,od19,.func (PySem.W.fnOf "is_part" "is_part" (Z5 Zdv) (Z1 Zdv) (Zi Zdv) .none kV19 dc19 pm19 an19 cd19 ct19),sl19⟩) (c19:PySem.W.codeIn K cd19 "is_part" = true) (k19:PySem.W.keepIn K (.ref f19) = true)
  (a20:PySem.W.nsIn K mainGlobals "part_of" = some (some (.ref f20))) (l20:K.lookup f20 = some ⟨oc20,od20,.func (PySem.W.fnOf "part_of" "part_of" (Z5 Zdw) (Z1 Zdw) (Zi Zdw) .none kV20 dc20 pm20 an20 cd20 ct20),sl20⟩) (c20:PySem.W.codeIn K cd20 "part_of" = true) (k20:PySem.W.keepIn K (.ref f20) = true)
  (a21:PySem.W.nsIn K mainGlobals "first_apart" = some (some (.ref f21))) (l21:K.lookup f21 = some ⟨oc21,od21,.func (PySem.W.fnOf "first_apart" "first_apart" (Z5 Zab) (Z1 Zab) (Zi Zab) .none kV21 dc21 pm21 an21 cd21 ct21),sl21⟩) (c21:PySem.W.codeIn K cd21 "first_apart" = true) (k21:PySem.W.keepIn K (.ref f21) = true)
  (a22:PySem.W.nsIn K mainGlobals "pairs_of" = some (some (.ref f22))) (l22:K.lookup f22 = some ⟨oc22,od22,.func (PySem.W.fnOf "pairs_of" "pairs_of" (Z5 Zcc) (Z1 Zcc) (Zi Zcc) .none kV22 dc22 pm22 an22 cd22 ct22),sl22⟩) (c22:PySem.W.codeIn K cd22 "pairs_of" = true) (k22:PySem.W.keepIn K (.ref f22) = true)
  (a23:PySem.W.nsIn K mainGlobals "fits_places" = some (some (.ref f23))) (l23:K.lookup f23 = some ⟨oc23,od23,.func (PySem.W.fnOf "fits_places" "fits_places" (Z5 Zaa) (Z1 Zaa) (Zi Zaa) .none kV23 dc23 pm23 an23 cd23 ct23),sl23⟩) (c23:PySem.W.codeIn K cd23 "fits_places" = true) (k23:PySem.W.keepIn K (.ref f23) = true)
  (a24:PySem.W.nsIn K mainGlobals "place_of" = some (some (.ref f24))) (l24:K.lookup f24 = some ⟨oc24,od24,.func (PySem.W.fnOf "place_of" "place_of" (Z5 Zch) (Z1 Zch) (Zi Zch) .none kV24 dc24 pm24 an24 cd24 ct24),sl24⟩) (c24:PySem.W.codeIn K cd24 "place_of" = true) (k24:PySem.W.keepIn K (.ref f24) = true)
  (a25:PySem.W.nsIn K mainGlobals "places_of" = some (some (.ref f25))) (l25:K.lookup f25 = some ⟨oc25,od25,.func (PySem.W.fnOf "places_of" "places_of" (Z5 Zbj) (Z1 Zbj) (Zi Zbj) .none kV25 dc25 pm25 an25 cd25 ct25),sl25⟩) (c25:PySem.W.codeIn K cd25 "places_of" = true) (k25:PySem.W.keepIn K (.ref f25) = true)
  (a26:PySem.W.nsIn K mainGlobals "rising_tuples" = some (some (.ref f26))) (l26:K.lookup f26 = some ⟨oc26,od26,.func (PySem.W.fnOf "rising_tuples" "rising_tuples" (Z5 W6) (Z1 W6) (Zi W6) .none kV26 dc26 pm26 an26 cd26 ct26),sl26⟩) (c26:PySem.W.codeIn K cd26 "rising_tuples" = true) (k26:PySem.W.keepIn K (.ref f26) = true)
  (a27:PySem.W.nsIn K mainGlobals "first_off_line" = some (some (.ref f27))) (l27:K.lookup f27 = some ⟨oc27,od27,.func (PySem.W.fnOf "first_off_line" "first_off_line" (Z5 Wq) (Z1 Wq) (Zi Wq) .none kV27 dc27 pm27 an27 cd27 ct27),sl27⟩) (c27:PySem.W.codeIn K cd27 "first_off_line" = true) (k27:PySem.W.keepIn K (.ref f27) = true)
  (a28:PySem.W.nsIn K mainGlobals "greatest_divisor" = some (some (.ref f28))) (l28:K.lookup f28 = some ⟨oc28,od28,.func (PySem.W.fnOf "greatest_divisor" "greatest_divisor" (Z5 Wf) (Z1 Wf) (Zi Wf) .none kV28 dc28 pm28 an28 cd28 ct28),sl28⟩) (c28:PySem.W.codeIn K cd28 "greatest_divisor" = true) (k28:PySem.W.keepIn K (.ref f28) = true)
  (a29:PySem.W.nsIn K mainGlobals "in_least" = some (some (.ref f29))) (l29:K.lookup f29 = some ⟨oc29,od29,.func (PySem.W.fnOf "in_least" "in_least" (Z5 Zb5) (Z1 Zb5) (Zi Zb5) .none kV29 dc29 pm29 an29 cd29 ct29),sl29⟩) (c29:PySem.W.codeIn K cd29 "in_least" = true) (k29:PySem.W.keepIn K (.ref f29) = true)
  (a30:PySem.W.nsIn K mainGlobals "is_whole" = some (some (.ref f30))) (l30:K.lookup f30 = some ⟨oc30,od30,.func (PySem.W.fnOf "is_whole" "is_whole" (Z5 Zb9) (Z1 Zb9) (Zi Zb9) .none kV30 dc30 pm30 an30 cd30 ct30),sl30⟩) (c30:PySem.W.codeIn K cd30 "is_whole" = true) (k30:PySem.W.keepIn K (.ref f30) = true)
  (a31:PySem.W.nsIn K mainGlobals "fraction" = some (some (.ref f31))) (l31:K.lookup f31 = some ⟨oc31,od31,.func (PySem.W.fnOf "fraction" "fraction" (Z5 Zcg) (Z1 Zcg) (Zi Zcg) .none kV31 dc31 pm31 an31 cd31 ct31),sl31⟩) (c31:PySem.W.codeIn K cd31 "fraction" = true) (k31:PySem.W.keepIn K (.ref f31) = true)
  (a32:PySem.W.nsIn K mainGlobals "shared_bottom" = some (some (.ref f32))) (l32:K.lookup f32 = some ⟨oc32,od32,.func (PySem.W.fnOf "shared_bottom" "shared_bottom" (Z5 W9) (Z1 W9) (Zi W9) .none kV32 dc32 pm32 an32 cd32 ct32),sl32⟩) (c32:PySem.W.codeIn K cd32 "shared_bottom" = true) (k32:PySem.W.keepIn K (.ref f32) = true)
  (a33:PySem.W.nsIn K mainGlobals "table_bottom" = some (some (.ref f33))) (l33:K.lookup f33 = some ⟨oc33,od33,.func (PySem.W.fnOf "table_bottom" "table_bottom" (Z5 Jq) (Z1 Jq) (Zi Jq) .none kV33 dc33 pm33 an33 cd33 ct33),sl33⟩) (c33:PySem.W.codeIn K cd33 "table_bottom" = true) (k33:PySem.W.keepIn K (.ref f33) = true)
  (a34:PySem.W.nsIn K mainGlobals "tops_over" = some (some (.ref f34))) (l34:K.lookup f34 = some ⟨oc34,od34,.func (PySem.W.fnOf "tops_over" "tops_over" (Z5 Zbg) (Z1 Zbg) (Zi Zbg) .none kV34 dc34 pm34 an34 cd34 ct34),sl34⟩) (c34:PySem.W.codeIn K cd34 "tops_over" = true) (k34:PySem.W.keepIn K (.ref f34) = true)
  (a35:PySem.W.nsIn K mainGlobals "table_over" = some (some (.ref f35))) (l35:K.lookup f35 = some ⟨oc35,od35,.func (PySem.W.fnOf "table_over" "table_over" (Z5 Zao) (Z1 Zao) (Zi Zao) .none kV35 dc35 pm35 an35 cd35 ct35),sl35⟩) (c35:PySem.W.codeIn K cd35 "table_over" = true) (k35:PySem.W.keepIn K (.ref f35) = true)
  (a36:PySem.W.nsIn K mainGlobals "line_told" = some (some (.ref f36))) (l36:K.lookup f36 = some ⟨oc36,od36,.func (PySem.W.fnOf "line_told" "line_told" (Z5 Zbl) (Z1 Zbl) (Zi Zbl) .none kV36 dc36 pm36 an36 cd36 ct36),sl36⟩) (c36:PySem.W.codeIn K cd36 "line_told" = true) (k36:PySem.W.keepIn K (.ref f36) = true)
  (a37:PySem.W.nsIn K mainGlobals "law" = some (some (.ref f37))) (l37:K.lookup f37 = some ⟨oc37,od37,.func (PySem.W.fnOf "law" "law" (Z5 Zgw) (Z1 Zgw) (Zi Zgw) .none kV37 dc37 pm37 an37 cd37 ct37),sl37⟩) (c37:PySem.W.codeIn K cd37 "law" = true) (k37:PySem.W.keepIn K (.ref f37) = true)
  (z_abs:PySem.W.nsIn K mainGlobals "abs" = some none)
  (z_bool:PySem.W.nsIn K mainGlobals "bool" = some none)
  (z_int:PySem.W.nsIn K mainGlobals "int" = some none)
  (z_isinstance:PySem.W.nsIn K mainGlobals "isinstance" = some none)
  (z_len:PySem.W.nsIn K mainGlobals "len" = some none)
  (z_list:PySem.W.nsIn K mainGlobals "list" = some none)
  (z_min:PySem.W.nsIn K mainGlobals "min" = some none)
  (z_range:PySem.W.nsIn K mainGlobals "range" = some none)
  (z_set:PySem.W.nsIn K mainGlobals "set" = some none)
  (z_sorted:PySem.W.nsIn K mainGlobals "sorted" = some none)
  (z_tuple:PySem.W.nsIn K mainGlobals "tuple" = some none)
  (z_zip:PySem.W.nsIn K mainGlobals "zip" = some none)
  (cc_NoNumber:PySem.W.nsIn K mainGlobals "NoNumber" = some (some (.ref C_NoNumber)))
  (cc_NoPoint:PySem.W.nsIn K mainGlobals "NoPoint" = some (some (.ref C_NoPoint)))
  (r_NoNumber:Zrp K C_NoNumber)
  (r_NoPoint:Zrp K C_NoPoint)
  (x_NoNumber_ga:PySem.W.findIn K (.ref C_NoNumber) "__getattribute__" = some (some (.builtin "BaseException.__getattribute__")))
  (x_NoNumber_gt:PySem.W.findIn K (.ref C_NoNumber) "__getattr__" = some none)
  (x_NoNumber_cl:PySem.W.findIn K (.ref C_NoNumber) "__class__" = some (some (.builtin "object.__class__")))
  (x_NoNumber_isB:PySem.W.subIn K (.ref C_NoNumber) (.type "BaseException") = some true)
  (x_NoNumber_isO:PySem.W.subIn K (.ref C_NoNumber) (.type "object") = some true)
  (x_NoNumber_isC:PySem.W.isClsIn K C_NoNumber = true)
  (x_NoNumber_k1:PySem.W.kitOne K (.ref C_NoNumber) (.type "int") = some false)
  (x_NoNumber_k2:PySem.W.kitOne K (.ref C_NoNumber) (.type "bool") = some false)
  (x_NoNumber_k3:PySem.W.kitOne K (.ref C_NoNumber) (.type "str") = some false)
  (x_NoNumber_k4:PySem.W.kitOne K (.ref C_NoNumber) (.type "list") = some false)
  (x_NoNumber_k5:PySem.W.kitOne K (.ref C_NoNumber) (.type "tuple") = some false)
  (x_NoPoint_ga:PySem.W.findIn K (.ref C_NoPoint) "__getattribute__" = some (some (.builtin "BaseException.__getattribute__")))
  (x_NoPoint_gt:PySem.W.findIn K (.ref C_NoPoint) "__getattr__" = some none)
  (x_NoPoint_cl:PySem.W.findIn K (.ref C_NoPoint) "__class__" = some (some (.builtin "object.__class__")))
  (x_NoPoint_isB:PySem.W.subIn K (.ref C_NoPoint) (.type "BaseException") = some true)
  (x_NoPoint_isO:PySem.W.subIn K (.ref C_NoPoint) (.type "object") = some true)
  (x_NoPoint_isC:PySem.W.isClsIn K C_NoPoint = true)
  (x_NoPoint_k1:PySem.W.kitOne K (.ref C_NoPoint) (.type "int") = some false)
  (x_NoPoint_k2:PySem.W.kitOne K (.ref C_NoPoint) (.type "bool") = some false)
  (x_NoPoint_k3:PySem.W.kitOne K (.ref C_NoPoint) (.type "str") = some false)
  (x_NoPoint_k4:PySem.W.kitOne K (.ref C_NoPoint) (.type "list") = some false)
  (x_NoPoint_k5:PySem.W.kitOne K (.ref C_NoPoint) (.type "tuple") = some false)
  : ∃ fd:FuncData,(∀ (s:Shared) (v:Value),BindsTo s fd ⟨[v],[]⟩ [("script", v)])∧∀ base:Heap,K.In base→base.Ns mainGlobals mg→FnOk l.prog w K mg base CX0 6 fa fd ["script"] (spD K Z00):=by
 have e:=hfa.symm.trans (PySem.W.mg_of X G a37)
 cases e
 have F1:=Y6 (st:=Zcb) l1 c1 k1
 have b1:=F1.binds (ps:=["rows", "points", "places", "place"]) fun _ _ _ _ _ _ us hl=>Z8g (P:=fun us=>PySem.bindArgs _ { pos:=us } = pure (List.zip _ us)) (fun _ _ _ _=>rfl) us hl
 have F2:=Y6 (st:=J9) l2 c2 k2
 have b2:=F2.binds (ps:=["rows", "points"]) fun _ _ _ _ _ _ us hl=>Zkc (P:=fun us=>PySem.bindArgs _ { pos:=us } = pure (List.zip _ us)) (fun _ _=>rfl) us hl
 have F3:=Y6 (st:=Zca) l3 c3 k3
 have b3:=F3.binds (ps:=["rows"]) fun _ _ _ _ _ _ us hl=>Zmr (P:=fun us=>PySem.bindArgs _ { pos:=us } = pure (List.zip _ us)) (fun _=>rfl) us hl
 have F4:=Y6 (st:=Zb7) l4 c4 k4
 have b4:=F4.binds (ps:=["deck", "many"]) fun _ _ _ _ _ _ us hl=>Zkc (P:=fun us=>PySem.bindArgs _ { pos:=us } = pure (List.zip _ us)) (fun _ _=>rfl) us hl
 have F5:=Y6 (st:=Zaq) l5 c5 k5
 have b5:=F5.binds (ps:=["deck"]) fun _ _ _ _ _ _ us hl=>Zmr (P:=fun us=>PySem.bindArgs _ { pos:=us } = pure (List.zip _ us)) (fun _=>rfl) us hl
 have F6:=Y6 (st:=Zb8) l6 c6 k6
 have b6:=F6.binds (ps:=["cell", "k"]) fun _ _ _ _ _ _ us hl=>Zkc (P:=fun us=>PySem.bindArgs _ { pos:=us } = pure (List.zip _ us)) (fun _ _=>rfl) us hl
 have F7:=Y6 (st:=Zb6) l7 c7 k7
 have b7:=F7.binds (ps:=["cell"]) fun _ _ _ _ _ _ us hl=>Zmr (P:=fun us=>PySem.bindArgs _ { pos:=us } = pure (List.zip _ us)) (fun _=>rfl) us hl
 have F8:=Y6 (st:=Zbk) l8 c8 k8
 have b8:=F8.binds (ps:=["places"]) fun _ _ _ _ _ _ us hl=>Zmr (P:=fun us=>PySem.bindArgs _ { pos:=us } = pure (List.zip _ us)) (fun _=>rfl) us hl
 have F9:=Y6 (st:=Zac) l9 c9 k9
 have b9:=F9.binds (ps:=["rows", "bits", "weight"]) fun _ _ _ _ _ _ us hl=>Z7g (P:=fun us=>PySem.bindArgs _ { pos:=us } = pure (List.zip _ us)) (fun _ _ _=>rfl) us hl
 have F10:=Y6 (st:=Zap) l10 c10 k10
 have b10:=F10.binds (ps:=["n"]) fun _ _ _ _ _ _ us hl=>Zmr (P:=fun us=>PySem.bindArgs _ { pos:=us } = pure (List.zip _ us)) (fun _=>rfl) us hl
 have F11:=Y6 (st:=Jr) l11 c11 k11
 have b11:=F11.binds (ps:=["rows"]) fun _ _ _ _ _ _ us hl=>Zmr (P:=fun us=>PySem.bindArgs _ { pos:=us } = pure (List.zip _ us)) (fun _=>rfl) us hl
 have F12:=Y6 (st:=Zb4) l12 c12 k12
 have b12:=F12.binds (ps:=["deck", "n"]) fun _ _ _ _ _ _ us hl=>Zkc (P:=fun us=>PySem.bindArgs _ { pos:=us } = pure (List.zip _ us)) (fun _ _=>rfl) us hl
 have F13:=Y6 (st:=Zas) l13 c13 k13
 have b13:=F13.binds (ps:=["deck", "n"]) fun _ _ _ _ _ _ us hl=>Zkc (P:=fun us=>PySem.bindArgs _ { pos:=us } = pure (List.zip _ us)) (fun _ _=>rfl) us hl
 have F14:=Y6 (st:=Zcd) l14 c14 k14
 have b14:=F14.binds (ps:=["deck", "n"]) fun _ _ _ _ _ _ us hl=>Zkc (P:=fun us=>PySem.bindArgs _ { pos:=us } = pure (List.zip _ us)) (fun _ _=>rfl) us hl
 have F15:=Y6 (st:=Wr) l15 c15 k15
 have b15:=F15.binds (ps:=["deck", "n"]) fun _ _ _ _ _ _ us hl=>Zkc (P:=fun us=>PySem.bindArgs _ { pos:=us } = pure (List.zip _ us)) (fun _ _=>rfl) us hl
 have F16:=Y6 (st:=Jt) l16 c16 k16
 have b16:=F16.binds (ps:=["top", "bottom"]) fun _ _ _ _ _ _ us hl=>Zkc (P:=fun us=>PySem.bindArgs _ { pos:=us } = pure (List.zip _ us)) (fun _ _=>rfl) us hl
 have F17:=Y6 (st:=Zbi) l17 c17 k17
 have b17:=F17.binds (ps:=["rows", "bottom"]) fun _ _ _ _ _ _ us hl=>Zkc (P:=fun us=>PySem.bindArgs _ { pos:=us } = pure (List.zip _ us)) (fun _ _=>rfl) us hl
 have F18:=Y6 (st:=Zce) l18 c18 k18
 have b18:=F18.binds (ps:=["table", "point"]) fun _ _ _ _ _ _ us hl=>Zkc (P:=fun us=>PySem.bindArgs _ { pos:=us } = pure (List.zip _ us)) (fun _ _=>rfl) us hl
 have F19:=Y6 (st:=Zdv) l19 c19 k19
 have b19:=F19.binds (ps:=["table", "points"]) fun _ _ _ _ _ _ us hl=>Zkc (P:=fun us=>PySem.bindArgs _ { pos:=us } = pure (List.zip _ us)) (fun _ _=>rfl) us hl
 have F20:=Y6 (st:=Zdw) l20 c20 k20
 have b20:=F20.binds (ps:=["table", "points"]) fun _ _ _ _ _ _ us hl=>Zkc (P:=fun us=>PySem.bindArgs _ { pos:=us } = pure (List.zip _ us)) (fun _ _=>rfl) us hl
 have F21:=Y6 (st:=Zab) l21 c21 k21
 have b21:=F21.binds (ps:=["rows"]) fun _ _ _ _ _ _ us hl=>Zmr (P:=fun us=>PySem.bindArgs _ { pos:=us } = pure (List.zip _ us)) (fun _=>rfl) us hl
 have F22:=Y6 (st:=Zcc) l22 c22 k22
 have b22:=F22.binds (ps:=["n"]) fun _ _ _ _ _ _ us hl=>Zmr (P:=fun us=>PySem.bindArgs _ { pos:=us } = pure (List.zip _ us)) (fun _=>rfl) us hl
 have F23:=Y6 (st:=Zaa) l23 c23 k23
 have b23:=F23.binds (ps:=["rows", "places"]) fun _ _ _ _ _ _ us hl=>Zkc (P:=fun us=>PySem.bindArgs _ { pos:=us } = pure (List.zip _ us)) (fun _ _=>rfl) us hl
 have F24:=Y6 (st:=Zch) l24 c24 k24
 have b24:=F24.binds (ps:=["rows", "apart", "point"]) fun _ _ _ _ _ _ us hl=>Z7g (P:=fun us=>PySem.bindArgs _ { pos:=us } = pure (List.zip _ us)) (fun _ _ _=>rfl) us hl
 have F25:=Y6 (st:=Zbj) l25 c25 k25
 have b25:=F25.binds (ps:=["rows"]) fun _ _ _ _ _ _ us hl=>Zmr (P:=fun us=>PySem.bindArgs _ { pos:=us } = pure (List.zip _ us)) (fun _=>rfl) us hl
 have F26:=Y6 (st:=W6) l26 c26 k26
 have b26:=F26.binds (ps:=["n", "many"]) fun _ _ _ _ _ _ us hl=>Zkc (P:=fun us=>PySem.bindArgs _ { pos:=us } = pure (List.zip _ us)) (fun _ _=>rfl) us hl
 have F27:=Y6 (st:=Wq) l27 c27 k27
 have b27:=F27.binds (ps:=["rows"]) fun _ _ _ _ _ _ us hl=>Zmr (P:=fun us=>PySem.bindArgs _ { pos:=us } = pure (List.zip _ us)) (fun _=>rfl) us hl
 have F28:=Y6 (st:=Wf) l28 c28 k28
 have b28:=F28.binds (ps:=["a", "b"]) fun _ _ _ _ _ _ us hl=>Zkc (P:=fun us=>PySem.bindArgs _ { pos:=us } = pure (List.zip _ us)) (fun _ _=>rfl) us hl
 have F29:=Y6 (st:=Zb5) l29 c29 k29
 have b29:=F29.binds (ps:=["top", "bottom"]) fun _ _ _ _ _ _ us hl=>Zkc (P:=fun us=>PySem.bindArgs _ { pos:=us } = pure (List.zip _ us)) (fun _ _=>rfl) us hl
 have F30:=Y6 (st:=Zb9) l30 c30 k30
 have b30:=F30.binds (ps:=["thing"]) fun _ _ _ _ _ _ us hl=>Zmr (P:=fun us=>PySem.bindArgs _ { pos:=us } = pure (List.zip _ us)) (fun _=>rfl) us hl
 have F31:=Y6 (st:=Zcg) l31 c31 k31
 have b31:=F31.binds (ps:=["top", "bottom"]) fun _ _ _ _ _ _ us hl=>Zkc (P:=fun us=>PySem.bindArgs _ { pos:=us } = pure (List.zip _ us)) (fun _ _=>rfl) us hl
 have F32:=Y6 (st:=W9) l32 c32 k32
 have b32:=F32.binds (ps:=["numbers"]) fun _ _ _ _ _ _ us hl=>Zmr (P:=fun us=>PySem.bindArgs _ { pos:=us } = pure (List.zip _ us)) (fun _=>rfl) us hl
 have F33:=Y6 (st:=Jq) l33 c33 k33
 have b33:=F33.binds (ps:=["table"]) fun _ _ _ _ _ _ us hl=>Zmr (P:=fun us=>PySem.bindArgs _ { pos:=us } = pure (List.zip _ us)) (fun _=>rfl) us hl
 have F34:=Y6 (st:=Zbg) l34 c34 k34
 have b34:=F34.binds (ps:=["bottom", "numbers"]) fun _ _ _ _ _ _ us hl=>Zkc (P:=fun us=>PySem.bindArgs _ { pos:=us } = pure (List.zip _ us)) (fun _ _=>rfl) us hl
 have F35:=Y6 (st:=Zao) l35 c35 k35
 have b35:=F35.binds (ps:=["bottom", "table"]) fun _ _ _ _ _ _ us hl=>Zkc (P:=fun us=>PySem.bindArgs _ { pos:=us } = pure (List.zip _ us)) (fun _ _=>rfl) us hl
 have F36:=Y6 (st:=Zbl) l36 c36 k36
 have b36:=F36.binds (ps:=["table"]) fun _ _ _ _ _ _ us hl=>Zmr (P:=fun us=>PySem.bindArgs _ { pos:=us } = pure (List.zip _ us)) (fun _=>rfl) us hl
 have F37:=Y6 (st:=Zgw) l37 c37 k37
 have b37:=F37.binds (ps:=["script"]) fun _ _ _ _ _ _ us hl=>Zmr (P:=fun us=>PySem.bindArgs _ { pos:=us } = pure (List.zip _ us)) (fun _=>rfl) us hl
 have T:Txt K mg (fun k=>[_,_,_,_,_,_,_,_,_,_,_,_,_,_,_,_,_,_,_,_,_,_,_,_,_,_,_,_,_,_,_,_,_,_,_,_,_].getD k 0) (fun k=>[_,_,_,_,_,_,_,_,_,_,_,_,_,_,_,_,_,_,_,_,_,_,_,_,_,_,_,_,_,_,_,_,_,_,_,_,_].getD k (PySem.W.fnOf "law" "law" (Z5 Zgw) (Z1 Zgw) (Zi Zgw) .none kV37 dc37 pm37 an37 cd37 ct37)) (fun k=>[C_NoNumber,C_NoPoint].getD k 0):={ F_law_fits:=F1,b_law_fits:=b1,m_law_fits:=PySem.W.mg_of X G a1,F_law_on_line:=F2,b_law_on_line:=b2,m_law_on_line:=PySem.W.mg_of X G a2,F_law_bars:=F3,b_law_bars:=b3,m_law_bars:=PySem.W.mg_of X G a3,F_law_take:=F4,b_law_take:=b4,m_law_take:=PySem.W.mg_of X G a4,F_law_bottom:=F5,b_law_bottom:=b5,m_law_bottom:=PySem.W.mg_of X G a5,F_law_stir:=F6,b_law_stir:=b6,m_law_stir:=PySem.W.mg_of X G a6,F_law_deck:=F7,b_law_deck:=b7,m_law_deck:=PySem.W.mg_of X G a7,F_law_lined:=F8,b_law_lined:=b8,m_law_lined:=PySem.W.mg_of X G a8,F_law_add_cut:=F9,b_law_add_cut:=b9,m_law_add_cut:=PySem.W.mg_of X G a9,F_law_nought:=F10,b_law_nought:=b10,m_law_nought:=PySem.W.mg_of X G a10,F_law_shortest:=F11,b_law_shortest:=b11,m_law_shortest:=PySem.W.mg_of X G a11,F_law_long:=F12,b_law_long:=b12,m_law_long:=PySem.W.mg_of X G a12,F_law_places:=F13,b_law_places:=b13,m_law_places:=PySem.W.mg_of X G a13,F_law_ring:=F14,b_law_ring:=b14,m_law_ring:=PySem.W.mg_of X G a14,F_law_some_table:=F15,b_law_some_table:=b15,m_law_some_table:=PySem.W.mg_of X G a15,F_law_fraction:=F16,b_law_fraction:=b16,m_law_fraction:=PySem.W.mg_of X G a16,F_law_table:=F17,b_law_table:=b17,m_law_table:=PySem.W.mg_of X G a17,F_is_point:=F18,b_is_point:=b18,m_is_point:=PySem.W.mg_of X G a18,F_is_part:=F19,b_is_part:=b19,m_is_part:=PySem.W.mg_of X G a19,F_part_of:=F20,b_part_of:=b20,m_part_of:=PySem.W.mg_of X G a20,F_first_apart:=F21,b_first_apart:=b21,m_first_apart:=PySem.W.mg_of X G a21,F_pairs_of:=F22,b_pairs_of:=b22,m_pairs_of:=PySem.W.mg_of X G a22,F_fits_places:=F23,b_fits_places:=b23,m_fits_places:=PySem.W.mg_of X G a23,F_place_of:=F24,b_place_of:=b24,m_place_of:=PySem.W.mg_of X G a24,F_places_of:=F25,b_places_of:=b25,m_places_of:=PySem.W.mg_of X G a25,F_rising_tuples:=F26,b_rising_tuples:=b26,m_rising_tuples:=PySem.W.mg_of X G a26,F_first_off_line:=F27,b_first_off_line:=b27,m_first_off_line:=PySem.W.mg_of X G a27,F_greatest_divisor:=F28,b_greatest_divisor:=b28,m_greatest_divisor:=PySem.W.mg_of X G a28,F_in_least:=F29,b_in_least:=b29,m_in_least:=PySem.W.mg_of X G a29,F_is_whole:=F30,b_is_whole:=b30,m_is_whole:=PySem.W.mg_of X G a30,F_fraction:=F31,b_fraction:=b31,m_fraction:=PySem.W.mg_of X G a31,F_shared_bottom:=F32,b_shared_bottom:=b32,m_shared_bottom:=PySem.W.mg_of X G a32,F_table_bottom:=F33,b_table_bottom:=b33,m_table_bottom:=PySem.W.mg_of X G a33,F_tops_over:=F34,b_tops_over:=b34,m_tops_over:=PySem.W.mg_of X G a34,F_table_over:=F35,b_table_over:=b35,m_table_over:=PySem.W.mg_of X G a35,F_line_told:=F36,b_line_told:=b36,m_line_told:=PySem.W.mg_of X G a36,F_law:=F37,b_law:=b37,m_law:=PySem.W.mg_of X G a37,z_abs:=PySem.W.mg_none_of X G z_abs,z_bool:=PySem.W.mg_none_of X G z_bool,z_int:=PySem.W.mg_none_of X G z_int,z_isinstance:=PySem.W.mg_none_of X G z_isinstance,z_len:=PySem.W.mg_none_of X G z_len,z_list:=PySem.W.mg_none_of X G z_list,z_min:=PySem.W.mg_none_of X G z_min,z_range:=PySem.W.mg_none_of X G z_range,z_set:=PySem.W.mg_none_of X G z_set,z_sorted:=PySem.W.mg_none_of X G z_sorted,z_tuple:=PySem.W.mg_none_of X G z_tuple,z_zip:=PySem.W.mg_none_of X G z_zip,mC_NoNumber:=PySem.W.mg_of X G cc_NoNumber,ca_NoNumber:=cc_NoNumber,mC_NoPoint:=PySem.W.mg_of X G cc_NoPoint,ca_NoPoint:=cc_NoPoint,r_NoNumber:=r_NoNumber,r_NoPoint:=r_NoPoint,x_NoNumber_ga:=x_NoNumber_ga,x_NoNumber_gt:=x_NoNumber_gt,x_NoNumber_cl:=x_NoNumber_cl,x_NoNumber_isB:=x_NoNumber_isB,x_NoNumber_isO:=x_NoNumber_isO,x_NoNumber_isC:=x_NoNumber_isC,x_NoNumber_k1:=x_NoNumber_k1,x_NoNumber_k2:=x_NoNumber_k2,x_NoNumber_k3:=x_NoNumber_k3,x_NoNumber_k4:=x_NoNumber_k4,x_NoNumber_k5:=x_NoNumber_k5,x_NoPoint_ga:=x_NoPoint_ga,x_NoPoint_gt:=x_NoPoint_gt,x_NoPoint_cl:=x_NoPoint_cl,x_NoPoint_isB:=x_NoPoint_isB,x_NoPoint_isO:=x_NoPoint_isO,x_NoPoint_isC:=x_NoPoint_isC,x_NoPoint_k1:=x_NoPoint_k1,x_NoPoint_k2:=x_NoPoint_k2,x_NoPoint_k3:=x_NoPoint_k3,x_NoPoint_k4:=x_NoPoint_k4,x_NoPoint_k5:=x_NoPoint_k5 }
 exact ⟨PySem.W.fnOf "law" "law" (Z5 Zgw) (Z1 Zgw) (Zi Zgw) .none kV37 dc37 pm37 an37 cd37 ct37,fun s v=>.of_eq rfl,fun base _ _=>Zyp (P:=l.prog) (w:=w) (base:=base) T⟩
theorem walk {l:PySem.W.OpenLaw} {q:Program} {loose:List Str} {XP:(Str→Option Value)→Heap→Prop} {YP:World→Heap→Prop} {d:DefRec} {K:Params→PySem.W.Frag} (hn:l.most = some 63) (hdf:d.params.defaults = [])
  (hY:∀ (w:World) (h:Heap),YP w h→(K w.params).In h)
  (F:∀ (w:World) (mg:Str→Option Value) (fa:Addr) (h:Heap),(K w.params).In h→h.Ns mainGlobals mg→mg d.name = some (.ref fa) →
   ∃ fd:FuncData,(∀ (s:Shared) (u:Value),BindsTo s fd ⟨[u],[]⟩ [("script", u)])∧∀ base:Heap,(K w.params).In base→base.Ns mainGlobals mg→FnOk l.prog w (K w.params) mg base CX0 6 fa fd ["script"] (spD (K w.params) Z00)) :
  PySem.W.WalkO q loose XP YP l.row.toRowW d [] (fun f vs=>PySem.call f vs) :=
 L2.Zz0 (n:=63) (k:=6) (x := "script") (CX:=fun _=>CX0) (sp:=fun w=>spD (K w.params) Z00) hn (by decide) hdf ⟨rfl,by decide,by decide⟩ hY F (fun _ _ a ns hl _ hS=>Z0o hl hS) fun _ _ _ _ _ z=>z
end My
open PySem PySem.W PyProof.Rows
set_option maxRecDepth 100000 in
set_option maxHeartbeats 0 in
theorem PySem.Challenge.cw_farcuts_k54_points_that_bar_a_line_holds : PySem.Challenge.rw_farcuts_k54_points_that_bar_a_line.Holds := by
 w_on; o_law; k_head; (case hw=>w_witness2)
 k_fill
 refine My.walk (l:=PySem.Challenge.rw_farcuts_k54_points_that_bar_a_line) rfl rfl (fun w h Y=>PySem.W.kIn_of Y) ?F
 case F =>
  intro w mg fa h KX G hmg
  refine' My.Z1r KX G hmg ?a1 ?l1 ?c1 ?k1 ?a2 ?l2 ?c2 ?k2 ?a3 ?l3 ?c3 ?k3 ?a4 ?l4 ?c4 ?k4 ?a5 ?l5 ?c5 ?k5 ?a6 ?l6 ?c6 ?k6 ?a7 ?l7 ?c7 ?k7 ?a8 ?l8 ?c8 ?k8 ?a9 ?l9 ?c9 ?k9 ?a10 ?l10 ?c10 ?k10 ?a11 ?l11 ?c11 ?k11 ?a12 ?l12 ?c12 ?k12 ?a13 ?l13 ?c13 ?k13 ?a14 ?l14 ?c14 ?k14 ?a15 ?l15 ?c15 ?k15 ?a16 ?l16 ?c16 ?k16 ?a17 ?l17 ?c17 ?k17 ?a18 ?l18 ?c18 ?k18 ?a19 ?l19 ?c19 ?k19 ?a20 ?l20 ?c20 ?k20 ?a21 ?l21 ?c21 ?k21 ?a22 ?l22 ?c22 ?k22 ?a23 ?l23 ?c23 ?k23 ?a24 ?l24 ?c24 ?k24 ?a25 ?l25 ?c25 ?k25 ?a26 ?l26 ?c26 ?k26 ?a27 ?l27 ?c27 ?k27 ?a28 ?l28 ?c28 ?k28 ?a29 ?l29 ?c29 ?k29 ?a30 ?l30 ?c30 ?k30 ?a31 ?l31 ?c31 ?k31 ?a32 ?l32 ?c32 ?k32 ?a33 ?l33 ?c33 ?k33 ?a34 ?l34 ?c34 ?k34 ?a35 ?l35 ?c35 ?k35 ?a36 ?l36 ?c36 ?k36 ?a37 ?l37 ?c37 ?k37 ?z_abs ?z_bool ?z_int ?z_isinstance ?z_len ?z_list ?z_min ?z_range ?z_set ?z_sorted ?z_tuple ?z_zip ?cc_NoNumber ?cc_NoPoint ?r_NoNumber ?r_NoPoint ?x_NoNumber_ga ?x_NoNumber_gt ?x_NoNumber_cl ?x_NoNumber_isB ?x_NoNumber_isO ?x_NoNumber_isC ?x_NoNumber_k1 ?x_NoNumber_k2 ?x_NoNumber_k3 ?x_NoNumber_k4 ?x_NoNumber_k5 ?x_NoPoint_ga ?x_NoPoint_gt ?x_NoPoint_cl ?x_NoPoint_isB ?x_NoPoint_isO ?x_NoPoint_isC ?x_NoPoint_k1 ?x_NoPoint_k2 ?x_NoPoint_k3 ?x_NoPoint_k4 ?x_NoPoint_k5
  (case a1=>k_is)
  (case l1=>k_is)
  (case c1=>k_is)
  (case k1=>k_is)
  (case a2=>k_is)
  (case l2=>k_is)
  (case c2=>k_is)
  (case k2=>k_is)
  (case a3=>k_is)
  (case l3=>k_is)
  (case c3=>k_is)
  (case k3=>k_is)
  (case a4=>k_is)
  (case l4=>k_is)
  (case c4=>k_is)
  (case k4=>k_is)
  (case a5=>k_is)
  (case l5=>k_is)
  (case c5=>k_is)
  (case k5=>k_is)
  (case a6=>k_is)
  (case l6=>k_is)
  (case c6=>k_is)
  (case k6=>k_is)
  (case a7=>k_is)
  (case l7=>k_is)
  (case c7=>k_is)
  (case k7=>k_is)
  (case a8=>k_is)
  (case l8=>k_is)
  (case c8=>k_is)
  (case k8=>k_is)
  (case a9=>k_is)
  (case l9=>k_is)
  (case c9=>k_is)
  (case k9=>k_is)
  (case a10=>k_is)
  (case l10=>k_is)
  (case c10=>k_is)
  (case k10=>k_is)
  (case a11=>k_is)
  (case l11=>k_is)
  (case c11=>k_is)
  (case k11=>k_is)
  (case a12=>k_is)
  (case l12=>k_is)
  (case c12=>k_is)
  (case k12=>k_is)
  (case a13=>k_is)
  (case l13=>k_is)
  (case c13=>k_is)
  (case k13=>k_is)
  (case a14=>k_is)
  (case l14=>k_is)
  (case c14=>k_is)
  (case k14=>k_is)
  (case a15=>k_is)
  (case l15=>k_is)
  (case c15=>k_is)
  (case k15=>k_is)
  (case a16=>k_is)
  (case l16=>k_is)
  (case c16=>k_is)
  (case k16=>k_is)
  (case a17=>k_is)
  (case l17=>k_is)
  (case c17=>k_is)
  (case k17=>k_is)
  (case a18=>k_is)
  (case l18=>k_is)
  (case c18=>k_is)
  (case k18=>k_is)
  (case a19=>k_is)
  (case l19=>k_is)
  (case c19=>k_is)
  (case k19=>k_is)
  (case a20=>k_is)
  (case l20=>k_is)
  (case c20=>k_is)
  (case k20=>k_is)
  (case a21=>k_is)
  (case l21=>k_is)
  (case c21=>k_is)
  (case k21=>k_is)
  (case a22=>k_is)
  (case l22=>k_is)
  (case c22=>k_is)
  (case k22=>k_is)
  (case a23=>k_is)
  (case l23=>k_is)
  (case c23=>k_is)
  (case k23=>k_is)
  (case a24=>k_is)
  (case l24=>k_is)
  (case c24=>k_is)
  (case k24=>k_is)
  (case a25=>k_is)
  (case l25=>k_is)
  (case c25=>k_is)
  (case k25=>k_is)
  (case a26=>k_is)
  (case l26=>k_is)
  (case c26=>k_is)
  (case k26=>k_is)
  (case a27=>k_is)
  (case l27=>k_is)
  (case c27=>k_is)
  (case k27=>k_is)
  (case a28=>k_is)
  (case l28=>k_is)
  (case c28=>k_is)
  (case k28=>k_is)
  (case a29=>k_is)
  (case l29=>k_is)
  (case c29=>k_is)
  (case k29=>k_is)
  (case a30=>k_is)
  (case l30=>k_is)
  (case c30=>k_is)
  (case k30=>k_is)
  (case a31=>k_is)
  (case l31=>k_is)
  (case c31=>k_is)
  (case k31=>k_is)
  (case a32=>k_is)
  (case l32=>k_is)
  (case c32=>k_is)
  (case k32=>k_is)
  (case a33=>k_is)
  (case l33=>k_is)
  (case c33=>k_is)
  (case k33=>k_is)
  (case a34=>k_is)
  (case l34=>k_is)
  (case c34=>k_is)
  (case k34=>k_is)
  (case a35=>k_is)
  (case l35=>k_is)
  (case c35=>k_is)
  (case k35=>k_is)
  (case a36=>k_is)
  (case l36=>k_is)
  (case c36=>k_is)
  (case k36=>k_is)
  (case a37=>k_is)
  (case l37=>k_is)
  (case c37=>k_is)
  (case k37=>k_is)
  (case z_abs=>k_is)
  (case z_bool=>k_is)
  (case z_int=>k_is)
  (case z_isinstance=>k_is)
  (case z_len=>k_is)
  (case z_list=>k_is)
  (case z_min=>k_is)
  (case z_range=>k_is)
  (case z_set=>k_is)
  (case z_sorted=>k_is)
  (case z_tuple=>k_is)
  (case z_zip=>k_is)
  (case cc_NoNumber=>k_is)
  (case cc_NoPoint=>k_is)
  (case r_NoNumber=>show PySem.W.excIn _ _ _ _ = true; k_exc)
  (case r_NoPoint=>show PySem.W.excIn _ _ _ _ = true; k_exc)
  (case x_NoNumber_ga=>k_is)
  (case x_NoNumber_gt=>k_is)
  (case x_NoNumber_cl=>k_is)
  (case x_NoNumber_isB=>k_is)
  (case x_NoNumber_isO=>k_is)
  (case x_NoNumber_isC=>k_is)
  (case x_NoNumber_k1=>kit_is)
  (case x_NoNumber_k2=>kit_is)
  (case x_NoNumber_k3=>kit_is)
  (case x_NoNumber_k4=>kit_is)
  (case x_NoNumber_k5=>kit_is)
  (case x_NoPoint_ga=>k_is)
  (case x_NoPoint_gt=>k_is)
  (case x_NoPoint_cl=>k_is)
  (case x_NoPoint_isB=>k_is)
  (case x_NoPoint_isO=>k_is)
  (case x_NoPoint_isC=>k_is)
  (case x_NoPoint_k1=>kit_is)
  (case x_NoPoint_k2=>kit_is)
  (case x_NoPoint_k3=>kit_is)
  (case x_NoPoint_k4=>kit_is)
  (case x_NoPoint_k5=>kit_is)
#print axioms PySem.Challenge.cw_farcuts_k54_points_that_bar_a_line_holds
