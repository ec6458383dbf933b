import PyProof.Rows.All
import Wide.All
import OpenK.AllK
import Wide.FinOn
import PyProof.EqAt
import PyProof.EqKinds
import PyProof.TupleCall
import PyProof.P3In
import PyProof.ZipIter
import PyProof.ListRange
import PyProof.SetRoads
import PyProof.Rows.SetFrom
import PyProof.Rows.SeqMore2
import KE.RegKIsAll
import PyProof.StrWalks
import PyProof.EnumMake
import PyProof.Conv_int
import PyProof.Conv_int_bool
import PyProof.StrBlockI
import PyProof.Draws
import PySem.Challenge.RW_farcuts_k25_whole_weights_of_trees
set_option Elab.async false
set_option linter.all false
set_option maxRecDepth 100000
set_option genSizeOfSpec false
set_option genInjectivity false
/-! THE HAND LAYER, for ints, bools, texts, own classes, LISTS and tuples (index, slices, in, append, pop ..), calls, loops. Paste it whole ahead of your own text; what your proof does not reach may be deleted. -/
namespace L2
open PySem PySem.Spec PyProof.Rows
noncomputable abbrev Key:=Sum Int Str
noncomputable def Z2o:Key→Value→Bool
 | .inl k,v=>Value.isInt k v
 | .inr x,v=>Value.isStrOf x v
noncomputable def Ycv (w:World):Key→Int
 | .inl k=>hashInt k
 | .inr x=>hashStr w x
theorem Wa:∀ {k:Key} {v:Value},Z2o k v = true→(∃ i t,k = Sum.inl i∧v = Value.int i t)∨(∃ x t,k = Sum.inr x∧v = Value.str x t)
 | .inl i,v,h=>by
  obtain ⟨t,e⟩:=Value.isInt_shape (k:=i) (v:=v) h
  exact .inl ⟨i,t,rfl,e⟩
 | .inr x,v,h=>by
  obtain ⟨t,e⟩:=Value.isStrOf_shape (x:=x) (v:=v) h
  exact .inr ⟨x,t,rfl,e⟩
theorem Z4v (a b:Int):decide ((Sum.inl a:Key) = Sum.inl b) = (a == b):=by
 by_cases e:a = b
 ·subst e; simp
 ·have h:¬ (Sum.inl a:Key) = Sum.inl b:=fun q=>e (Sum.inl.inj q)
  rw [decide_eq_false h]
  exact (beq_eq_false_iff_ne.mpr e).symm
theorem Z50 (a b:Str):decide ((Sum.inr a:Key) = Sum.inr b) = decide (a = b):=by
 by_cases e:a = b
 ·subst e; simp
 ·have h:¬ (Sum.inr a:Key) = Sum.inr b:=fun q=>e (Sum.inr.inj q)
  rw [decide_eq_false h,decide_eq_false e]
theorem Z3u (a:Int) (b:Str):decide ((Sum.inl a:Key) = Sum.inr b) = false:=decide_eq_false (fun q=>nomatch q)
theorem Z56 (a:Str) (b:Int):decide ((Sum.inr a:Key) = Sum.inl b) = false:=decide_eq_false (fun q=>nomatch q)
noncomputable def Zmf (prog:Program) (w:World):PySem.KeyKind prog w Key where
 is:=Z2o
 hash:=Ycv w
 inj:=fun v a b ha hb=>by
  rcases Wa ha with ⟨i,t,rfl,rfl⟩ | ⟨x,t,rfl,rfl⟩
  ·rcases Wa hb with ⟨j,u,rfl,e⟩ | ⟨y,u,rfl,e⟩
   ·injection e with e1 _; rw [e1]
   ·exact nomatch e
  ·rcases Wa hb with ⟨j,u,rfl,e⟩ | ⟨y,u,rfl,e⟩
   ·exact nomatch e
   ·injection e with e1 _; rw [e1]
 byValue:=fun k v h=>by
  rcases Wa h with ⟨i,t,rfl,rfl⟩ | ⟨x,t,rfl,rfl⟩ <;> rfl
 pyHash:=fun hv h=>by
  rcases Wa hv with ⟨i,t,rfl,rfl⟩ | ⟨x,t,rfl,rfl⟩
  ·exact wpAny_pyHash_int h
  ·exact wpAny_pyHash_str h
 eqBool:=fun hu hv h=>by
  rcases Wa hu with ⟨i,t,rfl,rfl⟩ | ⟨x,t,rfl,rfl⟩
  ·rcases Wa hv with ⟨j,u,rfl,rfl⟩ | ⟨y,u,rfl,rfl⟩
   ·rw [Z4v] at h; exact wpAny_eqBool_int h
   ·rw [Z3u] at h; exact SeqAt.EqAt.int_str i t y u _ _ _ _ h
  ·rcases Wa hv with ⟨j,u,rfl,rfl⟩ | ⟨y,u,rfl,rfl⟩
   ·rw [Z56] at h; exact SeqAt.EqAt.str_int x t j u _ _ _ _ h
   ·rw [Z50] at h; exact wpAny_eqBool_str h
 «strs»:=fun k x t v h=>by
  rcases Wa h with ⟨i,u,rfl,e⟩ | ⟨y,u,rfl,e⟩
  ·exact nomatch e
  ·injection e with e1 _
   subst e1
   cases v <;> rfl
end L2
namespace L2
open PySem PySem.Spec PyProof.Rows
inductive V where
 | non | bl (b:Bool) | int (i:Int) | str (x:Str) | byt (b:Array UInt8) | flt (b:UInt64) | ref (a:Addr) | ty (n:String)
 deriving DecidableEq
noncomputable def RelV:V→Value→Prop
 | .non,u=>u = Value.none
 | .bl b,u=>u = Value.bool b
 | .int i,u=>∃ t,u = Value.int i t
 | .str x,u=>∃ t,u = Value.str x t
 | .byt b,u=>∃ t,u = Value.bytes b t
 | .flt b,u=>∃ t,u = Value.float b t
 | .ref a,u=>u = Value.ref a
 | .ty n,u=>u = Value.type n
noncomputable abbrev Vals:List V→List Value→Prop:=Paired RelV
theorem Vals.length {xs:List V} {us:List Value} (r:Vals xs us):xs.length = us.length:=Paired.length r
theorem Vals.get {xs:List V} {us:List Value} {i:Nat} {x:V} (h:Vals xs us) (e:xs[i]? = some x):∃ u,us[i]? = some u∧RelV x u:=by
 induction h generalizing i with
 | nil=>exact (Option.some_ne_none _ (e.symm.trans List.getElem?_nil)).elim
 | cons r t ih =>
  cases i with
  | zero=>exact ⟨_,rfl,Option.some.inj e ▸ r⟩
  | succ i=>exact ih e
theorem Vals.set {x:V} {u:Value} (r:RelV x u) {xs:List V} {us:List Value} (i:Nat) (h:Vals xs us):Vals (xs.set i x) (us.set i u):=by
 induction h generalizing i with
 | nil=>exact .nil
 | cons q t ih =>
  cases i with
  | zero=>exact .cons r t
  | succ i=>exact .cons q (ih i)
theorem Vals.append {xs ys:List V} {us ws:List Value} (h:Vals xs us) (s:Vals ys ws):Vals (xs ++ ys) (us ++ ws):=by
 induction h with
 | nil=>exact s
 | cons r t ih=>exact .cons r ih
theorem Vals.take {xs:List V} {us:List Value} (n:Nat) (h:Vals xs us):Vals (xs.take n) (us.take n):=by
 induction h generalizing n with
 | nil=>rw [List.take_nil,List.take_nil]; exact .nil
 | cons r t ih =>
  cases n with
  | zero=>exact .nil
  | succ n=>exact .cons r (ih n)
theorem Vals.drop {xs:List V} {us:List Value} (n:Nat) (h:Vals xs us):Vals (xs.drop n) (us.drop n):=by
 induction h generalizing n with
 | nil=>rw [List.drop_nil,List.drop_nil]; exact .nil
 | cons r t ih =>
  cases n with
  | zero=>exact .cons r t
  | succ n=>exact ih n
noncomputable def RelO:Option V→Option Value→Prop
 | some v,some u=>RelV v u
 | none,none=>True
 | _,_=>False
noncomputable def KV {κ:Type}:List (κ × V)→List (κ × Value)→Prop:=Paired fun (p:κ × V) (q:κ × Value)=>p.1 = q.1∧RelV p.2 q.2
noncomputable def kV:Key→V
 | .inl i=>.int i
 | .inr x=>.str x
inductive HO where
  | lst (xs:List V)
  | tup (xs:List V)
  | dK (kvs:List (Key × V)) | dT (kvs:List (List Key × V))
  | set (S:Int→Bool) (n:Nat)
  | ins (C dx:Addr) (fs:List (Str × V))
  | own (x:Addr)
  | xd (fs:List (Str × V))
  | met (f x:Addr)
  | rng (lo hi:Int)
  | frz (o:Obj) (u:HO)
  | tbl (ps:Array Value)
  | ext (φ:Heap→Prop)
noncomputable abbrev Hp:=Addr→Option HO
noncomputable def upd (H:Hp) (a:Addr) (o:HO):Hp:=fun b=>if b = a then some o else H b
theorem Z7 {H:Hp} {a:Addr} {o:HO}:upd H a o a = some o:=by unfold upd; rw [if_pos rfl]
theorem Zy {H:Hp} {a b:Addr} {o:HO} (h:b ≠ a):upd H a o b = H b:=by unfold upd; rw [if_neg h]
theorem Yy {H:Hp} {a b:Addr} {o:HO} (h:H a = some o) (h':H b = none):a ≠ b:=by
 intro e; subst e; rw [h] at h'; cases h'
section
variable (P:Program) (w:World)
noncomputable def ObjOk (H:Hp) (h:Heap) (a:Addr):HO→Prop
 | .lst xs=>xs.length ≤ sizeLine∧∃ (its:List Value) (n:Nat),Vals xs its∧h.get? a = some { cls:=.type "list", data:=.seq its.toArray n }
 | .tup xs=>xs.length ≤ sizeLine∧∃ its:List Value,Vals xs its∧IsTup h a its.toArray
 | .dK kvs=>kvs.length ≤ sizeLine∧(a == sysModules) = false∧∃ vs,KV kvs vs∧h.DictOf (Zmf P w) a vs
 | .dT kvs=>kvs.length ≤ sizeLine∧(a == sysModules) = false∧∃ xs:List (List Key × Addr × Value),
   Paired (fun (p:List Key × V) (q:List Key × Addr × Value)=>p.1 = q.1∧H q.2.1 = some (.tup (p.1.map kV))∧RelV p.2 q.2.2) kvs xs ∧
   ∃ o es ep,h.get? a = some o∧o.ExactDict∧o.data = .dict es ep∧es.toList = xs.map (entryOfKey (tupleKind (Zmf P w)))∧(xs.map (·.1)).Nodup
 | .set S n=>h.SetOf (intKind P w) a S n
 | .ins C dx fs=>H dx = some (.own a)∧fs.length ≤ 1000∧dx ≠ a∧h.get? a = some (PySem.W.instObj C dx) ∧
   ∃ mA,h.Ns1 dx mA∧(∀ f,RelO (fs.lookup f) (mA f))∧PySem.Within mA (fs.map (·.1))
 | .own _=>∃ o,h.get? a = some o
 | .xd fs=>∃ mA,h.Ns1 a mA∧∀ f,RelO (fs.lookup f) (mA f)
 | .rng lo hi=>∃ t u v,h.get? a = some { cls:=.type "range", data:=.fields #[.int lo t,.int hi u,.int 1 v] }
 | .frz o u=>h.get? a = some o∧ObjOk H h a u
 | .tbl ps=>h.get? a = some { cls:=.none,data:=.fields ps }
 | .met f x=>h.get? a = some (PySem.W.methodObj (.ref f) (.ref x))
 | .ext φ=>φ h∧(∃ o,h.get? a = some o)∧∀ h1 h2:Heap,φ h1→(∀ o,h1.get? a = some o→h2.get? a = some o)→φ h2
noncomputable def HOk (H:Hp) (h:Heap):Prop:=∀ a o,H a = some o→ObjOk P w H h a o
end
section
variable {P:Program} {w:World} {H H':Hp} {h h':Heap} {a:Addr} {o:HO}
theorem ObjOk.lt (x:ObjOk P w H h a o):a < h.objs.size:=by
 cases o with
 | lst xs=>obtain ⟨_,_,_,_,e⟩:=x; exact Heap.lt_size e
 | tup xs=>obtain ⟨_,_,_,p⟩:=x; exact p.lt
 | dK kvs=>obtain ⟨_,_,_,_,o,_,_,e,_⟩:=x; exact Heap.lt_size e
 | dT kvs=>obtain ⟨_,_,_,_,o,_,_,e,_⟩:=x; exact Heap.lt_size e
 | set S n=>obtain ⟨o,_,_,_,e,_⟩:=x; exact Heap.lt_size e
 | ins C dx fs=>obtain ⟨_,_,_,e,_⟩:=x; exact Heap.lt_size e
 | own y=>obtain ⟨_,e⟩:=x; exact Heap.lt_size e
 | xd fs=>obtain ⟨_,⟨_,_,_,e,_⟩,_⟩:=x; exact Heap.lt_size e
 | rng lo hi=>obtain ⟨_,_,_,e⟩:=x; exact Heap.lt_size e
 | frz ob u=>obtain ⟨e,_⟩:=x; exact Heap.lt_size e
 | tbl ps=>exact Heap.lt_size (show h.get? a = some _ from x)
 | met f y=>exact Heap.lt_size (show h.get? a = some _ from x)
 | ext φ=>obtain ⟨_,⟨_,e⟩,_⟩:=x; exact Heap.lt_size e
theorem Paired.mapP {α β:Type} {F G:α→β→Prop} {l₁:List α} {l₂:List β} (h:Paired F l₁ l₂) (f:∀ a b,F a b→G a b):Paired G l₁ l₂:=by
 induction h with
 | nil=>exact .nil
 | cons r t ih=>exact .cons (f _ _ r) ih
theorem ObjOk.stay (x:ObjOk P w H h a o) (k:∀ b u,(b = a∨H b = some (.own a))→h.get? b = some u→h'.get? b = some u)
  (ho:∀ b,H b = some (.own a)→H' b = some (.own a)) (ht:∀ b xs,H b = some (.tup xs)→H' b = some (.tup xs)):ObjOk P w H' h' a o:=by
 induction o with
 | lst xs=>obtain ⟨z,its,n,r,e⟩:=x; exact ⟨z,its,n,r,k _ _ (.inl rfl) e⟩
 | tup xs=>obtain ⟨z,its,r,ob,e,c⟩:=x; exact ⟨z,its,r,ob,k _ _ (.inl rfl) e,c⟩
 | dK kvs=>obtain ⟨z,y,vs,r,ob,es,ep,e,c⟩:=x; exact ⟨z,y,vs,r,ob,es,ep,k _ _ (.inl rfl) e,c⟩
 | dT kvs =>
  obtain ⟨z,y,xs,r,ob,es,ep,e,c⟩:=x
  exact ⟨z,y,xs,Paired.mapP r fun p q z=>⟨z.1,ht _ _ z.2.1,z.2.2⟩,ob,es,ep,k _ _ (.inl rfl) e,c⟩
 | set S n=>obtain ⟨ob,es,ep,t,e,c⟩:=x; exact ⟨ob,es,ep,t,k _ _ (.inl rfl) e,c⟩
 | ins C dx fs =>
  obtain ⟨d,z,ne,e,mA,⟨od,es,ep,e2,c⟩,r⟩:=x
  exact ⟨ho _ d,z,ne,k _ _ (.inl rfl) e,mA,⟨od,es,ep,k _ _ (.inr d) e2,c⟩,r⟩
 | own y=>obtain ⟨ob,e⟩:=x; exact ⟨ob,k _ _ (.inl rfl) e⟩
 | xd fs=>obtain ⟨mA,⟨od,es,ep,e,c⟩,r⟩:=x; exact ⟨mA,⟨od,es,ep,k _ _ (.inl rfl) e,c⟩,r⟩
 | rng lo hi=>obtain ⟨t,u,v,e⟩:=x; exact ⟨t,u,v,k _ _ (.inl rfl) e⟩
 | frz ob u ih=>obtain ⟨e,q⟩:=x; exact ⟨k _ _ (.inl rfl) e,ih q⟩
 | tbl ps =>
  have e:h.get? a = some { cls:=.none,data:=.fields ps }:=x
  show h'.get? a = some { cls:=.none,data:=.fields ps }
  exact k a _ (.inl rfl) e
 | met f y =>
  have e:h.get? a = some (PySem.W.methodObj (.ref f) (.ref y)):=x
  show h'.get? a = some (PySem.W.methodObj (.ref f) (.ref y))
  exact k a _ (.inl rfl) e
 | ext φ=>obtain ⟨p,⟨o,e⟩,st⟩:=x; exact ⟨st _ _ p fun o q=>k _ _ (.inl rfl) q,⟨o,k _ _ (.inl rfl) e⟩,st⟩
theorem HOk.lt (x:HOk P w H h) (e:H a = some o):a < h.objs.size:=(x a o e).lt
theorem HOk.fresh (x:HOk P w H h) (e:h.objs.size ≤ a):H a = none:=by
 cases q:H a with
 | none=>rfl
 | some u=>exact absurd (Nat.lt_of_lt_of_le (x.lt q) e) (Nat.lt_irrefl _)
theorem HOk.kept (x:HOk P w H h) (k:∀ b u,h.get? b = some u→h'.get? b = some u):HOk P w H h':=fun a o e =>
 (x a o e).stay (fun b u _ q=>k b u q) (fun _ q=>q) fun _ _ q=>q
theorem HOk.laid (x:HOk P w H h) (k:∀ b u,h.get? b = some u→h'.get? b = some u) (hp:h.objs.size ≤ a) (new:ObjOk P w (upd H a o) h' a o):HOk P w (upd H a o) h':=fun b u e=>by
 have hn:=x.fresh hp
 by_cases hb:b = a
 ·subst hb; rw [Z7] at e; cases e; exact new
 ·rw [Zy hb] at e
  exact (x b u e).stay (fun c v _ q=>k c v q) (fun c q=>by rw [Zy (Yy q hn)]; exact q) fun c xs q=>by rw [Zy (Yy q hn)]; exact q
end
noncomputable def Rd (H:Hp) (a:Addr) (u:HO):Prop:=H a = some u∨∃ o,H a = some (.frz o u)
theorem Rd.ok {P:Program} {w:World} {H:Hp} {h:Heap} {a:Addr} {u:HO} (r:Rd H a u) (x:HOk P w H h):ObjOk P w H h a u:=by
 rcases r with r | ⟨o,r⟩
 ·exact x a u r
 ·obtain ⟨_,q⟩:=x a _ r
  exact q
noncomputable def Mut:Option HO→Prop
 | some (.lst _)=>True
 | some (.dK _)=>True
 | some (.dT _)=>True
 | some (.set _ _)=>True
 | some (.ins _ _ _)=>True
 | some (.ext _)=>True
 | _=>False
section
variable {P:Program} {w:World} {H:Hp} {h h':Heap} {x e:Addr} {o':HO}
theorem HOk.write (ok:HOk P w H h) (mu:Mut (H x)) (he:e = x∨H e = some (.own x)) (k:∀ b u,b ≠ e→h.get? b = some u→h'.get? b = some u) (heo:∃ u,h'.get? e = some u)
  (new:ObjOk P w (upd H x o') h' x o'):HOk P w (upd H x o') h':=fun b u q=>by
 have nown:∀ c y,H c = some (.own y)→c ≠ x:=fun c y r z=>by subst z; rw [r] at mu; exact mu
 have ntup:∀ c xs,H c = some (.tup xs)→c ≠ x:=fun c xs r z=>by subst z; rw [r] at mu; exact mu
 by_cases hb:b = x
 ·subst hb; rw [Z7] at q; cases q; exact new
 ·rw [Zy hb] at q
  by_cases hbe:b = e
  ·have q':H b = some (.own x):=by
    rcases he with z | z
    ·exact absurd (hbe.trans z) hb
    ·rw [hbe]; exact z
   rw [q] at q'; cases q'
   obtain ⟨v,hv⟩:=heo
   exact ⟨v,by rw [hbe]; exact hv⟩
  ·refine (ok b u q).stay (fun c v hc r=>k c v ?_ r) (fun c r=>by rw [Zy (nown c b r)]; exact r) fun c xs r=>by rw [Zy (ntup c xs r)]; exact r
   rcases hc with rfl | hc
   ·exact hbe
   ·rintro rfl
    rcases he with z | z
    ·exact nown c b hc z
    ·rw [hc] at z; cases z; exact hb rfl
end
structure Un (fs ex:List Addr) (H H':Hp) (h h':Heap):Prop where
 keep:∀ b o,h.get? b = some o→H b = none→b ∉ fs→b ∉ ex→h'.get? b = some o
 slot:∀ b o,h.get? b = some o→H b = none→b ∈ fs→b ∉ ex→∃ sl,h'.get? b = some { o with slots:=sl }
 free:∀ b o,h.get? b = some o→H b = none→b ∉ ex→H' b = none
 there:∀ b o,h.get? b = some o→b ∉ ex→∃ o',h'.get? b = some o'
 tups:∀ b xs,H b = some (.tup xs)→H' b = some (.tup xs)
 frzs:∀ b o u,H b = some (.frz o u)→H' b = some (.frz o u)
 tbls:∀ b ps,H b = some (.tbl ps)→∃ more,H' b = some (.tbl (ps ++ more))
section
variable {fs fs' ex ex':List Addr} {H H1 H2:Hp} {h h1 h2 h':Heap} {a x e:Addr} {o:HO}
theorem Un.any (u:Un fs ex H H1 h h1) {b:Addr} {ob:Obj} (q:h.get? b = some ob) (n:H b = none) (hx:b ∉ ex):∃ sl,h1.get? b = some { ob with slots:=sl }:=by
 by_cases hb:b ∈ fs
 ·exact u.slot b ob q n hb hx
 ·exact ⟨ob.slots,u.keep b ob q n hb hx⟩
theorem Un.kept (k:∀ b u,h.get? b = some u→h'.get? b = some u):Un fs ex H H h h' :=
 ⟨fun b ob q _ _ _=>k b ob q,fun b ob q _ _ _=>⟨ob.slots,k b ob q⟩,fun _ _ _ n _=>n,fun b ob q _=>⟨ob,k b ob q⟩,fun _ _ q=>q,fun _ _ _ q=>q,fun _ ps q=>⟨#[],by rw [q]; simp⟩⟩
theorem Un.refl:Un fs ex H H h h:=Un.kept fun _ _ q=>q
theorem Un.laid (k:∀ b u,h.get? b = some u→h'.get? b = some u) (hp:h.objs.size ≤ a) (hn:H a = none):Un fs ex H (upd H a o) h h' where
 keep:=fun b u q _ _ _=>k b u q
 slot:=fun b u q _ _ _=>⟨u.slots,k b u q⟩
 free:=fun b u q n _=>by rw [Zy (Nat.ne_of_lt (Nat.lt_of_lt_of_le (Heap.lt_size q) hp))]; exact n
 there:=fun b u q _=>⟨u,k b u q⟩
 tups:=fun b xs q=>by rw [Zy (Yy q hn)]; exact q
 frzs:=fun b u xs q=>by rw [Zy (Yy q hn)]; exact q
 tbls:=fun b ps q=>⟨#[],by rw [Zy (Yy q hn),q]; simp⟩
theorem Un.write (mu:Mut (H x)) (he:e = x∨H e = some (.own x)) (k:∀ b u,b ≠ e→h.get? b = some u→h'.get? b = some u) (heo:∃ u,h'.get? e = some u):Un fs ex H (upd H x o) h h':=by
 have hx:∀ b,H b = none→b ≠ x:=fun b n z=>by subst z; rw [n] at mu; exact mu
 have hb:∀ b,H b = none→b ≠ e:=fun b n z=>by
  subst z
  rcases he with r | r
  ·exact hx b n r
  ·rw [n] at r; cases r
 have hm:∀ b u,H b = some u→¬ Mut (some u)→b ≠ x:=fun b u q nm z=>by subst z; rw [q] at mu; exact nm mu
 refine ⟨fun b u q n _ _=>k b u (hb b n) q,fun b u q n _ _=>⟨u.slots,k b u (hb b n) q⟩,fun b u q n _=>by rw [Zy (hx b n)]; exact n,fun b u q _=>?_,
  fun b xs q=>by rw [Zy (hm b _ q fun z=>z)]; exact q,fun b u xs q=>by rw [Zy (hm b _ q fun z=>z)]; exact q,fun b ps q=>⟨#[],by rw [Zy (hm b _ q fun z=>z),q]; simp⟩⟩
 by_cases hbe:b = e
 ·subst hbe; exact heo
 ·exact ⟨u,k b u hbe q⟩
end
noncomputable def trk (h:Heap) (H:Hp):List Addr:=(List.range h.objs.size).filter fun a=>(H a).isSome
noncomputable def Zvs (h:Heap) (H:Hp):Heap:=PySem.W.hideAll h (trk h H)
theorem Zst (h:Heap) (H:Hp):(Zvs h H).objs.size = h.objs.size:=PySem.W.hideAll_size _ _
theorem Zv6 {h:Heap} {H:Hp} {b:Addr} {o:Obj} (e:h.get? b = some o) (n:H b = none):(Zvs h H).get? b = some o :=
 PySem.W.hideAll_get _ e fun hm=>by
  have q:(H b).isSome = true:=(List.mem_filter.mp hm).2
  rw [n] at q; simp at q
theorem Z1h {h:Heap} {H:Hp} {b:Addr} {o:Obj} (e:(Zvs h H).get? b = some o):h.get? b = some o∧H b = none:=by
 have e':h.get? b = some o:=PySem.W.of_hideAll (trk h H) e
 refine ⟨e',?_⟩
 cases q:H b with
 | none=>rfl
 | some x =>
  have hm:b ∈ trk h H:=List.mem_filter.mpr ⟨List.mem_range.mpr (Heap.lt_size e'),by simp [q]⟩
  have z:(Zvs h H).get? b = none:=PySem.W.hideAll_none (trk h H) hm
  rw [z] at e; cases e
noncomputable def Z1z (g h:Heap) (L:Addr):List (Addr × Obj):=(List.range h.objs.size).filterMap fun a=>if a = L∨(g.get? a).isSome = true then none else (h.get? a).map fun o=>(a,o)
noncomputable def rest (g h:Heap) (L d:Addr):List (Addr × Obj):=(Z1z g h L).filter fun p=>decide (p.1 ≠ d)
end L2
namespace L2
open PySem PySem.Spec PyProof.Rows
structure Mod (K:PySem.W.Frag) (mg:Str→Option Value) (base:Heap):Prop where
 kin:K.In base
 glob:base.Ns mainGlobals mg
 blt:∃ mb,base.Ns builtinsNs mb∧∀ x:Str,x ≠ "__name__" → mb x = bootBuiltins x
 nolimit:base.NoLimit
set_option genInjectivity false in
structure Cx where
 prog:Program
 w:World
 K:PySem.W.Frag
 mg:Str→Option Value
 base:Heap
 A:Around
 N:List Str
 s₀:Shared
 H₀:Hp
 env:Env
 outer:List Env
 stack:List Env
 ex:List Addr
 fn:Str→Bool
 calm:Bool
 pn:List (Addr × Obj)
 xe:Value→Shared→Prop
noncomputable def frs (l:List Env):List Addr:=l.filterMap (·.frame)
noncomputable abbrev Cx.fs (X:Cx):List Addr:=frs X.outer
noncomputable def Vis (sc:Scope) (x:Str):Prop:=sc.names.lookup x = some .local∨sc.names.lookup x = some .cell∨sc.names.lookup x = some .free
noncomputable def Loc (sc:Scope) (x:Str):Prop:=sc.names.lookup x = some .local∨sc.names.lookup x = some .cell
noncomputable def Look (env:Env) (h:Heap) (m:Str→Option Value) (x:Str) (u:Value):Prop :=
 (env.kindOf x = some .local∧m x = some u)∨((env.kindOf x = some .cell∨env.kindOf x = some .free)∧∃ c,env.cells.lookup x = some c∧h.IsCell c (some u))
structure Cx.Ok (X:Cx):Prop where
 mod:Mod X.K X.mg X.base
 kind:X.env.scope.kind = .function
 glob:X.env.globals = mainGlobals
 blt:X.env.builtins = builtinsNs
 above:X.s₀.heap.objs.size ≤ X.env.locals
 inj:∀ x y c,X.env.cells.lookup x = some c→X.env.cells.lookup y = some c→x = y
 has:∀ x,(X.env.kindOf x = some .cell∨X.env.kindOf x = some .free)→∃ c,X.env.cells.lookup x = some c
 cab:∀ x c,X.fn x = true→X.env.cells.lookup x = some c→X.s₀.heap.objs.size ≤ c
 hd:X.calm = true→X.A.handled = none
 frames:X.A.frames = some X.stack
 stk:X.stack = X.outer∨(X.stack = X.env :: X.outer∧X.env.frame = some X.env.locals)
 exf:∀ b ∈ X.ex,b ≠ X.env.locals∧∀ x c,X.env.cells.lookup x = some c→c ≠ b
 bs:∀ b o,X.base.get? b = some o→X.s₀.heap.get? b = some o∧X.H₀ b = none
 bsz:X.base.objs.size ≤ X.s₀.heap.objs.size
 noex:∀ b o,X.base.get? b = some o→b ∉ X.ex
 exfs:∀ b ∈ X.ex,b ∉ X.fs
 funs:X.s₀.heap.FunFrames X.base X.outer
 frf:∀ b ∈ X.fs,X.H₀ b = none
structure Inv (X:Cx) (pins:List (Addr × Obj)) (σ:List (Option V)) (H:Hp) (s:Shared):Prop where
 ok:X.Ok
 os:s.os = X.s₀.os
 bare:AllBare s.gens
 base:Un X.fs X.ex X.H₀ H X.s₀.heap s.heap
 loc:∃ m,s.heap.Ns X.env.locals m∧∀ (i:Nat) (x:Str) (v:V),X.N[i]? = some x→σ[i]? = some (some v)→Vis X.env.scope x→∃ u,RelV v u∧Look X.env s.heap m x u
 cell:∀ x c,X.env.cells.lookup x = some c→∃ v,s.heap.IsCell c v
 free:H X.env.locals = none
 freeC:∀ x c,X.env.cells.lookup x = some c→H c = none
 pin:∀ p ∈ X.pn ++ pins,s.heap.get? p.1 = some p.2∧H p.1 = none∧p.1 ≠ X.env.locals∧p.1 ∉ X.fs∧∀ v,p.2.data ≠ .cell v
 hok:HOk X.prog X.w H s.heap
 len:σ.length = X.N.length
section
variable {X:Cx} {pins:List (Addr × Obj)} {σ:List (Option V)} {H H':Hp} {s:Shared} {h':Heap}
theorem Cx.Ok.nofr (ok:X.Ok) {b:Addr} {o:Obj} (e:X.base.get? b = some o):b ∉ X.fs:=fun hb=>by
 have:=(ok.funs.mem hb).1
 rw [e] at this; cases this
theorem Inv.bs (I:Inv X pins σ H s):∀ b o,X.base.get? b = some o→s.heap.get? b = some o∧H b = none:=fun b o e =>
 ⟨I.base.keep b o (I.ok.bs b o e).1 (I.ok.bs b o e).2 (I.ok.nofr e) (I.ok.noex b o e),I.base.free b o (I.ok.bs b o e).1 (I.ok.bs b o e).2 (I.ok.noex b o e)⟩
theorem Inv.bk (I:Inv X pins σ H s):∀ b o,X.base.get? b = some o→s.heap.get? b = some o:=fun b o e=>(I.bs b o e).1
theorem Inv.mod (I:Inv X pins σ H s):Mod X.K X.mg X.base:=I.ok.mod
theorem Inv.kIn (I:Inv X pins σ H s):X.K.In s.heap:=I.ok.mod.kin.keeps I.bk
theorem Inv.lt (I:Inv X pins σ H s):X.env.locals < s.heap.objs.size:=let ⟨_,hn,_⟩:=I.loc; hn.lt
theorem Inv.sz (I:Inv X pins σ H s):X.s₀.heap.objs.size ≤ s.heap.objs.size:=Nat.le_trans I.ok.above (Nat.le_of_lt I.lt)
theorem Inv.nofs (I:Inv X pins σ H s) {a:Addr} (h:s.heap.objs.size ≤ a):a ∉ X.fs:=fun hb=>by
 obtain ⟨_,o,ho,_⟩:=I.ok.funs.mem hb
 exact absurd (Nat.lt_of_lt_of_le (Heap.lt_size ho) (Nat.le_trans I.sz h)) (Nat.lt_irrefl _)
theorem Inv.cne (I:Inv X pins σ H s):∀ x c,X.env.cells.lookup x = some c→c ≠ X.env.locals:=fun x c e z=>by
 obtain ⟨v,o,ho,hd⟩:=I.cell x c e
 obtain ⟨m,⟨o',es,ep,ho',hd',_⟩,_⟩:=I.loc
 rw [z,ho'] at ho; cases ho; rw [hd'] at hd; cases hd
theorem Inv.funs (I:Inv X pins σ H s):s.heap.FunFrames X.base X.outer:=by
 have all:∀ (l:List Env),(∀ b ∈ frs l,b ∈ X.fs)→X.s₀.heap.FunFrames X.base l→s.heap.FunFrames X.base l:=by
  intro l
  induction l with
  | nil=>intro _ _; trivial
  | cons env r ih =>
   intro hs hl
   obtain ⟨hk,⟨L,o,hf,hn,ho,hd⟩,hr⟩:=hl
   have hL:L ∈ X.fs:=hs L (by unfold frs; rw [List.filterMap_cons,hf]; exact List.mem_cons_self)
   obtain ⟨sl,e⟩:=I.base.slot L o ho (I.ok.frf L hL) hL fun z=>I.ok.exfs L z hL
   exact ⟨hk,⟨L,_,hf,hn,e,hd⟩,ih (fun b hb=>hs b (by unfold frs; rw [List.filterMap_cons,hf]; exact List.mem_cons_of_mem _ hb)) hr⟩
 exact all X.outer (fun _ hb=>hb) I.ok.funs
theorem Inv.stack (I:Inv X pins σ H s):s.heap.FunFrames X.base X.stack:=by
 rcases I.ok.stk with e | ⟨e,hf⟩
 ·rw [e]; exact I.funs
 ·rw [e]
  obtain ⟨m,hn,_⟩:=I.loc
  refine .cons (by rw [I.ok.kind]; decide) hf hn ?_ I.funs
  exact Heap.get?_none_of_le (Nat.le_trans I.ok.bsz I.ok.above)
theorem Inv.stkSub (I:Inv X pins σ H s):∀ b ∈ frs X.stack,b ∈ X.env.locals :: X.fs:=fun b hb=>by
 rcases I.ok.stk with e | ⟨e,hf⟩
 ·rw [e] at hb; exact List.mem_cons_of_mem _ hb
 ·rw [e] at hb
  unfold frs at hb
  rw [List.filterMap_cons,hf] at hb
  exact hb
theorem Inv.stkFree (I:Inv X pins σ H s):∀ b ∈ frs X.stack,H b = none:=fun b hb=>by
 rcases List.mem_cons.mp (I.stkSub b hb) with e | hb
 ·rw [e]; exact I.free
 ·obtain ⟨_,o,ho,_⟩:=I.ok.funs.mem hb
  exact I.base.free b o ho (I.ok.frf b hb) fun z=>I.ok.exfs b z hb
theorem Inv.step {g':Array GenState} {t':Nat} {d':Drawn} {ch:List Addr} (I:Inv X pins σ H s)
  (hch:∀ b ∈ ch,(b ∈ X.ex∨X.s₀.heap.objs.size ≤ b)∧b ≠ X.env.locals∧(∀ x c,X.env.cells.lookup x = some c→c ≠ b)∧∀ p ∈ X.pn ++ pins,p.1 ≠ b)
  (keep:∀ b o,b ≠ X.env.locals→b ∉ X.fs→b ∉ ch→s.heap.get? b = some o→H b = none→h'.get? b = some o)
  (slot:∀ b o,b ≠ X.env.locals→b ∈ X.fs→b ∉ ch→s.heap.get? b = some o→H b = none→∃ sl,h'.get? b = some { o with slots:=sl }) (free:∀ b o,b ∉ ch→s.heap.get? b = some o→H b = none→H' b = none)
  (there:∀ b o,b ∉ ch→s.heap.get? b = some o→∃ o',h'.get? b = some o')
  (tups:∀ b xs,H b = some (.tup xs)→H' b = some (.tup xs)) (frzs:∀ b o u,H b = some (.frz o u)→H' b = some (.frz o u)) (tbls:∀ b ps,H b = some (.tbl ps)→∃ more,H' b = some (.tbl (ps ++ more)))
  (ns:∀ m,s.heap.Ns X.env.locals m→h'.Ns X.env.locals m) (hok:HOk X.prog X.w H' h') (hg:AllBare g') :
  Inv X pins σ H' { s with heap:=h',gens:=g',drawn:=d',toks:=t' }:=by
 have neL:∀ b o,X.s₀.heap.get? b = some o→b ≠ X.env.locals:=fun b o e=>Nat.ne_of_lt (Nat.lt_of_lt_of_le (Heap.lt_size e) I.ok.above)
 have neC:∀ b o,X.s₀.heap.get? b = some o→b ∉ X.ex→b ∉ ch:=fun b o e hx hb=>by
  rcases (hch b hb).1 with z | z
  ·exact hx z
  ·exact absurd (Nat.lt_of_lt_of_le (Heap.lt_size e) z) (Nat.lt_irrefl _)
 have cellK:∀ x c,X.env.cells.lookup x = some c→∀ v,s.heap.IsCell c v→h'.IsCell c v:=fun x c e v ⟨o,ho,hd⟩=>by
  have nch:c ∉ ch:=fun z=>(hch c z).2.2.1 x c e rfl
  by_cases hc:c ∈ X.fs
  ·obtain ⟨sl,q⟩:=slot c o (I.cne x c e) hc nch ho (I.freeC x c e)
   exact ⟨_,q,hd⟩
  ·exact ⟨o,keep c o (I.cne x c e) hc nch ho (I.freeC x c e),hd⟩
 refine ⟨I.ok,I.os,hg,⟨fun b o e n hb hx=>?_,fun b o e n hb hx=>?_,fun b o e n hx=>?_,fun b o e hx=>?_,fun b xs e=>tups b xs (I.base.tups b xs e),fun b o xs e=>frzs b o xs (I.base.frzs b o xs e),fun b ps e=>?_⟩,?_,fun x c e=>?_,?_,fun x c e=>?_,fun p hp=>?_,hok,I.len⟩
 ·exact keep b o (neL b o e) hb (neC b o e hx) (I.base.keep b o e n hb hx) (I.base.free b o e n hx)
 ·obtain ⟨sl,e1⟩:=I.base.slot b o e n hb hx
  obtain ⟨sl',e2⟩:=slot b _ (neL b o e) hb (neC b o e hx) e1 (I.base.free b o e n hx)
  exact ⟨sl',e2⟩
 ·obtain ⟨o',e1⟩:=I.base.there b o e hx
  exact free b o' (neC b o e hx) e1 (I.base.free b o e n hx)
 ·obtain ⟨o',e1⟩:=I.base.there b o e hx
  exact there b o' (neC b o e hx) e1
 ·obtain ⟨m1,e1⟩:=I.base.tbls b ps e
  obtain ⟨m2,e2⟩:=tbls b _ e1
  exact ⟨m1 ++ m2,by rw [e2,Array.append_assoc]⟩
 ·obtain ⟨m,hn,hl⟩:=I.loc
  refine ⟨m,ns m hn,fun i x v e1 e2 e3=>?_⟩
  obtain ⟨u,r,l⟩:=hl i x v e1 e2 e3
  refine ⟨u,r,?_⟩
  rcases l with l | ⟨k,c,e,z⟩
  ·exact .inl l
  ·exact .inr ⟨k,c,e,cellK x c e _ z⟩
 ·obtain ⟨v,z⟩:=I.cell x c e
  exact ⟨v,cellK x c e v z⟩
 ·obtain ⟨m,⟨o,_,_,ho,_⟩,_⟩:=I.loc
  exact free _ o (fun z=>(hch _ z).2.1 rfl) ho I.free
 ·obtain ⟨v,o,ho,hd⟩:=I.cell x c e
  exact free c o (fun z=>(hch c z).2.2.1 x c e rfl) ho (I.freeC x c e)
 ·obtain ⟨e,n,ne,nf,d⟩:=I.pin p hp
  have nch:p.1 ∉ ch:=fun z=>(hch p.1 z).2.2.2 p hp rfl
  exact ⟨keep p.1 p.2 ne nf nch e n,free p.1 p.2 nch e n,ne,nf,d⟩
theorem Inv.un {t':Nat} (I:Inv X pins σ H s) (u:Un X.fs [] H H' s.heap h') (hok:HOk X.prog X.w H' h'):Inv X pins σ H' { s with heap:=h',toks:=t' }:=by
 obtain ⟨m,⟨o,es,ep,ho,r⟩,_⟩:=id I.loc
 obtain ⟨sl,hL⟩:=u.any ho I.free (by simp)
 exact I.step (g':=s.gens) (d':=s.drawn) (ch:=[]) (fun _ z=>nomatch z) (fun b o _ hb _ e n=>u.keep b o e n hb (by simp)) (fun b o _ hb _ e n=>u.slot b o e n hb (by simp)) (fun b o _ e n=>u.free b o e n (by simp)) (fun b o _ e=>u.there b o e (by simp)) u.tups u.frzs u.tbls (fun m' hm=>by
  obtain ⟨o',es',ep',ho',r'⟩:=hm
  rw [ho] at ho'; cases ho'
  exact ⟨_,es',ep',hL,r'⟩) hok I.bare
theorem Inv.call {g':Array GenState} {t':Nat} {d':Drawn} {ch:List Addr} (I:Inv X pins σ H s) (u:Un (frs X.stack) ch H H' s.heap h') (hok:HOk X.prog X.w H' h') (hg:AllBare g')
  (hch:∀ b ∈ ch,(b ∈ X.ex∨X.s₀.heap.objs.size ≤ b)∧b ≠ X.env.locals∧(∀ x c,X.env.cells.lookup x = some c→c ≠ b)∧∀ p ∈ X.pn ++ pins,p.1 ≠ b) :
  Inv X pins σ H' { s with heap:=h',gens:=g',drawn:=d',toks:=t' }:=by
 obtain ⟨m,⟨o,es,ep,ho,r⟩,_⟩:=id I.loc
 obtain ⟨sl,hL⟩:=u.any ho I.free fun z=>(hch _ z).2.1 rfl
 exact I.step (ch:=ch) hch (fun b o hL hb hc e n=>u.keep b o e n (fun z=>(List.mem_cons.mp (I.stkSub b z)).elim hL hb) hc) (fun b o _ _ hc e n=>u.any e n hc) (fun b o hc e n=>u.free b o e n hc) (fun b o hc e=>u.there b o e hc) u.tups u.frzs u.tbls (fun m' hm=>by
  obtain ⟨o',es',ep',ho',r'⟩:=hm
  rw [ho] at ho'; cases ho'
  exact ⟨_,es',ep',hL,r'⟩) hok hg
theorem Inv.turned {t':Nat} {it:Addr} (I:Inv X pins σ H s) (k:∀ b o,b ≠ it→s.heap.get? b = some o→h'.get? b = some o) (hn:H it = none) (hL:it ≠ X.env.locals)
  (h1:it ∈ X.ex∨X.s₀.heap.objs.size ≤ it) (h2:∀ x c,X.env.cells.lookup x = some c→c ≠ it) (h3:∀ p ∈ X.pn ++ pins,p.1 ≠ it):Inv X pins σ H { s with heap:=h',toks:=t' }:=by
 have nit:∀ b u,H b = some u→b ≠ it:=fun b u e z=>by rw [z,hn] at e; cases e
 refine I.step (g':=s.gens) (d':=s.drawn) (ch:=[it]) (fun b hb=>?_) (fun b o _ _ hc e _=>k b o (fun z=>hc (by simp [z])) e) (fun b o _ _ hc e _=>⟨o.slots,k b o (fun z=>hc (by simp [z])) e⟩) (fun _ _ _ _ n=>n)
  (fun b o hc e=>⟨o,k b o (fun z=>hc (by simp [z])) e⟩) (fun _ _ e=>e) (fun _ _ _ e=>e) (fun b ps e=>⟨#[],by rw [e]; simp⟩) (fun m hm=>?_) (fun b u e=>?_) I.bare
 ·have e:b = it:=by simpa using hb
  subst e
  exact ⟨h1,hL,h2,h3⟩
 ·obtain ⟨o,es,ep,ho,r⟩:=hm
  exact ⟨o,es,ep,k _ o (Ne.symm hL) ho,r⟩
 ·refine (I.hok b u e).stay (fun c v hc q=>k c v ?_ q) (fun _ q=>q) fun _ _ q=>q
  rcases hc with z | z
  ·rw [z]; exact nit b u e
  ·exact nit c _ z
theorem Inv.tok (I:Inv X pins σ H s) (t:Nat):Inv X pins σ H { s with toks:=t }:=I.un (h':=s.heap) (t':=t) Un.refl I.hok
theorem Inv.kept {t':Nat} (I:Inv X pins σ H s) (k:∀ b u,s.heap.get? b = some u→h'.get? b = some u):Inv X pins σ H { s with heap:=h',toks:=t' }:=I.un (Un.kept k) (I.hok.kept k)
theorem Inv.laid {a:Addr} {o:HO} {t':Nat} (I:Inv X pins σ H s) (k:∀ b u,s.heap.get? b = some u→h'.get? b = some u) (hp:s.heap.objs.size ≤ a) (new:ObjOk X.prog X.w (upd H a o) h' a o) :
  Inv X pins σ (upd H a o) { s with heap:=h',toks:=t' }:=I.un (Un.laid k hp (I.hok.fresh hp)) (I.hok.laid k hp new)
theorem Inv.write {x e:Addr} {o:HO} {t':Nat} (I:Inv X pins σ H s) (mu:Mut (H x)) (he:e = x∨H e = some (.own x)) (k:∀ b u,b ≠ e→s.heap.get? b = some u→h'.get? b = some u) (heo:∃ u,h'.get? e = some u)
  (new:ObjOk X.prog X.w (upd H x o) h' x o):Inv X pins σ (upd H x o) { s with heap:=h',toks:=t' }:=I.un (Un.write mu he k heo) (I.hok.write mu he k heo new)
theorem Inv.pins_of {pins':List (Addr × Obj)} (I:Inv X pins σ H s) (h:∀ p ∈ pins',s.heap.get? p.1 = some p.2∧H p.1 = none∧p.1 ≠ X.env.locals∧p.1 ∉ X.fs∧∀ v,p.2.data ≠ .cell v):Inv X pins' σ H s :=
 ⟨I.ok,I.os,I.bare,I.base,I.loc,I.cell,I.free,I.freeC,fun p hp=>(List.mem_append.mp hp).elim (fun z=>I.pin p (List.mem_append_left _ z)) (h p),I.hok,I.len⟩
theorem Zn1 {N:List Str} (hN:N.Nodup) {i j:Nat} {x:Str} (a:N[i]? = some x) (b:N[j]? = some x):i = j:=by
 obtain ⟨h1,e1⟩:=List.getElem?_eq_some_iff.mp a
 obtain ⟨h2,e2⟩:=List.getElem?_eq_some_iff.mp b
 exact (List.getElem_inj hN).mp (e1.trans e2.symm)
theorem Zk1 {M:Model} {A:Around} {E:Value→Shared→Prop} {i:Nat} {x:Str} {v:V} {u:Value} {Q:Unit→Shared→Prop} (I:Inv X pins σ H s) (hN:X.N.Nodup) (hi:X.N[i]? = some x) (hx:Loc X.env.scope x) (r:RelV v u)
  (h:∀ s',Inv X pins (σ.set i (some v)) H s'→(∃ a,Heap.SameBut a s.heap s'.heap∧(a = X.env.locals∨X.env.cells.lookup x = some a))→Q () s') (hf:X.fn x = true∨X.env.scope.names.lookup x = some .local:=by first | exact .inl rfl | exact .inr rfl | assumption):wpAny M A (storeName X.env x u) Q E s:=by
 obtain ⟨m,hn,hl⟩:=id I.loc
 have hcls:(X.env.scope.kind == .class || (X.env.scope.kind == .module && X.env.locals != X.env.globals)) = false:=by rw [I.ok.kind]; rfl
 have hiσ:i < σ.length:=by rw [I.len]; exact (List.getElem?_eq_some_iff.mp hi).1
 have cne:=I.cne
 have tracked:∀ {a:Addr} {h':Heap},(∃ o,s.heap.get? a = some o∧H a = none)→Heap.SameBut a s.heap h'→HOk X.prog X.w H h':=fun {a h'} ha hs b ob e=>by
  obtain ⟨_,_,hfree⟩:=ha
  refine (I.hok b ob e).stay (fun c w' hc q=>(hs.2 c ?_).trans q) (fun _ q=>q) fun _ _ q=>q
  rintro rfl
  rcases hc with rfl | hc
  ·rw [hfree] at e; cases e
  ·rw [hfree] at hc; cases hc
 rcases hx with hk | hk
 ·refine wpAny_storeName_local hk hn (fun h' hn' hs=>?_) hcls
  obtain ⟨oL,_,_,hoL,_⟩:=id hn
  refine h _ ⟨I.ok,I.os,I.bare,⟨fun b o e n hb hx=>?_,fun b o e n hb hx=>?_,I.base.free,fun b o e hx=>?_,I.base.tups,I.base.frzs,I.base.tbls⟩,⟨_,hn',fun j y v' e1 e2 e3=>?_⟩,fun y c e=>?_,I.free,I.freeC,fun p hp=>?_,tracked ⟨oL,hoL,I.free⟩ hs,by simpa using I.len⟩ ⟨_,hs,.inl rfl⟩
  ·exact (hs.2 b (Nat.ne_of_lt (Nat.lt_of_lt_of_le (Heap.lt_size e) I.ok.above))).trans (I.base.keep b o e n hb hx)
  ·obtain ⟨sl,e1⟩:=I.base.slot b o e n hb hx
   exact ⟨sl,(hs.2 b (Nat.ne_of_lt (Nat.lt_of_lt_of_le (Heap.lt_size e) I.ok.above))).trans e1⟩
  ·obtain ⟨o',e1⟩:=I.base.there b o e hx
   exact ⟨o',(hs.2 b (Nat.ne_of_lt (Nat.lt_of_lt_of_le (Heap.lt_size e) I.ok.above))).trans e1⟩
  ·by_cases hj:j = i
   ·subst hj
    rw [hi] at e1; cases e1
    rw [List.getElem?_set_self hiσ] at e2
    cases e2
    exact ⟨u,r,.inl ⟨hk,by simp⟩⟩
   ·rw [List.getElem?_set_ne (Ne.symm hj)] at e2
    obtain ⟨u',r',q⟩:=hl j y v' e1 e2 e3
    refine ⟨u',r',?_⟩
    rcases q with ⟨k,e⟩ | ⟨k,c,e,z⟩
    ·refine .inl ⟨k,?_⟩
     have:y ≠ x:=fun e=>hj (Zn1 hN e1 (e ▸ hi))
     simp [this,e]
    ·exact .inr ⟨k,c,e,z.sameBut hs (cne y c e)⟩
  ·obtain ⟨w',z⟩:=I.cell y c e
   exact ⟨w',z.sameBut hs (cne y c e)⟩
  ·obtain ⟨e,n,ne,nf,d⟩:=I.pin p hp
   exact ⟨(hs.2 p.1 ne).trans e,n,ne,nf,d⟩
 ·have hfn:X.fn x = true:=by
   rcases hf with z | z
   ·exact z
   ·rw [z] at hk; cases hk
  obtain ⟨c,hc⟩:=I.ok.has x (.inl hk)
  obtain ⟨w',z⟩:=I.cell x c hc
  refine wpAny_storeName_cell I.ok.kind hk hc z (fun h' hc' hs=>?_)
  obtain ⟨oc,hoc,hocd⟩:=id z
  refine h { s with heap:=h' } ⟨I.ok,I.os,I.bare,⟨fun b o e n hb hx=>?_,fun b o e n hb hx=>?_,I.base.free,fun b o e hx=>?_,I.base.tups,I.base.frzs,I.base.tbls⟩,⟨m,hn.sameBut hs (Ne.symm (cne x c hc)),fun j y v' e1 e2 e3=>?_⟩,fun y c' e=>?_,I.free,I.freeC,fun p hp=>?_,tracked ⟨oc,hoc,I.freeC x c hc⟩ hs,by simpa using I.len⟩ ⟨c,hs,.inr hc⟩
  ·exact (hs.2 b (Nat.ne_of_lt (Nat.lt_of_lt_of_le (Heap.lt_size e) (I.ok.cab x c hfn hc)))).trans (I.base.keep b o e n hb hx)
  ·obtain ⟨sl,e1⟩:=I.base.slot b o e n hb hx
   exact ⟨sl,(hs.2 b (Nat.ne_of_lt (Nat.lt_of_lt_of_le (Heap.lt_size e) (I.ok.cab x c hfn hc)))).trans e1⟩
  ·obtain ⟨o',e1⟩:=I.base.there b o e hx
   exact ⟨o',(hs.2 b (Nat.ne_of_lt (Nat.lt_of_lt_of_le (Heap.lt_size e) (I.ok.cab x c hfn hc)))).trans e1⟩
  ·by_cases hj:j = i
   ·subst hj
    rw [hi] at e1; cases e1
    rw [List.getElem?_set_self hiσ] at e2
    cases e2
    exact ⟨u,r,.inr ⟨.inl hk,c,hc,hc'⟩⟩
   ·rw [List.getElem?_set_ne (Ne.symm hj)] at e2
    obtain ⟨u',r',q⟩:=hl j y v' e1 e2 e3
    refine ⟨u',r',?_⟩
    rcases q with q | ⟨k,c',e,z'⟩
    ·exact .inl q
    ·refine .inr ⟨k,c',e,z'.sameBut hs ?_⟩
     rintro rfl
     exact hj (Zn1 hN e1 (I.ok.inj _ _ _ e hc ▸ hi))
  ·by_cases hcc:c' = c
   ·subst hcc; exact ⟨_,hc'⟩
   ·obtain ⟨w2,z2⟩:=I.cell y c' e
    exact ⟨w2,z2.sameBut hs hcc⟩
  ·obtain ⟨e,n,ne,nf,d⟩:=I.pin p hp
   refine ⟨(hs.2 p.1 ?_).trans e,n,ne,nf,d⟩
   intro q
   rw [q,hoc] at e
   have q':oc = p.2:=Option.some.inj e
   exact d w' (by rw [← q']; exact hocd)
theorem Zn2 {M:Model} {A:Around} {E:Value→Shared→Prop} {i:Nat} {x:Str} {v:V} {u:Value} {Q:Unit→Shared→Prop} (I:Inv X pins σ H s) (hN:X.N.Nodup) (hi:X.N[i]? = some x) (hx:Loc X.env.scope x) (r:RelV v u)
  (h:∀ s',Inv X pins (σ.set i (some v)) H s'→Q () s') (hf:X.fn x = true∨X.env.scope.names.lookup x = some .local:=by first | exact .inl rfl | exact .inr rfl | assumption):wpAny M A (storeName X.env x u) Q E s :=
 Zk1 I hN hi hx r (fun s' I' _=>h s' I') hf
theorem Inv.call' {s':Shared} {ch:List Addr} (I:Inv X pins σ H s) (ho:s'.os = s.os) (u:Un (frs X.stack) ch H H' s.heap s'.heap) (hok:HOk X.prog X.w H' s'.heap) (hg:AllBare s'.gens)
  (hch:∀ b ∈ ch,(b ∈ X.ex∨X.s₀.heap.objs.size ≤ b)∧b ≠ X.env.locals∧(∀ x c,X.env.cells.lookup x = some c→c ≠ b)∧∀ p ∈ X.pn ++ pins,p.1 ≠ b):Inv X pins σ H' s':=by
 obtain ⟨h',g',d',t',o'⟩:=s'
 have e:o' = s.os:=ho
 subst e
 exact I.call (g':=g') (t':=t') (d':=d') u hok hg hch
end
noncomputable abbrev XK:=Value→Option Addr→Hp→Prop
noncomputable abbrev St:=List (Option V)
noncomputable abbrev VK:=V→Hp→Prop
noncomputable abbrev TE:=St→Hp→VK→Prop
noncomputable abbrev TT:=St→Hp→(Bool→Hp→Prop)→Prop
noncomputable abbrev TA:=St→Hp→(List V→Hp→Prop)→Prop
set_option genInjectivity false in
structure Ends where
 nx:St→Hp→Prop
 rt:VK
 bk:St→Hp→Prop:=fun _ _=>False
 ct:St→Hp→Prop:=fun _ _=>False
noncomputable abbrev TS:=Ends→St→Hp→Prop
noncomputable def EP (X:Cx) (pins:List (Addr × Obj)) (σ:St) (Q:VK) (u:Value) (s':Shared):Prop:=∃ v H',Inv X pins σ H' s'∧RelV v u∧Q v H'
noncomputable def TP (X:Cx) (pins:List (Addr × Obj)) (σ:St) (Q:Bool→Hp→Prop) (b:Bool) (s':Shared):Prop:=∃ H',Inv X pins σ H' s'∧Q b H'
noncomputable def AP (X:Cx) (pins:List (Addr × Obj)) (σ:St) (Q:List V→Hp→Prop) (us:List Value) (s':Shared):Prop:=∃ vs H',Inv X pins σ H' s'∧Vals vs us∧Q vs H'
noncomputable def SP (X:Cx) (pins:List (Addr × Obj)) (D:Ends) (f:Flow) (s':Shared):Prop :=
 match f with
 | .next=>∃ σ' H',Inv X pins σ' H' s'∧D.nx σ' H'
 | .brk=>∃ σ' H',Inv X pins σ' H' s'∧D.bk σ' H'
 | .cont=>∃ σ' H',Inv X pins σ' H' s'∧D.ct σ' H'
 | .ret u=>∃ v σ' H',Inv X pins σ' H' s'∧RelV v u∧D.rt v H'
noncomputable def PE (X:Cx) (e:Expr) (t:TE):Prop :=
 ∀ (pins:List (Addr × Obj)) (s:Shared) (σ:St) (H:Hp) (Q:VK),Inv X pins σ H s→t σ H Q→wpAny (model X.prog X.w) X.A (eval e X.env) (EP X pins σ Q) X.xe s
noncomputable def PT (X:Cx) (e:Expr) (t:TT):Prop :=
 ∀ (pins:List (Addr × Obj)) (s:Shared) (σ:St) (H:Hp) (Q:Bool→Hp→Prop),Inv X pins σ H s→t σ H Q→wpAny (model X.prog X.w) X.A (isTrue e X.env (eval e X.env)) (TP X pins σ Q) X.xe s
noncomputable def PW (X:Cx) (e:Expr) (t:TT):Prop :=
 ∀ (whole:Sem Value) (pins:List (Addr × Obj)) (s:Shared) (σ:St) (H:Hp) (Q:Bool→Hp→Prop),Inv X pins σ H s→t σ H Q→wpAny (model X.prog X.w) X.A (isTrue e X.env whole) (TP X pins σ Q) X.xe s
theorem PW.pt {X:Cx} {e:Expr} {t:TT} (h:PW X e t):PT X e t:=h _
noncomputable def PA (X:Cx) (es:List Expr) (t:TA):Prop :=
 ∀ (pos:Pos) (pins:List (Addr × Obj)) (s:Shared) (σ:St) (H:Hp) (Q:List V→Hp→Prop),Inv X pins σ H s→t σ H Q→wpAny (model X.prog X.w) X.A (spliced (backTo pos (starEach es X.env))) (AP X pins σ Q) X.xe s
noncomputable def PS (X:Cx) (st:Stmt) (t:TS):Prop :=
 ∀ (pins:List (Addr × Obj)) (s:Shared) (σ:St) (H:Hp) (D:Ends),Inv X pins σ H s→t D σ H→wpAny (model X.prog X.w) X.A (exec st X.env) (SP X pins D) X.xe s
noncomputable def PSs (X:Cx) (st:List Stmt) (t:TS):Prop :=
 ∀ (pins:List (Addr × Obj)) (s:Shared) (σ:St) (H:Hp) (D:Ends),Inv X pins σ H s→t D σ H→wpAny (model X.prog X.w) X.A (execs st X.env) (SP X pins D) X.xe s
theorem thn {α:Type} {t:Sem α} {Q Q':α→Shared→Prop} {M:Model} {A:Around} {E:Value→Shared→Prop} {s:Shared} (h:wpAny M A t Q E s) (hQ:∀ a s,Q a s→Q' a s):wpAny M A t Q' E s:=wpAny_mono h hQ fun _ _ x=>x
end L2
namespace L2
open PySem PySem.Spec PyProof.Rows
section
variable {X:Cx}
noncomputable def Ybp (i:Nat):TE:=fun σ H Q=>∃ v,σ[i]? = some (some v)∧Q v H
noncomputable def tC (v:V):TE:=fun _ H Q=>Q v H
theorem Zxz {i:Nat} {x:Str} {pos:Pos} (hN:X.N[i]? = some x) (hv:Vis X.env.scope x) (hd:(x == ("__debug__" : Str)) = false:=by decide) (hcd:(x == ("__classdict__" : Str)) = false:=by decide):PE X (.Name x pos) (Ybp i):=by
 intro pins s σ H Q I h
 obtain ⟨v,e,h⟩:=h
 obtain ⟨m,hn,hl⟩:=I.loc
 obtain ⟨u,r,l⟩:=hl i x v hN e hv
 have fin:EP X pins σ Q u s:=⟨v,H,I,r,h⟩
 rcases l with ⟨hk,hm⟩ | ⟨hk,c,hc,hcell⟩
 ·exact wpAny_Name (wpAny_loadName_local I.ok.kind hk hn hm fin) hd
 ·rcases hk with hk | hk
  ·exact wpAny_Name (wpAny_loadName_cell I.ok.kind hk hc hcell fin) hd
  ·exact wpAny_Name (wpAny_loadName_free I.ok.kind hk hc hcell fin hcd) hd
theorem Z2q {i j pos}:PE X (.Constant (.int i) j pos) (tC (.int i)):=fun _ _ _ H _ I h=>wpAny_Constant_int ⟨.int i,H,I.tok _,⟨_,rfl⟩,h⟩
theorem Z73 {b j pos}:PE X (.Constant (.bool b) j pos) (tC (.bl b)):=fun _ _ _ H _ I h=>Constant_bool ⟨.bl b,H,I,rfl,h⟩
theorem Z4i {j pos}:PE X (.Constant .none j pos) (tC .non):=fun _ _ _ H _ I h=>Constant_none ⟨.non,H,I,rfl,h⟩
theorem Z5i {x j pos}:PE X (.Constant (.str x) j pos) (tC (.str x)):=fun _ _ _ H _ I h=>Calls.Constant_str ⟨.str x,H,I.tok _,⟨_,rfl⟩,h⟩
noncomputable def Gl (X:Cx) (x:Str):Prop:=X.env.kindOf x = some .globalImplicit
theorem Zt2 {E:Value→Shared→Prop} {pins:List (Addr × Obj)} {s:Shared} {σ:St} {H:Hp} {x:Str} {u:Value} {pos:Pos} {Q:Value→Shared→Prop} (I:Inv X pins σ H s) (hg:Gl X x) (hm:X.mg x = some u) (h:Q u s)
  (hd:(x == ("__debug__" : Str)) = false:=by decide):wpAny (model X.prog X.w) X.A (eval (.Name x pos) X.env) Q E s :=
 Calls.Name_function_global I.ok.kind hg (Calls.loadGlobal_global (by rw [I.ok.glob]; exact I.mod.glob.keeps I.bk) hm h) hd
theorem Zhq {E:Value→Shared→Prop} {pins:List (Addr × Obj)} {s:Shared} {σ:St} {H:Hp} {x:Str} {u:Value} {pos:Pos} {Q:Value→Shared→Prop} (I:Inv X pins σ H s) (hg:Gl X x) (hm:X.mg x = none) (hv:bootBuiltins x = some u) (h:Q u s)
  (hn:x ≠ "__name__" := by decide) (hd:(x == ("__debug__" : Str)) = false:=by decide):wpAny (model X.prog X.w) X.A (eval (.Name x pos) X.env) Q E s:=by
 obtain ⟨mb,h1,h2⟩:=I.mod.blt
 exact Calls.Name_function_global I.ok.kind hg (Calls.loadGlobal_builtin (by rw [I.ok.glob]; exact I.mod.glob.keeps I.bk) hm (by rw [I.ok.blt]; exact h1.keeps I.bk) ((h2 x hn).trans hv) h) hd
theorem Z19 {x:Str} {v:V} {u:Value} {pos:Pos} (hg:Gl X x) (hm:X.mg x = some u) (r:RelV v u) (hd:(x == ("__debug__" : Str)) = false:=by decide):PE X (.Name x pos) (tC v) :=
 fun _ _ _ H _ I h=>Zt2 I hg hm ⟨v,H,I,r,h⟩ hd
theorem Zzi {x:Str} {v:V} {u:Value} {pos:Pos} (hg:Gl X x) (hm:X.mg x = none) (hv:bootBuiltins x = some u) (r:RelV v u) (hn:x ≠ "__name__" := by decide) (hd:(x == ("__debug__" : Str)) = false:=by decide):PE X (.Name x pos) (tC v) :=
 fun _ _ _ H _ I h=>Zhq I hg hm hv ⟨v,H,I,r,h⟩ hn hd
noncomputable def t2I (ta tb:TE) (k:Int→Int→Hp→Prop):St→Hp→Prop:=fun σ H=>ta σ H fun x H1=>tb σ H1 fun y H2=>∃ i j,x = .int i∧y = .int j∧k i j H2
variable {a b:Expr} {ta tb:TE} {pos:Pos}
noncomputable def Z2f (p:Int→Int→Bool) (ta tb:TE):TE:=fun σ H Q=>t2I ta tb (fun i j H2=>Q (.bl (p i j)) H2) σ H
noncomputable abbrev tLt:TE→TE→TE:=Z2f fun i j=>decide (i < j)
noncomputable abbrev tLe:TE→TE→TE:=Z2f fun i j=>decide (i ≤ j)
noncomputable abbrev tGt:TE→TE→TE:=Z2f fun i j=>decide (j < i)
noncomputable abbrev tGe:TE→TE→TE:=Z2f fun i j=>decide (j ≤ i)
noncomputable abbrev Ydx:TE→TE→TE:=Z2f fun i j=>decide (i = j)
noncomputable abbrev Ydz:TE→TE→TE:=Z2f fun i j=>!decide (i = j)
noncomputable def tB (t:TE):TT:=fun σ H Q=>t σ H fun x H1=>∃ c,x = .bl c∧Q c H1
variable {tA tB':TT} {rest:List Expr}
noncomputable def tOr (t u:TT):TT:=fun σ H Q=>t σ H fun c H1=>if c = true then Q true H1 else u σ H1 Q
noncomputable def Ydh (t:TT):TT:=fun σ H Q=>t σ H fun c H1=>Q (!c) H1
theorem Z59 (ha:PT X a tA):PW X (.BoolOp .Or [a] pos) tA:=by
 intro wh pins s σ H Q I h
 refine isTrue_or (thn (ha pins s σ H Q I h) fun c s1 e=>?_)
 cases c with
 | false=>exact isTrue_or_nil e
 | true=>exact e
theorem Z9c (ha:PT X a tA) (hb:PW X (.BoolOp .Or (b :: rest) pos) tB'):PW X (.BoolOp .Or (a :: b :: rest) pos) (tOr tA tB'):=by
 intro wh pins s σ H Q I h
 refine isTrue_or (thn (ha pins s σ H _ I h) fun c s1 qz9=>?_)
 obtain ⟨H1,I1,q1⟩:=qz9
 cases c with
 | true=>exact ⟨H1,I1,q1⟩
 | false=>exact hb wh pins s1 σ H1 Q I1 q1
theorem Z4s (ha:PT X a tA):PT X (.UnaryOp .Not a pos) (Ydh tA):=by
 intro pins s σ H Q I h
 exact isTrue_not (ha pins s σ H (fun c H1=>Q (!c) H1) I h)
noncomputable def Z7w (ta tb:TE):TE:=fun σ H Q=>ta σ H fun x H1=>∃ c,x = .bl c∧if c = true then tb σ H1 Q else Q (.bl false) H1
noncomputable def Z8q (ta:TE):TE:=fun σ H Q=>ta σ H fun x H1=>∃ c,x = .bl c∧Q (.bl (!c)) H1
theorem Z3r {op} {t:TE} (h:PE X a t):PE X (.BoolOp op [a] pos) t:=fun pins s σ H Q I hw=>BoolOp_one (h pins s σ H Q I hw)
theorem Z3y (ha:PE X a ta) (hb:PE X (.BoolOp .And (b :: rest) pos) tb):PE X (.BoolOp .And (a :: b :: rest) pos) (Z7w ta tb):=by
 intro pins s σ H Q I h
 refine BoolOp_and (thn (ha pins s σ H _ I h) fun v s1 qz9=>?_)
 obtain ⟨x,H1,I1,r1,q1⟩:=qz9
 obtain ⟨c,rfl,q1⟩:=q1
 cases r1
 refine wpAny_truthy_bool ?_
 cases c with
 | true=>exact hb pins s1 σ H1 Q I1 q1
 | false=>exact ⟨.bl false,H1,I1,rfl,q1⟩
theorem Z4z (ha:PE X a ta):PE X (.UnaryOp .Not a pos) (Z8q ta):=by
 intro pins s σ H Q I h
 refine UnaryOp_ (thn (ha pins s σ H _ I h) fun v s1 qz9=>?_)
 obtain ⟨x,H1,I1,r1,q1⟩:=qz9
 obtain ⟨c,rfl,q1⟩:=q1
 cases r1
 exact not_of (wpAny_truthy_bool ⟨.bl (!c),H1,I1,rfl,q1⟩)
noncomputable def tIf (t:TT) (ta tb:TE):TE:=fun σ H Q=>t σ H fun c H1=>if c = true then ta σ H1 Q else tb σ H1 Q
theorem Zvd {c:Expr} (hc:PT X c tA) (ha:PE X a ta) (hb:PE X b tb):PE X (.IfExp c a b pos) (tIf tA ta tb):=by
 intro pins s σ H Q I h
 refine wpAny_IfExp (thn (hc pins s σ H _ I h) fun d s1 qz9=>?_)
 obtain ⟨H1,I1,q1⟩:=qz9
 cases d with
 | true=>exact ha pins s1 σ H1 Q I1 q1
 | false=>exact hb pins s1 σ H1 Q I1 q1
end
end L2
namespace L2
open PySem PySem.Spec PyProof.Rows
noncomputable def SqL (K:PySem.W.Frag) (H:Hp) (a:Addr) (xs:List V):Prop :=
 Rd H a (.lst xs) ∨
  ∃ (o:Obj) (its:Array Value) (n:Nat),K.lookup a = some o∧o.cls = .type "list" ∧ o.dict = none∧o.data = .seq its n∧its.size ≤ sizeLine∧Vals xs its.toList
noncomputable def SqT (K:PySem.W.Frag) (H:Hp) (a:Addr) (xs:List V):Prop :=
 Rd H a (.tup xs) ∨
  ∃ (o:Obj) (its:Array Value) (n:Nat),K.lookup a = some o∧o.cls = .type "tuple" ∧ o.data = .seq its n∧its.size ≤ sizeLine∧Vals xs its.toList
noncomputable def Ycn:Value→Option V
 | .none=>some .non
 | .bool b=>some (.bl b)
 | .int i _=>some (.int i)
 | .str x _=>some (.str x)
 | .bytes b _=>some (.byt b)
 | .float b _=>some (.flt b)
 | .ref a=>some (.ref a)
 | .type n=>some (.ty n)
 | _=>none
theorem RelV.abs {x:V} {u:Value} (r:RelV x u):Ycn u = some x:=by
 cases x with
 | non=>cases r; rfl
 | bl _=>cases r; rfl
 | int _=>obtain ⟨t,rfl⟩:=r; rfl
 | str _=>obtain ⟨t,rfl⟩:=r; rfl
 | byt _=>obtain ⟨t,rfl⟩:=r; rfl
 | flt _=>obtain ⟨t,rfl⟩:=r; rfl
 | ref _=>cases r; rfl
 | ty _=>cases r; rfl
theorem RelV.inj {x y:V} {u:Value} (r:RelV x u) (q:RelV y u):x = y:=Option.some.inj (r.abs.symm.trans q.abs)
theorem Vals.inj {xs ys:List V} {us:List Value} (h:Vals xs us) (k:Vals ys us):xs = ys:=by
 induction h generalizing ys with
 | nil=>cases k; rfl
 | cons r t ih =>
  cases k with
  | cons r' t'=>rw [r.inj r',ih t']
section
variable {X:Cx} {pins:List (Addr × Obj)} {σ:St} {H:Hp} {s:Shared} {a:Addr} {xs ys:List V}
theorem Inv.list (I:Inv X pins σ H s) (h:SqL X.K H a xs):∃ its:List Value,Vals xs its∧PlainL s.heap a its.toArray∧xs.length ≤ sizeLine:=by
 rcases h with h | ⟨o,its,n,hk,hc,hd,hs,hz,r⟩
 ·obtain ⟨z,its,n,r,e⟩:=h.ok I.hok
  exact ⟨its,r,⟨_,n,e,rfl,rfl,rfl⟩,z⟩
 ·refine ⟨its.toList,r,⟨o,n,I.kIn a o hk,hc,hd,by simpa using hs⟩,?_⟩
  have e:=r.length
  simp only [Array.length_toList] at e
  omega
theorem Inv.tuple (I:Inv X pins σ H s) (h:SqT X.K H a xs):∃ its:List Value,Vals xs its∧IsTup s.heap a its.toArray∧xs.length ≤ sizeLine:=by
 rcases h with h | ⟨o,its,n,hk,hc,hs,hz,r⟩
 ·obtain ⟨z,its,r,p⟩:=h.ok I.hok
  exact ⟨its,r,p,z⟩
 ·refine ⟨its.toList,r,⟨o,I.kIn a o hk,hc,n,by simpa using hs⟩,?_⟩
  have e:=r.length
  simp only [Array.length_toList] at e
  omega
theorem Inv.list_inj (I:Inv X pins σ H s) (h:SqL X.K H a xs) (h':SqL X.K H a ys):xs = ys:=by
 obtain ⟨its,r,⟨o,n,e,_,_,d⟩,_⟩:=I.list h
 obtain ⟨its',r',⟨o',n',e',_,_,d'⟩,_⟩:=I.list h'
 rw [e] at e'; cases e'
 rw [d] at d'
 injection d' with d1 _
 have:its = its':=by simpa using congrArg Array.toList d1
 subst this
 exact r.inj r'
end
noncomputable abbrev Cx.wish (X:Cx) (E:Value→Shared→Prop):Cx:={ X with xe:=E }
noncomputable abbrev Cx.nox (X:Cx):Cx:=X.wish fun _ _=>False
theorem Cx.Ok.wish {X:Cx} (ok:X.Ok) (E:Value→Shared→Prop):(X.wish E).Ok :=
 ⟨ok.mod,ok.kind,ok.glob,ok.blt,ok.above,ok.inj,ok.has,ok.cab,ok.hd,ok.frames,ok.stk,ok.exf,ok.bs,ok.bsz,ok.noex,ok.exfs,ok.funs,ok.frf⟩
theorem Cx.Ok.unwish {X:Cx} {E:Value→Shared→Prop} (ok:(X.wish E).Ok):X.Ok :=
 ⟨ok.mod,ok.kind,ok.glob,ok.blt,ok.above,ok.inj,ok.has,ok.cab,ok.hd,ok.frames,ok.stk,ok.exf,ok.bs,ok.bsz,ok.noex,ok.exfs,ok.funs,ok.frf⟩
section
variable {X:Cx} {pins:List (Addr × Obj)} {σ:St} {H:Hp} {s:Shared} {E:Value→Shared→Prop}
theorem Inv.wish (I:Inv X pins σ H s) (E:Value→Shared→Prop):Inv (X.wish E) pins σ H s:=⟨I.ok.wish E,I.os,I.bare,I.base,I.loc,I.cell,I.free,I.freeC,I.pin,I.hok,I.len⟩
theorem Inv.unwish (I:Inv (X.wish E) pins σ H s):Inv X pins σ H s:=⟨I.ok.unwish,I.os,I.bare,I.base,I.loc,I.cell,I.free,I.freeC,I.pin,I.hok,I.len⟩
theorem SP.unwish {D:Ends} {f:Flow} {s':Shared} (h:SP (X.wish E) pins D f s'):SP X pins D f s':=by
 cases f with
 | next=>obtain ⟨σ',H',I,q⟩:=h; exact ⟨σ',H',I.unwish,q⟩
 | brk=>obtain ⟨σ',H',I,q⟩:=h; exact ⟨σ',H',I.unwish,q⟩
 | cont=>obtain ⟨σ',H',I,q⟩:=h; exact ⟨σ',H',I.unwish,q⟩
 | ret u=>obtain ⟨v,σ',H',I,r,q⟩:=h; exact ⟨v,σ',H',I.unwish,r,q⟩
theorem PSs.nox {st:List Stmt} {t:TS} (h:PSs X.nox st t):PSs X st t:=fun pins s σ H D I hw =>
 wpAny_mono (h pins s σ H D (I.wish _) hw) (fun _ _ q=>q.unwish) fun _ _ z=>False.elim z
end
section
variable {X:Cx} {st:Stmt} {rest:List Stmt} {t u:TS} {e:Expr} {te:TE} {pos:Pos}
noncomputable def Z8v:TS:=fun D σ H=>D.nx σ H
noncomputable def Yc2 (t u:TS):TS:=fun D σ H=>t { D with nx:=u D } σ H
theorem Zy2:PSs X [] Z8v:=fun _ _ σ H _ I h=>wpAny_execs_nil ⟨σ,H,I,h⟩
theorem Zuv (h1:PS X st t) (h2:PSs X rest u):PSs X (st :: rest) (Yc2 t u):=by
 intro pins s σ H D I h
 refine wpAny_execs_cons (thn (h1 pins s σ H { D with nx:=u D } I h) fun f s1 q=>?_)
 cases f with
 | next =>
  obtain ⟨σ',H',I',q⟩:=q
  exact h2 pins s1 σ' H' D I' q
 | ret v=>exact q
 | brk=>exact q
 | cont=>exact q
theorem Z1r (h1:PS X st t):PSs X [st] t:=by
 intro pins s σ H D I h
 refine wpAny_execs_cons (thn (h1 pins s σ H D I h) fun f s1 q=>?_)
 cases f with
 | next=>exact wpAny_execs_nil q
 | ret v=>exact q
 | brk=>exact q
 | cont=>exact q
theorem Inv.quiet {pins:List (Addr × Obj)} {σ:St} {H:Hp} {s:Shared} (I:Inv X pins σ H s):interactive X.env = false:=by simp [interactive,I.ok.kind]
noncomputable def Z76 (te:TE):TS:=fun D σ H=>te σ H fun _ H1=>D.nx σ H1
theorem Znc (he:PE X e te) (hs:swapsWith e none pos.line X.env = pure false:=by rfl):PS X (.Expr e pos) (Z76 te):=by
 intro pins s σ H D I h
 refine wpAny_Expr_any (thn (he pins s σ H _ I h) fun v s1 qz9=>?_) I.quiet hs
 obtain ⟨x,H1,I1,r1,q1⟩:=qz9
 exact ⟨σ,H1,I1,q1⟩
noncomputable def Ycx (te:TE):TS:=fun D σ H=>te σ H D.rt
theorem Zxk (he:PE X e te):PS X (.Return (some e) pos) (Ycx te):=by
 intro pins s σ H D I h
 refine wpAny_Return_some (thn (he pins s σ H _ I h) fun v s1 qz9=>?_)
 obtain ⟨x,H1,I1,r1,q1⟩:=qz9
 exact ⟨x,σ,H1,I1,r1,q1⟩
noncomputable def Ydi (c:TT) (t u:TS):TS:=fun D σ H=>c σ H fun b H1=>if b = true then t D σ H1 else u D σ H1
theorem Z89 {c:Expr} {a b:List Stmt} {tc:TT} (hc:PT X c tc) (ha:PSs X a t) (hb:PSs X b u):PS X (.If c a b pos) (Ydi tc t u):=by
 intro pins s σ H D I h
 refine wpAny_If (thn (hc pins s σ H _ I h) fun d s1 qz9=>?_)
 obtain ⟨H1,I1,q1⟩:=qz9
 cases d with
 | true=>exact ha pins s1 σ H1 D I1 q1
 | false=>exact hb pins s1 σ H1 D I1 q1
noncomputable def Z57:TS:=fun _ _ _=>False
theorem Zwk:PS X st Z57:=fun _ _ _ _ _ _ h=>h.elim
end
noncomputable abbrev TG:=V→St→Hp→(St→Hp→Prop)→Prop
noncomputable abbrev TGs:=List V→St→Hp→(St→Hp→Prop)→Prop
noncomputable def PG (X:Cx) (target:Expr) (t:TG):Prop :=
 ∀ (pins:List (Addr × Obj)) (s:Shared) (σ:St) (H:Hp) (v:V) (u:Value) (Q:St→Hp→Prop),Inv X pins σ H s→RelV v u→t v σ H Q →
  wpAny (model X.prog X.w) X.A (assign target X.env u) (fun _ s'=>∃ σ' H',Inv X pins σ' H' s'∧Q σ' H') X.xe s
noncomputable def PGs (X:Cx) (ts:List Expr) (t:TGs):Prop :=
 ∀ (pins:List (Addr × Obj)) (s:Shared) (σ:St) (H:Hp) (vs:List V) (us:List Value) (Q:St→Hp→Prop),Inv X pins σ H s→Vals vs us→t vs σ H Q →
  wpAny (model X.prog X.w) X.A (assignInOrder ((assignEach ts X.env).map (·.2)) us) (fun _ s'=>∃ σ' H',Inv X pins σ' H' s'∧Q σ' H') X.xe s
noncomputable abbrev Z70:=V→V→V→Hp→(Hp→Prop)→Prop
noncomputable def Yad (X:Cx) (t:Z70):Prop :=
 ∀ (pins:List (Addr × Obj)) (s:Shared) (σ:St) (H:Hp) (o i v:V) (ov iv u:Value) (Q:Hp→Prop),Inv X pins σ H s→RelV o ov→RelV i iv→RelV v u→t o i v H Q →
  wpAny (model X.prog X.w) X.A (setItem ov iv u) (fun _ s'=>∃ H',Inv X pins σ H' s'∧Q H') X.xe s
noncomputable abbrev TIp:=V→V→Hp→VK→Prop
section
variable {X:Cx} {pos:Pos}
noncomputable def Zs3 (i:Nat):TG:=fun v σ H Q=>Q (σ.set i (some v)) H
theorem Z0z {i:Nat} {x:Str} (hN:X.N.Nodup) (hi:X.N[i]? = some x) (hx:Loc X.env.scope x) (hf:X.fn x = true∨X.env.scope.names.lookup x = some .local:=by first | exact .inl rfl | exact .inr rfl | assumption):PG X (.Name x pos) (Zs3 i):=by
 intro pins s σ H v u Q I r h
 exact wpAny_assign_Name (Zn2 I hN hi hx r (fun s' I'=>⟨_,H,I',h⟩) hf)
noncomputable def Yck:TGs:=fun vs σ H Q=>vs = []∧Q σ H
noncomputable def Z9b (t:TG) (u:TGs):TGs:=fun vs σ H Q=>∃ v r,vs = v :: r∧t v σ H fun σ' H'=>u r σ' H' Q
theorem Z14:PGs X [] Yck:=by
 intro pins s σ H vs us Q I r h
 obtain ⟨e,h⟩:=h
 subst e
 cases r
 exact assignInOrder_nil ⟨σ,H,I,h⟩
theorem Zwi {e:Expr} {es:List Expr} {t:TG} {u:TGs} (h1:PG X e t) (h2:PGs X es u)
  (hs:(assignEach (e :: es) X.env).map (·.2) = assign e X.env :: (assignEach es X.env).map (·.2):=by rfl):PGs X (e :: es) (Z9b t u):=by
 intro pins s σ H vs us Q I r h
 obtain ⟨v,vr,e1,h⟩:=h
 subst e1
 cases r with
 | cons r rr =>
  rw [hs]
  refine assignInOrder_cons (thn (h1 pins s σ H _ _ _ I r h) fun _ s1 qz9=>?_)
  obtain ⟨σ1,H1,I1,q1⟩:=qz9
  exact h2 pins s1 σ1 H1 _ _ Q I1 rr q1
noncomputable def Ycg (K:PySem.W.Frag) (n:Nat) (t:TGs):TG:=fun v σ H Q=>∃ a xs,v = .ref a∧SqT K H a xs∧xs.length = n∧t xs σ H Q
theorem Z4q {es:List Expr} {k:Nat} {t:TGs} {n:Nat} (hc:X.calm = true) (h:PGs X es t)
  (hn:(assignEach es X.env).length = n:=by rfl) (hst:(assignEach es X.env).findIdx? (·.1) = none:=by rfl):PG X (.Tuple es k pos) (Ycg X.K n t):=by
 intro pins s σ H v u Q I r hw
 obtain ⟨a,xs,e1,hq,hl,hw⟩:=hw
 subst e1
 cases r
 obtain ⟨its,rv,ht,hz⟩:=I.tuple hq
 refine assign_Tuple_tuple (I.ok.hd hc) ht (by simp [hn,← hl,rv.length]) hst fun h' hx=>?_
 have I1:Inv X pins σ H { s with heap:=h' }:=I.kept (t':=s.toks) fun b o e=>hx b o (Nat.ne_of_lt (Heap.lt_size e)) e
 exact h pins _ σ H xs _ Q I1 (by simpa using rv) hw
noncomputable def Yav (to ti:TE) (t:Z70):TG:=fun v σ H Q=>to σ H fun o H1=>ti σ H1 fun i H2=>t o i v H2 fun H3=>Q σ H3
theorem Z45 {o i:Expr} {to ti:TE} {t:Z70} (ho:PE X o to) (hi:PE X i ti) (hs:Yad X t)
  (ha:∀ v,assign (.Subscript o i pos) X.env v = (do
   let ov ← holding [v] (eval o X.env)
   let iv ← holding [v,ov] (eval i X.env)
   standAt pos
   holding [v,ov,iv] (setItem ov iv v)
   release [v,ov,iv] []):=by intro _; rfl):PG X (.Subscript o i pos) (Yav to ti t):=by
 intro pins s σ H v u Q I r h
 rw [ha]
 refine wpAny_bind (wpAny_holding (thn (ho pins s σ H _ I h) fun ov s1 qz9=>?_))
 obtain ⟨x,H1,I1,r1,q1⟩:=qz9
 refine wpAny_bind (wpAny_holding (thn (hi pins s1 σ H1 _ I1 q1) fun iv s2 qz9=>?_))
 obtain ⟨y,H2,I2,r2,q2⟩:=qz9
 refine wpAny_bind (wpAny_standAt (wpAny_bind (wpAny_holding (thn (hs pins s2 σ H2 x y v ov iv u _ I2 r1 r2 r q2) fun _ s3 qz9=>?_))))
 obtain ⟨H3,I3,q3⟩:=qz9
 exact wpAny_release ⟨σ,H3,I3,q3⟩
noncomputable def Z4f (te:TE) (g:TG):TS:=fun D σ H=>te σ H fun x H1=>g x σ H1 D.nx
theorem Z3g {tg e:Expr} {te:TE} {g:TG} (he:PE X e te) (hg:PG X tg g) (hs:swapsWithSole [tg] e pos.line X.env = pure false:=by rfl) (hw:swappedStores [tg] e X.env = pure none:=by rfl)
  (h1:(assignEach [tg] X.env).map (·.2) = [assign tg X.env]:=by rfl):PS X (.Assign [tg] e pos) (Z4f te g):=by
 intro pins s σ H D I h
 refine wpAny_Assign_stores (thn (he pins s σ H _ I h) fun v s1 qz9=>?_) hs hw
 obtain ⟨x,H1,I1,r1,q1⟩:=qz9
 rw [h1]
 exact thn (hg pins s1 σ H1 x v _ I1 r1 q1) fun _ s2 q=>q
theorem Zx0 {i:Nat} {x:Str} {e:Expr} {te:TE} {pos':Pos} (hN:X.N.Nodup) (hi:X.N[i]? = some x) (hx:Loc X.env.scope x) (he:PE X e te) (hs:swapsWith e (some (.Name x pos')) pos.line X.env = pure false:=by rfl) (hf:X.fn x = true∨X.env.scope.names.lookup x = some .local:=by first | exact .inl rfl | exact .inr rfl | assumption) :
  PS X (.Assign [.Name x pos'] e pos) (Z4f te (Zs3 i)):=by
 intro pins s σ H D I h
 refine wpAny_Assign_Name (thn (he pins s σ H _ I h) fun v s1 qz9=>?_) hs
 obtain ⟨y,H1,I1,r1,q1⟩:=qz9
 exact Zn2 I1 hN hi hx r1 (fun s2 I2=>⟨_,H1,I2,q1⟩) hf
end
section
variable {X:Cx} {pos:Pos}
noncomputable def Z3x (c:TT) (tb:TS):TS:=fun D σ H=>∃ W:Nat→St→Hp→Prop,(∃ m,W m σ H)∧∀ m σ H,W m σ H →
 c σ H fun b H1=>if b = true then ∃ N:St→Hp→Prop,(∀ σ' H',N σ' H'→∃ m',m' < m∧W m' σ' H')∧tb { D with nx:=N,ct:=N,bk:=D.nx } σ H1 else D.nx σ H1
theorem Zvw {c:Expr} {body:List Stmt} {tc:TT} {tb:TS} (hp:PassesOwn (model X.prog X.w) X.A X.env X.xe) (hc:PT X c tc) (hb:PSs X body tb):PS X (.While c body [] pos) (Z3x tc tb):=by
 intro pins s σ H D I h
 obtain ⟨W,⟨m0,w0⟩,turn⟩:=h
 refine wpAny_While (codeAny_whileLoop (fun n s'=>∃ σ' H',Inv X pins σ' H' s'∧W n σ' H') ?_ m0 ⟨σ,H,I,w0⟩)
 rintro n s1 ⟨σ1,H1,I1,w1⟩
 refine wpAny_passesOwn hp (thn (hc pins s1 σ1 H1 _ I1 (turn n σ1 H1 w1)) fun b s2 qz9=>?_)
 obtain ⟨H2,I2,q2⟩:=qz9
 cases b with
 | true =>
  obtain ⟨N,hN,q2⟩:=q2
  rw [if_pos rfl]
  refine wpAny_passesOwn hp (thn (hb pins s2 σ1 H2 _ I2 q2) fun f s3 q3=>?_)
  cases f with
  | next =>
   obtain ⟨σ3,H3,I3,n3⟩:=q3
   obtain ⟨m',hm,w3⟩:=hN σ3 H3 n3
   exact ⟨m',hm,σ3,H3,I3,w3⟩
  | cont =>
   obtain ⟨σ3,H3,I3,n3⟩:=q3
   obtain ⟨m',hm,w3⟩:=hN σ3 H3 n3
   exact ⟨m',hm,σ3,H3,I3,w3⟩
  | brk=>exact q3
  | ret v=>exact q3
 | false =>
  rw [if_neg Bool.false_ne_true]
  exact wpAny_execs_nil ⟨σ1,H2,I2,q2⟩
end
set_option genInjectivity false in
structure It where
 go:Nat→Hp→Prop
 yld:Nat→Hp→V→Hp→Prop
 stop:Nat→Hp→Prop
noncomputable def Zi2 (X:Cx) (pins:List (Addr × Obj)) (H:Hp) (b:Addr):Prop :=
 H b = none∧b ≠ X.env.locals∧b ∉ X.fs∧(b ∈ X.ex∨X.s₀.heap.objs.size ≤ b)∧(∀ x c,X.env.cells.lookup x = some c→c ≠ b)∧∀ p ∈ X.pn ++ pins,p.1 ≠ b
theorem Inv.fpOk {X:Cx} {pins:List (Addr × Obj)} {σ:St} {H H':Hp} {s:Shared} {b:Addr} (I:Inv X pins σ H s) (hb:s.heap.objs.size ≤ b) (hn:H' b = none):Zi2 X pins H' b:=by
 refine ⟨hn,Nat.ne_of_gt (Nat.lt_of_lt_of_le I.lt hb),I.nofs hb,.inr (Nat.le_trans I.sz hb),fun x c e z=>?_,fun p hp z=>?_⟩
 ·obtain ⟨v,q⟩:=I.cell x c e
  exact absurd (Nat.lt_of_lt_of_le q.lt (by rw [z]; exact hb)) (Nat.lt_irrefl _)
 ·exact absurd (Nat.lt_of_lt_of_le (Heap.lt_size (I.pin p hp).1) (by rw [z]; exact hb)) (Nat.lt_irrefl _)
structure Turn (P:Program) (w:World) (K:PySem.W.Frag) (tg:Expr) (J:It) (fp:List Addr) (it:Addr) (tn:Nat→Heap→Prop):Prop where
 mem:it ∈ fp
 obj:∀ i h,tn i h→∀ b ∈ fp,∃ o,h.get? b = some o∧∀ v,o.data ≠ .cell v
 keep:∀ i h h',tn i h→(∀ b ∈ fp,∀ o,h.get? b = some o→h'.get? b = some o)→tn i h'
 item:∀ (X:Cx),X.prog = P→X.w = w→X.K = K→X.calm = true→∀ (i:Nat) (pins:List (Addr × Obj)) (s:Shared) (σ:St) (H:Hp) (E:Value→Shared→Prop),Inv X pins σ H s→(∀ b ∈ fp,Zi2 X pins H b)→tn i s.heap→J.go i H →
  wpAny (model P w) X.A (pyNext (.ref it)) (fun r s1=>∃ u,r = some u ∧
   wpAny (model P w) X.A (letOwnedTupleGo tg (.ref it) u) (fun _ s2=>∃ x H',Inv X pins σ H' s2∧RelV x u∧J.yld i H x H'∧tn (i + 1) s2.heap∧∀ b ∈ fp,H' b = none) E s1) E s
 done:∀ (X:Cx),X.prog = P→X.w = w→X.K = K→X.calm = true→∀ (i:Nat) (pins:List (Addr × Obj)) (s:Shared) (σ:St) (H:Hp) (E:Value→Shared→Prop),Inv X pins σ H s→(∀ b ∈ fp,Zi2 X pins H b)→tn i s.heap→J.stop i H →
  wpAny (model P w) X.A (pyNext (.ref it)) (fun r s1=>r = none∧Inv X pins σ H s1) E s
 self:∀ (A:Around) (i:Nat) (s:Shared) (Q:Value→Shared→Prop) (E:Value→Shared→Prop),tn i s.heap→Q (.ref it) s→wpAny (model P w) A (pyIter (.ref it)) Q E s
noncomputable abbrev TI:=St→Hp→(It→Hp→Prop)→Prop
noncomputable def PIE (X:Cx) (pins:List (Addr × Obj)) (σ:St) (tg:Expr) (R:It→Hp→Prop) (itv:Value) (s2:Shared):Prop :=
 ∃ (it:Addr) (fp:List Addr) (tn:Nat→Heap→Prop) (J:It) (H':Hp),itv = .ref it∧Inv X pins σ H' s2∧Turn X.prog X.w X.K tg J fp it tn∧tn 0 s2.heap∧(∀ b ∈ fp,Zi2 X pins H' b)∧R J H'
noncomputable def PI (X:Cx) (tg iter:Expr) (wi:TI):Prop :=
 ∀ (pins:List (Addr × Obj)) (s:Shared) (σ:St) (H:Hp) (R:It→Hp→Prop),Inv X pins σ H s→wi σ H R →
  wpAny (model X.prog X.w) X.A (eval iter X.env) (fun v s1=>wpAny (model X.prog X.w) X.A (pyIter v) (PIE X pins σ tg R) X.xe s1) X.xe s
theorem Z5y {M:Model} {A:Around} {E:Value→Shared→Prop} {s:Shared} {tg:Expr} {it:Addr} {u:Value} {o:Obj} {n:String} {vs:Array Value} {Q:Unit→Shared→Prop} (ho:s.heap.get? it = some o) (hc:o.cls = .type n) (hd:o.data = .fields vs)
  (hn:["enumerate", "zip", "dict_itemiterator", "dict_reverseitemiterator", "odict_iterator", "itertools.zip_longest", "itertools.pairwise"].contains n = false) (hQ:Q () s):wpAny M A (letOwnedTupleGo tg (.ref it) u) Q E s:=by
 unfold letOwnedTupleGo
 cases tg <;> first
  | exact wpAny_pure hQ
  | (cases u <;> first
    | exact wpAny_pure hQ
    | (refine wpAny_bind (wpAny_load ho ?_)
       rw [hc,hd]
       show wpAny M A (if (["enumerate", "zip", "dict_itemiterator", "dict_reverseitemiterator", "odict_iterator", "itertools.zip_longest", "itertools.pairwise"].contains n && vs[0]? == some (rawInt _)) = true then _ else _) Q E s
       rw [if_neg (by intro h; rw [hn,Bool.false_and] at h; cases h)]
       exact wpAny_pure hQ))
noncomputable def Itl (K:PySem.W.Frag) (a:Addr):It :=
 ⟨fun i H=>∃ xs x,SqL K H a xs∧xs[i]? = some x,fun i H x H'=>H' = H∧∀ xs,SqL K H a xs→xs[i]? = some x,fun i H=>∃ xs,SqL K H a xs∧xs.length ≤ i⟩
noncomputable def Itr (lo:Int) (n:Nat):It:=⟨fun i _=>i < n,fun i H x H'=>H' = H∧x = .int (lo + i),fun i _=>n ≤ i⟩
theorem Zts {P:Program} {w:World} {K:PySem.W.Frag} {tg:Expr} (a it:Addr):Turn P w K tg (Itl K a) [it] it (fun i h=>h.IsListIter it a i) where
 mem:=by simp
 obj:=fun i h st b hb=>by
  have e:b = it:=by simpa using hb
  subst e
  obtain ⟨o,e,c,d⟩:=st
  exact ⟨o,e,fun v z=>by rw [d] at z; cases z⟩
 keep:=fun i h h' st k=>st.at fun o e=>k it (by simp) o e
 item:=by
  intro X hP hw hK hc i pins s σ H E I hf st hg
  subst hP hw hK
  obtain ⟨xs,x,hq,hx⟩:=hg
  obtain ⟨its,rv,p,hz⟩:=I.list hq
  obtain ⟨u,hu,ru⟩:=rv.get hx
  obtain ⟨f0,f1,f2,f3,f4,f5⟩:=hf it (by simp)
  refine wpAny_pyNext_list_item st p.isList (x:=u) (by simpa using hu) fun h' st' sb=>?_
  have I1:Inv X pins σ H { s with heap:=h' }:=I.turned (t':=s.toks) (fun b o hb e=>(sb.2 b hb).trans e) f0 f1 f3 f4 f5
  obtain ⟨o,e,c,d⟩:=id st'
  exact ⟨u,rfl,Z5y (s:={ s with heap:=h' }) e c d (by decide) ⟨x,H,I1,ru,⟨rfl,fun ys hy=>by rw [I.list_inj hy hq]; exact hx⟩,st',fun b hb=>(hf b hb).1⟩⟩
 done:=by
  intro X hP hw hK hc i pins s σ H E I hf st hg
  subst hP hw hK
  obtain ⟨xs,hq,hx⟩:=hg
  obtain ⟨its,rv,p,hz⟩:=I.list hq
  obtain ⟨f0,f1,f2,f3,f4,f5⟩:=hf it (by simp)
  have hl:=rv.length
  exact wpAny_pyNext_list_end (I.ok.hd hc) st p.isList (by simp; omega) fun h' eb=>⟨rfl,I.turned (t':=s.toks) (fun b o hb e=>eb b o hb e) f0 f1 f3 f4 f5⟩
 self:=fun _ _ _ _ _ st h=>wpAny_pyIter_listiter st h
theorem Zpz {P:Program} {w:World} {K:PySem.W.Frag} {tg:Expr} (it:Addr) (lo:Int) (n:Nat):Turn P w K tg (Itr lo n) [it] it (fun i h=>IsRangeIter h it (lo + (i:Nat) * 1) ((n:Int) - (i:Nat)) 1) where
 mem:=by simp
 obj:=fun i h st b hb=>by
  have e:b = it:=by simpa using hb
  subst e
  exact ⟨_,st,fun v z=>by
   have z':Data.fields _ = Data.cell v:=z
   cases z'⟩
 keep:=fun i h h' st k=>k it (by simp) _ st
 item:=by
  intro X hP hw hK hc i pins s σ H E I hf st hg
  subst hP hw hK
  obtain ⟨f0,f1,f2,f3,f4,f5⟩:=hf it (by simp)
  have W:=Walks.range (prog:=X.prog) (w:=X.w) (I.ok.hd hc) it lo 1 n
  refine W.item i s _ _ hg st fun v h' tk hv st' kk=>?_
  obtain ⟨t,rfl⟩:=hv
  have I1:Inv X pins σ H { s with heap:=h',toks:=tk }:=I.turned (fun b o hb e=>kk b o (by simpa using hb) e) f0 f1 f3 f4 f5
  refine ⟨_,rfl,Z5y (s:={ s with heap:=h',toks:=tk }) (n := "range_iterator") st' rfl rfl (by decide) ⟨.int (lo + i),H,I1,⟨t,?_⟩,⟨rfl,rfl⟩,st',fun b hb=>(hf b hb).1⟩⟩
  rw [Int.mul_one]
 done:=by
  intro X hP hw hK hc i pins s σ H E I hf st hg
  subst hP hw hK
  obtain ⟨f0,f1,f2,f3,f4,f5⟩:=hf it (by simp)
  exact wpAny_pyNext_range_end (I.ok.hd hc) st (by have:n ≤ i:=hg; omega) fun h' eb=>⟨rfl,I.turned (t':=s.toks) (fun b o hb e=>eb b o hb e) f0 f1 f3 f4 f5⟩
 self:=fun _ _ _ _ _ st h=>wpAny_pyIter_rangeiter st h
end L2
namespace L2
open PySem PySem.Spec PyProof.Rows
section
variable {X:Cx} {tg:Expr}
noncomputable def Z37 (K:PySem.W.Frag) (tl:TE):TI:=fun σ H R=>tl σ H fun x H1=>∃ a,x = .ref a∧(∃ xs,SqL K H1 a xs)∧R (Itl K a) H1
theorem Z0t {l:Expr} {tl:TE} (hl:PE X l tl):PI X tg l (Z37 X.K tl):=by
 intro pins s σ H R I h
 refine thn (hl pins s σ H _ I h) fun v s1 qz9=>?_
 obtain ⟨x,H1,I1,r1,q1⟩:=qz9
 obtain ⟨a,e,⟨xs,hq⟩,q⟩:=q1
 subst e
 cases r1
 obtain ⟨its,rv,p,hz⟩:=I1.list hq
 refine wpAny_pyIter_list p.isList ?_
 refine ⟨s1.heap.objs.size,[s1.heap.objs.size],_,_,H1,rfl,I1.kept (t':=s1.toks) fun b o e=>Heap.get?_push_of_some _ e,Zts a _,⟨_,Heap.get?_push_size _ rfl,rfl,rfl⟩,fun b hb=>?_,q⟩
 have e:b = s1.heap.objs.size:=by simpa using hb
 subst e
 exact I1.fpOk (Nat.le_refl _) (I1.hok.fresh (Nat.le_refl _))
theorem Zoi {pins:List (Addr × Obj)} {σ:St} {H:Hp} {s:Shared} {R:It→Hp→Prop} {E:Value→Shared→Prop} {lo hi:Int} {t u v:Tok} {tk:Nat} (I:Inv X pins σ H s) (h1:-(2 ^ 62) ≤ lo) (h2:lo < 2 ^ 62) (h3:-(2 ^ 62) ≤ hi) (h4:hi < 2 ^ 62)
  (q:R (Itr lo (hi - lo).toNat) H):wpAny (model X.prog X.w) X.A (pyIter (.ref s.heap.objs.size)) (PIE X pins σ tg R) E { s with heap:=s.heap.push { cls:=.type "range", data:=.fields #[.int lo t,.int hi u,.int 1 v] },toks:=tk }:=by
 refine wpAny_pyIter_range (IsRange.new ..) (small_one h1 h2 h3 h4) ?_
 have I1:Inv X pins σ H { s with heap:=s.heap.push { cls:=.type "range", data:=.fields #[.int lo t,.int hi u,.int 1 v] },toks:=tk }:=I.kept fun b o e=>Heap.get?_push_of_some _ e
 refine ⟨(s.heap.push { cls:=.type "range", data:=.fields #[.int lo t,.int hi u,.int 1 v] }).objs.size,[(s.heap.push { cls:=.type "range", data:=.fields #[.int lo t,.int hi u,.int 1 v] }).objs.size],_,_,H,rfl,
  I1.kept (t':=tk) fun b o e=>Heap.get?_push_of_some _ e,Zpz _ lo (hi - lo).toNat,?_,fun b hb=>?_,q⟩
 ·have e1:lo + ((0:Nat):Int) * 1 = lo:=by simp
  have e2:(((hi - lo).toNat:Nat):Int) - ((0:Nat):Int) = Builtin.Range.rangeSize lo hi 1:=by rw [rangeSize_one]; split <;> omega
  show IsRangeIter _ _ (lo + ((0:Nat):Int) * 1) ((((hi - lo).toNat:Nat):Int) - ((0:Nat):Int)) 1
  rw [e1,e2]
  exact Heap.get?_push_size _ rfl
 ·have e:b = (s.heap.push { cls:=.type "range", data:=.fields #[.int lo t,.int hi u,.int 1 v] }).objs.size:=by simpa using hb
  subst e
  exact I1.fpOk (Nat.le_refl _) (I1.hok.fresh (Nat.le_refl _))
noncomputable def Z8w (ta:TA):TI:=fun σ H R=>ta σ H fun vs H1=>∃ j:Int,vs = [.int j]∧-(2 ^ 62) ≤ j∧j < 2 ^ 62∧R (Itr 0 j.toNat) H1
noncomputable def Z9z (ta:TA):TI:=fun σ H R=>ta σ H fun vs H1=>∃ i j:Int,vs = [.int i,.int j]∧(-(2 ^ 62) ≤ i∧i < 2 ^ 62∧-(2 ^ 62) ≤ j∧j < 2 ^ 62)∧R (Itr i (j - i).toNat) H1
theorem Zsl {a:Expr} {ta:TA} {p pos:Pos} (hg:Gl X "range") (hm:X.mg "range" = none) (ha:PA X [a] ta) (hs:starEach [a] X.env = [(false,eval a X.env)]:=by rfl):PI X tg (.Call (.Name "range" p) [a] [] pos) (Z8w ta):=by
 intro pins s σ H R I h
 refine Call_ (Zhq I hg hm boot_range (PyProof.Rows.callWith_type1 (thn (ha pos pins s σ H _ I h) fun us s1 qz9=>?_) hs rfl))
 obtain ⟨vs,H1,I1,r1,q1⟩:=qz9
 obtain ⟨j,e,q1,q2,q⟩:=q1
 subst e
 cases r1 with
 | cons r rr =>
  cases rr
  obtain ⟨t,rfl⟩:=r
  exact call_range_1 (Zoi I1 (by omega) (by omega) q1 q2 (by simpa using q))
theorem Zsd {a b:Expr} {ta:TA} {p pos:Pos} (hg:Gl X "range") (hm:X.mg "range" = none) (ha:PA X [a,b] ta) (hs:starEach [a,b] X.env = [(false,eval a X.env),(false,eval b X.env)]:=by rfl) (hs2:starEach [b] X.env = [(false,eval b X.env)]:=by rfl) :
  PI X tg (.Call (.Name "range" p) [a,b] [] pos) (Z9z ta):=by
 intro pins s σ H R I h
 refine Call_ (Zhq I hg hm boot_range (PyProof.Rows.callWith_type1 (thn (ha pos pins s σ H _ I h) fun us s1 ⟨vs,H1,I1,r1,q1⟩=>?_) (by rw [hs,hs2]) (by rw [hs2]; rfl)))
 obtain ⟨i,j,e,⟨q1,q2,q3,q4⟩,q⟩:=q1
 subst e
 cases r1 with
 | cons r rr =>
  cases rr with
  | cons r' rr =>
   cases rr
   obtain ⟨t,rfl⟩:=r
   obtain ⟨t',rfl⟩:=r'
   exact call_range_2 (Zoi I1 q1 q2 q3 q4 q)
noncomputable def Ycr (wi:TI) (g:TG) (tb:TS):TS:=fun D σ H=>wi σ H fun J H1=>∃ W:Nat→Nat→St→Hp→Prop,(∃ m,W 0 m σ H1)∧∀ i m σ H,W i m σ H →
 (J.stop i H∧D.nx σ H)∨(J.go i H∧∃ N:St→Hp→Prop,(∀ σ' H',N σ' H'→∃ m',m' < m∧W (i + 1) m' σ' H')∧∀ x H',J.yld i H x H'→g x σ H' fun σ2 H2=>tb { D with nx:=N,ct:=N,bk:=D.nx } σ2 H2)
noncomputable def Zki (fp:List Addr) (h:Heap):List (Addr × Obj):=fp.filterMap fun b=>(h.get? b).map fun o=>(b,o)
theorem Zdk {fp:List Addr} {h:Heap} {b:Addr} {o:Obj} (hb:b ∈ fp) (e:h.get? b = some o):(b,o) ∈ Zki fp h:=List.mem_filterMap.mpr ⟨b,hb,by rw [e]; rfl⟩
theorem Zs7 {fp:List Addr} {h:Heap} {p:Addr × Obj} (hp:p ∈ Zki fp h):p.1 ∈ fp∧h.get? p.1 = some p.2:=by
 obtain ⟨b,hb,e⟩:=List.mem_filterMap.mp hp
 cases q:h.get? b with
 | none=>rw [q] at e; cases e
 | some o =>
  rw [q] at e
  have e':(b,o) = p:=Option.some.inj e
  subst e'
  exact ⟨hb,q⟩
theorem Inv.pinned {pins:List (Addr × Obj)} {σ:St} {H:Hp} {s:Shared} {fp:List Addr} (I:Inv X pins σ H s) (hf:∀ b ∈ fp,Zi2 X pins H b) (ho:∀ b ∈ fp,∃ o,s.heap.get? b = some o∧∀ v,o.data ≠ .cell v):Inv X (pins ++ Zki fp s.heap) σ H s :=
 I.pins_of fun p hp=>(List.mem_append.mp hp).elim (fun z=>I.pin p (List.mem_append_right _ z)) fun z=>by
  obtain ⟨hb,e⟩:=Zs7 z
  obtain ⟨f0,f1,f2,_⟩:=hf p.1 hb
  obtain ⟨o,e',d⟩:=ho p.1 hb
  rw [e] at e'; cases e'
  exact ⟨e,f0,f1,f2,d⟩
theorem Inv.unpinned {pins pl:List (Addr × Obj)} {σ:St} {H:Hp} {s:Shared} (I:Inv X (pins ++ pl) σ H s):Inv X pins σ H s:=I.pins_of fun p hp=>I.pin p (List.mem_append_right _ (List.mem_append_left _ hp))
theorem Z5q {iter:Expr} {body:List Stmt} {wi:TI} {g:TG} {tb:TS} {pos:Pos} (hp:PassesOwn (model X.prog X.w) X.A X.env X.xe) (hc:X.calm = true) (hi:PI X tg iter wi) (hg:PG X tg g) (hb:PSs X body tb)
  (hs:∀ x,foldedSetIterable iter X.env x = pure x:=by intro _; rfl):PS X (.For tg iter body [] pos) (Ycr wi g tb):=by
 intro pins s σ H D I h
 refine wpAny_For (thn (hi pins s σ H _ I h) fun v s1 h1=>thn h1 fun itv s2 h2=>?_) hs
 obtain ⟨it,fp,tn,J,H2,e,I2,T,st2,f2,W,⟨m0,w0⟩,turn⟩:=h2
 subst e
 -- what stays true of the iterator's objects through the loop
 have stat:∀ {H':Hp},(∀ b ∈ fp,H' b = none)→∀ b ∈ fp,Zi2 X pins H' b:=fun hn b hb=>⟨hn b hb,(f2 b hb).2⟩
 refine codeAny_forLoop_any (fun n s'=>∃ i σ' H',Inv X pins σ' H' s'∧tn i s'.heap∧(∀ b ∈ fp,H' b = none)∧W i n σ' H') ?_ m0 ⟨0,σ,H2,I2,st2,fun b hb=>(f2 b hb).1,w0⟩
 rintro n s3 ⟨i,σ3,H3,I3,st3,fr3,w3⟩
 rcases turn i n σ3 H3 w3 with ⟨stop,qn⟩ | ⟨go,N,hN,step⟩
 ·refine wpAny_passesOwn hp (thn (T.done X rfl rfl rfl hc i pins s3 σ3 H3 X.xe I3 (stat fr3) st3 stop) fun r s4 qz9=>?_)
  obtain ⟨hr,I4⟩:=qz9
  subst hr
  exact wpAny_execs_nil ⟨σ3,H3,I4,qn⟩
 ·refine wpAny_passesOwn hp (thn (T.item X rfl rfl rfl hc i pins s3 σ3 H3 X.xe I3 (stat fr3) st3 go) fun r s4 qz9=>?_)
  obtain ⟨u,hr,h4⟩:=qz9
  subst hr
  refine wpAny_passesOwn hp (thn h4 fun _ s5 qz9=>?_)
  obtain ⟨x,H5,I5,r5,y5,st5,fr5⟩:=qz9
  have I5':=I5.pinned (stat fr5) (T.obj _ _ st5)
  refine wpAny_passesOwn hp (thn (hg _ s5 σ3 H5 x u _ I5' r5 (step x H5 y5)) fun _ s6 qz9=>?_)
  obtain ⟨σ6,H6,I6,q6⟩:=qz9
  refine wpAny_passesOwn hp (thn (hb _ s6 σ6 H6 _ I6 q6) fun f s7 q7=>?_)
  have again:∀ {σ7:St} {H7:Hp},Inv X (pins ++ Zki fp s5.heap) σ7 H7 s7→N σ7 H7→∃ m,m < n∧∃ i σ' H',Inv X pins σ' H' s7∧tn i s7.heap∧(∀ b ∈ fp,H' b = none)∧W i m σ' H':=fun {σ7 H7} I7 n7=>by
   obtain ⟨m',hm,w7⟩:=hN σ7 H7 n7
   refine ⟨m',hm,i + 1,σ7,H7,I7.unpinned,T.keep _ _ _ st5 fun b hb o e=>(I7.pin (b,o) (List.mem_append_right _ (List.mem_append_right _ (Zdk hb e)))).1,fun b hb=>?_,w7⟩
   obtain ⟨o,e,d⟩:=T.obj _ _ st5 b hb
   exact (I7.pin (b,o) (List.mem_append_right _ (List.mem_append_right _ (Zdk hb e)))).2.1
  cases f with
  | next=>obtain ⟨σ7,H7,I7,n7⟩:=q7; exact again I7 n7
  | cont=>obtain ⟨σ7,H7,I7,n7⟩:=q7; exact again I7 n7
  | brk=>obtain ⟨σ7,H7,I7,q7⟩:=q7; exact ⟨σ7,H7,I7.unpinned,q7⟩
  | ret v=>obtain ⟨x7,σ7,H7,I7,r7,q7⟩:=q7; exact ⟨x7,σ7,H7,I7.unpinned,r7,q7⟩
end
end L2
namespace L2
open PySem PySem.Spec PyProof.Rows
noncomputable abbrev R2:=V→V→Hp→VK→Prop
noncomputable def OpR (X:Cx) (f:Value→Value→Sem Value) (r:R2):Prop :=
 ∀ (pins:List (Addr × Obj)) (s:Shared) (σ:St) (H:Hp) (x y:V) (v u:Value) (Q:VK),Inv X pins σ H s→RelV x v→RelV y u→r x y H Q →
  wpAny (model X.prog X.w) X.A (f v u) (EP X pins σ Q) X.xe s
noncomputable def UnR (X:Cx) (f:Value→Sem Value) (r:V→Hp→VK→Prop):Prop :=
 ∀ (pins:List (Addr × Obj)) (s:Shared) (σ:St) (H:Hp) (x:V) (v:Value) (Q:VK),Inv X pins σ H s→RelV x v→r x H Q →
  wpAny (model X.prog X.w) X.A (f v) (EP X pins σ Q) X.xe s
noncomputable def Zd9 (X:Cx) (f:Value) (r:List V→Hp→VK→Prop):Prop :=
 ∀ (pins:List (Addr × Obj)) (s:Shared) (σ:St) (H:Hp) (xs:List V) (us:List Value) (Q:VK),Inv X pins σ H s→Vals xs us→r xs H Q →
  wpAny (model X.prog X.w) X.A (call f us) (EP X pins σ Q) X.xe s
noncomputable def Ycf (X:Cx) (r:V→Hp→(Bool→Hp→Prop)→Prop):Prop :=
 ∀ (pins:List (Addr × Obj)) (s:Shared) (σ:St) (H:Hp) (x:V) (v:Value) (Q:Bool→Hp→Prop),Inv X pins σ H s→RelV x v→r x H Q →
  wpAny (model X.prog X.w) X.A (truthy v) (TP X pins σ Q) X.xe s
noncomputable def tOp (r:R2) (ta tb:TE):TE:=fun σ H Q=>ta σ H fun x H1=>tb σ H1 fun y H2=>r x y H2 Q
noncomputable def tUn (r:V→Hp→VK→Prop) (ta:TE):TE:=fun σ H Q=>ta σ H fun x H1=>r x H1 Q
noncomputable def rI (C:Int→Int→Prop) (g:Int→Int→V):R2:=fun x y H Q=>∃ i j,x = .int i∧y = .int j∧C i j∧Q (g i j) H
noncomputable def rI0 (g:Int→Int→V):R2:=fun x y H Q=>∃ i j,x = .int i∧y = .int j∧Q (g i j) H
noncomputable def rU (g:Int→V):V→Hp→VK→Prop:=fun x H Q=>∃ i,x = .int i∧Q (g i) H
section
variable {X:Cx} {a b c:Expr} {ta tb tc:TE} {pos:Pos}
theorem Z7t (ha:PE X a ta) (hb:PE X b tb) {pins:List (Addr × Obj)} {s:Shared} {σ:St} {H:Hp} {R:V→V→Hp→Prop} (I:Inv X pins σ H s)
  (h:ta σ H fun x H1=>tb σ H1 fun y H2=>R x y H2) {Q:Value→Shared→Prop} {f:Value→Value→Sem Value}
  (hf:∀ v u s2 x y H2,Inv X pins σ H2 s2→RelV x v→RelV y u→R x y H2→wpAny (model X.prog X.w) X.A (f v u) Q X.xe s2) :
  wpAny (model X.prog X.w) X.A (eval a X.env) (fun v s₁=>wpAny (model X.prog X.w) X.A (eval b X.env) (fun u s₂=>wpAny (model X.prog X.w) X.A (f v u) Q X.xe s₂) X.xe s₁) X.xe s:=by
 refine thn (ha pins s σ H _ I h) fun v s1 qz9=>?_
 obtain ⟨x,H1,I1,r1,q1⟩:=qz9
 refine thn (hb pins s1 σ H1 _ I1 q1) fun u s2 qz9=>?_
 obtain ⟨y,H2,I2,r2,q2⟩:=qz9
 exact hf v u s2 x y H2 I2 r1 r2 q2
theorem Zzw {op:Operator} {r:R2} (ho:OpR X (binaryOp op) r) (ha:PE X a ta) (hb:PE X b tb):PE X (.BinOp a op b pos) (tOp r ta tb):=by
 intro pins s σ H Q I h
 exact wpAny_BinOp (Z7t ha hb I h fun v u s2 x y H2 I2 rx ry q=>ho pins s2 σ H2 x y v u Q I2 rx ry q)
theorem Z7q {op:UnaryOp} {r:V→Hp→VK→Prop} (ho:UnR X (unaryOp op) r) (ha:PE X a ta):PE X (.UnaryOp op a pos) (tUn r ta):=by
 intro pins s σ H Q I h
 refine UnaryOp_ (thn (ha pins s σ H _ I h) fun v s1 qz9=>?_)
 obtain ⟨x,H1,I1,r1,q1⟩:=qz9
 exact ho pins s1 σ H1 x v Q I1 r1 q1
theorem opI {f:Value→Value→Sem Value} {C:Int→Int→Prop} {g:Int→Int→Int}
  (rule:∀ (i j:Int) (t u:Tok) (s:Shared) (Q:Value→Shared→Prop) (E:Value→Shared→Prop),C i j→Q (.int (g i j) s.toks) { s with toks:=s.toks + 1 }→wpAny (model X.prog X.w) X.A (f (.int i t) (.int j u)) Q E s) :
  OpR X f (rI C fun i j=>.int (g i j)):=by
 intro pins s σ H x y v u Q I rx ry h
 obtain ⟨i,j,rfl,rfl,hc,q⟩:=h
 obtain ⟨t,rfl⟩:=rx
 obtain ⟨t',rfl⟩:=ry
 exact rule i j t t' s _ _ hc ⟨.int (g i j),H,I.tok _,⟨_,rfl⟩,q⟩
theorem Ybt {f:Value→Value→Sem Value} {g:Int→Int→Int}
  (rule:∀ (i j:Int) (t u:Tok) (s:Shared) (Q:Value→Shared→Prop) (E:Value→Shared→Prop),Q (.int (g i j) s.toks) { s with toks:=s.toks + 1 }→wpAny (model X.prog X.w) X.A (f (.int i t) (.int j u)) Q E s) :
  OpR X f (rI0 fun i j=>.int (g i j)):=by
 intro pins s σ H x y v u Q I rx ry h
 obtain ⟨i,j,rfl,rfl,q⟩:=h
 obtain ⟨t,rfl⟩:=rx
 obtain ⟨t',rfl⟩:=ry
 exact rule i j t t' s _ _ ⟨.int (g i j),H,I.tok _,⟨_,rfl⟩,q⟩
theorem Z7c {f:Value→Value→Sem Value} {g:Int→Int→Bool}
  (rule:∀ (i j:Int) (t u:Tok) (s:Shared) (Q:Value→Shared→Prop) (E:Value→Shared→Prop),Q (.bool (g i j)) s→wpAny (model X.prog X.w) X.A (f (.int i t) (.int j u)) Q E s) :
  OpR X f (rI0 fun i j=>.bl (g i j)):=by
 intro pins s σ H x y v u Q I rx ry h
 obtain ⟨i,j,rfl,rfl,q⟩:=h
 obtain ⟨t,rfl⟩:=rx
 obtain ⟨t',rfl⟩:=ry
 exact rule i j t t' s _ _ ⟨.bl (g i j),H,I,rfl,q⟩
noncomputable def Z6r (i j:Int):Prop:=0 ≤ j∧j ≤ 1000000∧i.natAbs < 2 ^ 64
noncomputable def CMul (i j:Int):Prop:=(-(2 ^ 64) < i∧i < 2 ^ 64)∨(-(2 ^ 64) < j∧j < 2 ^ 64)
theorem CMul.ok {i j:Int} (h:CMul i j):IntMulOk i j:=by
 rcases h with ⟨h1,h2⟩ | ⟨h1,h2⟩
 ·exact .of_left (intBits_le_64 h1 h2)
 ·exact .of_right (intBits_le_64 h1 h2)
theorem Z5t:OpR X (binaryOp .Add) (rI0 fun i j=>.int (i + j)):=Ybt fun _ _ _ _ _ _ _ q=>add_int q
theorem Z40:OpR X (binaryOp .Sub) (rI0 fun i j=>.int (i - j)):=Ybt fun _ _ _ _ _ _ _ q=>sub_int q
theorem Zz4:OpR X (binaryOp .Mod) (rI (fun _ j=>j ≠ 0) fun i j=>.int (i.fmod j)):=opI fun _ _ _ _ _ _ _ hc q=>mod_int' hc q
theorem Z5r:OpR X (binaryOp .Pow) (rI Z6r fun i j=>.int (i ^ j.toNat)):=opI fun _ _ _ _ _ _ _ hc q=>pow_int_small hc.1 hc.2.1 hc.2.2 q
theorem unI {f:Value→Sem Value} {g:Int→Int}
  (rule:∀ (i:Int) (t:Tok) (s:Shared) (Q:Value→Shared→Prop) (E:Value→Shared→Prop),Q (.int (g i) s.toks) { s with toks:=s.toks + 1 }→wpAny (model X.prog X.w) X.A (f (.int i t)) Q E s) :
  UnR X f (rU fun i=>.int (g i)):=by
 intro pins s σ H x v Q I rx h
 obtain ⟨i,rfl,q⟩:=h
 obtain ⟨t,rfl⟩:=rx
 exact rule i t s _ _ ⟨.int (g i),H,I.tok _,⟨_,rfl⟩,q⟩
theorem Z3q:UnR X (unaryOp .USub) (rU fun i=>.int (-i)):=unI fun _ _ _ _ _ q=>neg_int q
end
section
variable {X:Cx} {a b c:Expr} {ta tb tc:TE} {pos:Pos}
theorem Z5h {pins:List (Addr × Obj)} {σ:St} {H:Hp} {s:Shared} {Q:VK} {k k':Bool} (I:Inv X pins σ H s) (q:Q (.bl k) H) (e:k = k'):EP X pins σ Q (.bool k') s:=by
 subst e
 exact ⟨.bl k,H,I,rfl,q⟩
theorem Zwd:OpR X (compareOp .Lt) (rI0 fun i j=>.bl (decide (i < j))):=Z7c fun _ _ _ _ _ _ _ q=>lt_int q
theorem Z8x:OpR X (compareOp .LtE) (rI0 fun i j=>.bl (decide (i ≤ j))):=Z7c fun _ _ _ _ _ _ _ q=>le_int q
theorem Z8i:OpR X (compareOp .Gt) (rI0 fun i j=>.bl (decide (j < i))):=Z7c fun _ _ _ _ _ _ _ q=>gt_int q
theorem Z3v:OpR X (compareOp .GtE) (rI0 fun i j=>.bl (decide (j ≤ i))):=Z7c fun _ _ _ _ _ _ _ q=>ge_int q
theorem Zsr:OpR X (compareOp .IsNot) (fun x y H Q=>y = .non∧Q (.bl (!decide (x = .non))) H):=by
 intro pins s σ H x y v u Q I rx ry h
 obtain ⟨rfl,q⟩:=h
 cases ry
 refine isnot_none_gen (Z5h I q ?_)
 cases x <;> first
  | (cases rx; rfl)
  | (obtain ⟨t,rfl⟩:=rx; rfl)
theorem Jw (b:Expr) {op:CmpOp} (h:op ≠ .In:=by decide) (h2:op ≠ .NotIn:=by decide):behindInMarks op b = false:=by
 have e1:(op == CmpOp.In) = false:=by cases op <;> first | rfl | exact absurd rfl h
 have e2:(op == CmpOp.NotIn) = false:=by cases op <;> first | rfl | exact absurd rfl h2
 cases b <;> simp [behindInMarks,e1,e2]
theorem Z1m {op:CmpOp} {r:R2} (ho:OpR X (compareOp op) r) (ha:PE X a ta) (hb:PE X b tb) (hm:behindInMarks op b = false):PE X (.Compare a [op] [b] pos) (tOp r ta tb):=by
 intro pins s σ H Q I h
 exact wpAny_Compare1 (Z7t ha hb I h fun v u s2 x y H2 I2 rx ry q=>ho pins s2 σ H2 x y v u Q I2 rx ry q) hm
noncomputable def Z52 (t:TE):TT:=fun σ H Q=>t σ H fun x H'=>∃ k,x = .bl k∧Q k H'
theorem Zzn {op:CmpOp} {r:R2} (ho:OpR X (compareOp op) r) (ha:PE X a ta) (hb:PE X b tb) (hm:behindInMarks op b = false):PT X (.Compare a [op] [b] pos) (Z52 (tOp r ta tb)):=by
 intro pins s σ H Q I h
 refine wpAny_isTrue_Compare1 (thn (ha pins s σ H _ I h) fun v s1 ⟨x,H1,I1,r1,q1⟩=>thn (hb pins s1 σ H1 _ I1 q1) fun u s2 ⟨y,H2,I2,r2,q2⟩ =>
  thn (ho pins s2 σ H2 x y v u _ I2 r1 r2 q2) fun c s3 ⟨z,H3,I3,r3,k,e,q3⟩=>?_) hm
 subst e
 cases r3
 exact wpAny_truthy_bool ⟨H3,I3,q3⟩
noncomputable def Z9n (K:PySem.W.Frag) (x:V) (H:Hp) (k:Bool):Prop :=
 match x with
 | .non=>k = false
 | .bl b=>k = b
 | .int i=>k = (i != 0)
 | .str y=>y.length ≤ sizeLine∧k = ((y.length:Int) != 0)
 | .byt y=>y.size ≤ sizeLine∧k = ((y.size:Int) != 0)
 | .ref p=>(∃ xs,SqL K H p xs∧k = !xs.isEmpty)∨(∃ xs,SqT K H p xs∧k = !xs.isEmpty)∨∃ kvs,H p = some (.dK kvs)∧k = !kvs.isEmpty
 | _=>False
theorem Zpc {κ:Type} {kvs:List (κ × V)} {vs:List (κ × Value)} (r:KV kvs vs):(!vs.isEmpty) = !kvs.isEmpty:=by
 cases r <;> rfl
theorem Ziz {xs:List V} {its:List Value} (r:Vals xs its):(!its.toArray.isEmpty) = !xs.isEmpty:=by
 cases r <;> simp
theorem Zie:(sizeLine:Nat) < 2 ^ 63:=by rw [sizeLine_eq]; decide
theorem Z3a:Ycf X (fun x H Q=>∃ k,Z9n X.K x H k∧Q k H):=by
 intro pins s σ H x v Q I rx h
 obtain ⟨k,e,q⟩:=h
 have hl:=Zie
 have hs:sizeLine = 16777216:=sizeLine_eq
 cases x with
 | non =>
  cases rx
  have e':k = false:=e
  subst e'
  exact truthy_none ⟨H,I,q⟩
 | bl b =>
  cases rx
  have e':k = b:=e
  subst e'
  exact wpAny_truthy_bool ⟨H,I,q⟩
 | int i =>
  obtain ⟨t,rfl⟩:=rx
  have e':k = (i != 0):=e
  subst e'
  exact PySem.P.truthy_int ⟨H,I,q⟩
 | str y =>
  obtain ⟨t,rfl⟩:=rx
  obtain ⟨hy,e'⟩:y.length ≤ sizeLine∧k = ((y.length:Int) != 0):=e
  subst e'
  exact PySem.P.truthy_str (by omega) ⟨H,I.tok _,q⟩
 | byt y =>
  obtain ⟨t,rfl⟩:=rx
  obtain ⟨hy,e'⟩:y.size ≤ sizeLine∧k = ((y.size:Int) != 0):=e
  subst e'
  exact PySem.W.truthy_bytes (by omega) ⟨H,I.tok _,q⟩
 | ref p =>
  cases rx
  have e':(∃ xs,SqL X.K H p xs∧k = !xs.isEmpty)∨(∃ xs,SqT X.K H p xs∧k = !xs.isEmpty)∨∃ kvs,H p = some (.dK kvs)∧k = !kvs.isEmpty:=e
  rcases e' with ⟨xs,hx,e'⟩ | ⟨xs,hx,e'⟩ | ⟨kvs,hx,e'⟩
  ·subst e'
   obtain ⟨its,r,pl,hz⟩:=I.list hx
   have hlen:=r.length
   exact wpAny_truthy_list pl.isList (by simp only [List.size_toArray]; omega) ⟨H,I.tok _,by rw [Ziz r]; exact q⟩
  ·subst e'
   obtain ⟨its,r,pl,hz⟩:=I.tuple hx
   have hlen:=r.length
   exact truthy_tuple pl (by simp only [List.size_toArray]; omega) ⟨H,I.tok _,by rw [Ziz r]; exact q⟩
  ·subst e'
   obtain ⟨hz,hS,vs,r,m⟩:kvs.length ≤ sizeLine∧(p == sysModules) = false∧∃ vs,KV kvs vs∧s.heap.DictOf (Zmf X.prog X.w) p vs:=I.hok p _ hx
   have hlen:kvs.length = vs.length:=Paired.length r
   exact wpAny_truthy_dict hS m (by omega) ⟨H,I.tok _,by rw [Zpc r]; exact q⟩
 | _=>exact (show False from e).elim
theorem Zvu (ha:PE X a ta) (he:∀ whole,isTrue a X.env whole = (do let v ← whole; standAt a.pos; holding [v] (truthy v))) :
  PT X a (fun σ H Q=>ta σ H fun x H'=>∃ k,Z9n X.K x H' k∧Q k H'):=by
 intro pins s σ H Q I h
 refine isTrue_plain (thn (ha pins s σ H _ I h) fun v s1 qz9=>?_) (he _)
 obtain ⟨x,H1,I1,r1,q1⟩:=qz9
 exact Z3a pins s1 σ H1 x v Q I1 r1 q1
theorem vals1 {x:V} {us:List Value} (r:Vals [x] us):∃ u,us = [u]∧RelV x u:=by
 cases r with
 | cons r1 r2=>cases r2; exact ⟨_,rfl,r1⟩
theorem vals2 {x y:V} {us:List Value} (r:Vals [x,y] us):∃ u w',us = [u,w']∧RelV x u∧RelV y w':=by
 cases r with
 | cons r1 r2 =>
  cases r2 with
  | cons r3 r4=>cases r4; exact ⟨_,_,rfl,r1,r3⟩
theorem Zjf:Zd9 X (.builtin "abs") (fun xs H Q=>∃ i,xs = [.int i]∧Q (.int (if i < 0 then -i else i)) H):=by
 intro pins s σ H xs us Q I r h
 obtain ⟨i,rfl,q⟩:=h
 obtain ⟨u,rfl,t,rfl⟩:=vals1 r
 exact call_abs_int fun u tk=>⟨.int (if i < 0 then -i else i),H,I.tok _,⟨_,rfl⟩,q⟩
theorem Zkt (hc:X.calm = true):Zd9 X (.builtin "min") (fun xs H Q=>∃ i j,xs = [.int i,.int j]∧Q (.int (if j < i then j else i)) H):=by
 intro pins s σ H xs us Q I r h
 obtain ⟨i,j,rfl,q⟩:=h
 obtain ⟨u,w',rfl,⟨t,rfl⟩,⟨t',rfl⟩⟩:=vals2 r
 refine min_two_ints (I.ok.hd hc) fun h' tk k=>⟨_,H,I.kept k,?_,q⟩
 by_cases hj:j < i
 ·rw [if_pos hj,if_pos hj]; exact ⟨_,rfl⟩
 ·rw [if_neg hj,if_neg hj]; exact ⟨_,rfl⟩
end
end L2
namespace L2
open PySem PySem.Spec PyProof.Rows
structure ObjM (h:Heap) (x dx C:Addr) (mA:Str→Option Value):Prop where
 obj:h.get? x = some (PySem.W.instObj C dx)
 ns:h.Ns1 dx mA
 ne:dx ≠ x
theorem Zt6 {h:Heap} {dx:Addr} {mA:Str→Option Value} (n:h.Ns1 dx mA):∃ od,h.get? dx = some od∧∀ name,PySem.W.lookIn name od = some (mA name):=by
 obtain ⟨o,es,ep,ho,hd,hk,_,hm⟩:=n
 refine ⟨o,ho,fun name=>?_⟩
 have e:=hm name
 unfold nsFind findBy at e
 rw [← Array.find?_toList] at e
 unfold PySem.W.lookIn
 rw [hd]
 dsimp only
 split
 ·rename_i y q
  rw [q] at e
  exact congrArg some e
 ·rename_i q
  rw [q] at e
  have a:es.toList.any (·.refKey) = false:=by
   rw [List.any_eq_false]
   intro y hy
   obtain ⟨z,t,hkey⟩:=hk y (Array.mem_toList_iff.mp hy)
   simp [DictEntry.refKey,hkey]
  have a':¬ es.toList.any (·.refKey) = true:=by rw [a]; exact Bool.false_ne_true
  rw [if_neg a']
  exact congrArg some e
theorem ObjM.look {h:Heap} {x dx C:Addr} {mA:Str→Option Value} (I:ObjM h x dx C mA):∃ od,PySem.W.InstAt h x (PySem.W.instObj C dx) C (some od)∧∀ name,PySem.W.lookIn name od = some (mA name) :=
 let ⟨od,ho,hl⟩:=Zt6 I.ns
 ⟨od,⟨I.obj,rfl,rfl,ho⟩,hl⟩
section
variable {prog:Program} {w:World} {A:Around} {E:Value→Shared→Prop} {s:Shared} {K:PySem.W.Frag} {x dx C f:Addr} {mA:Str→Option Value} {name:Str} {v:Value}
end
section
variable {P:Program} {w:World} {H H':Hp} {h h':Heap} {a C dx:Addr} {fs fs':List (Str × V)}
theorem Zzg (hok:HOk P w H h) (e:H a = some (.ins C dx fs)):∃ mA,ObjM h a dx C mA∧(∀ f,RelO (fs.lookup f) (mA f))∧PySem.Within mA (fs.map (·.1))∧fs.length ≤ 1000∧H dx = some (.own a):=by
 obtain ⟨d,z,ne,ob,mA,n,r,q⟩:=(show ObjOk P w H h a (.ins C dx fs) from hok a _ e)
 exact ⟨mA,⟨ob,n,ne⟩,r,q,z,d⟩
end
structure Cls (K:PySem.W.Frag) (C:Addr):Prop where
 pg:PySem.W.plainGet K C Str.empty = true
 hd:PySem.W.hasDictIn K C = true
 po:PySem.W.plainOver K C = true
 sa:PySem.W.findIn K (.ref C) "__setattr__" = some (some (.builtin "object.__setattr__"))
theorem Cls.get {K:PySem.W.Frag} {C:Addr} (c:Cls K C) (f:Str):PySem.W.plainGet K C f = true:=c.pg
structure Con (K:PySem.W.Frag) (C:Addr) (f:Str) (v:V) (u:Value):Prop where
 at_:PySem.W.findIn K (.ref C) f = some (some u)
 rel:RelV v u
 get:PySem.W.specialIn K u "__get__" = some none
 cp:PySem.W.copiedNames.contains f = false
structure Meth (K:PySem.W.Frag) (C:Addr) (m:Str) (f:Addr):Prop where
 at_:PySem.W.findIn K (.ref C) m = some (some (.ref f))
 fn:PySem.W.isFn K (.ref f) = true
 kp:PySem.W.keepIn K (.ref f) = true
section
variable {X:Cx} {pins:List (Addr × Obj)} {σ:St} {H:Hp} {s:Shared} {a C dx:Addr} {fs:List (Str × V)} {f:Str} {v:V} {A:Around} {E:Value→Shared→Prop}
end
section
variable {X:Cx} {o e value:Expr} {f:Str} {pos pos' tpos:Pos} {ta tv:TE}
end
section
variable {X:Cx} {pins:List (Addr × Obj)} {σ:St} {H:Hp} {s:Shared} {A:Around} {E:Value→Shared→Prop} {Q:Value→Shared→Prop} {c:Value} {b:Bool}
inductive Zqf (K:PySem.W.Frag) (H:Hp):V→Value→Prop where
 | non:Zqf K H .non (.type "NoneType")
 | bl (x:Bool):Zqf K H (.bl x) (.type "bool")
 | int (i:Int):Zqf K H (.int i) (.type "int")
 | str (x:Str):Zqf K H (.str x) (.type "str")
 | flt (x:UInt64):Zqf K H (.flt x) (.type "float")
 | lst {a:Addr} {xs:List V} (e:H a = some (.lst xs)):Zqf K H (.ref a) (.type "list")
 | frz {a:Addr} {o:Obj} {xs:List V} (e:H a = some (.frz o (.lst xs))):Zqf K H (.ref a) (.type "list")
 | tup {a:Addr} {xs:List V} (e:H a = some (.tup xs)):Zqf K H (.ref a) (.type "tuple")
 | dK {a:Addr} {kvs:List (Key × V)} (e:H a = some (.dK kvs)):Zqf K H (.ref a) (.type "dict")
 | dT {a:Addr} {kvs:List (List Key × V)} (e:H a = some (.dT kvs)):Zqf K H (.ref a) (.type "dict")
 | ins {a C dx:Addr} {fs:List (Str × V)} (e:H a = some (.ins C dx fs)) (cl:Cls K C) (ha:PySem.W.findIn K (.ref C) "__class__" = some (some (.builtin "object.__class__")))
   (hn:PySem.W.specialIn K (.builtin "object.__class__") "__get__" = some (some (.builtin "getset_descriptor.__get__"))) (htk:PySem.W.takesIn K (.builtin "object.__class__") = some true)
   (hm:PySem.W.mroIn K C (.type "object") = some true):Zqf K H (.ref a) (.ref C)
theorem Zas {x:V} {u t:Value} (I:Inv X pins σ H s) (rx:RelV x u) (ty:Zqf X.K H x t) (e:PySem.W.kitOne X.K t c = some b) (h:∀ tk,Q (.bool b) { s with toks:=tk }) :
  wpAny (model X.prog X.w) A (call (.builtin "isinstance") [u,c]) Q E s:=by
 cases ty with
 | non=>cases (show u = Value.none from rx); exact PySem.W.kia_one PySem.W.kitx_none I.kIn True.intro e (fun z=>nomatch z) h
 | bl y=>cases (show u = Value.bool y from rx); exact PySem.W.kia_one PySem.W.kitx_bool I.kIn True.intro e (fun z=>nomatch z) h
 | int i=>obtain ⟨t,q⟩:=(show ∃ t,u = Value.int i t from rx); cases q; exact PySem.W.kia_one PySem.W.kitx_int I.kIn True.intro e (fun z=>nomatch z) h
 | str y=>obtain ⟨t,q⟩:=(show ∃ t,u = Value.str y t from rx); cases q; exact PySem.W.kia_one PySem.W.kitx_str I.kIn True.intro e (fun z=>nomatch z) h
 | flt y=>obtain ⟨t,q⟩:=(show ∃ t,u = Value.float y t from rx); cases q; exact PySem.W.kia_one PySem.W.kitx_float I.kIn True.intro e (fun z=>nomatch z) h
 | @lst a xs ea =>
  cases (show u = Value.ref a from rx)
  obtain ⟨_,_,n,_,h1⟩:=(show ObjOk X.prog X.w H s.heap a (.lst xs) from I.hok a _ ea)
  exact PySem.W.kia_one PySem.W.kitx_list I.kIn ⟨_,h1,rfl⟩ e (fun z=>nomatch z) h
 | @frz a ob xs ea =>
  cases (show u = Value.ref a from rx)
  obtain ⟨_,_,_,n,_,h1⟩:=(show ObjOk X.prog X.w H s.heap a (.frz ob (.lst xs)) from I.hok a _ ea)
  exact PySem.W.kia_one PySem.W.kitx_list I.kIn ⟨_,h1,rfl⟩ e (fun z=>nomatch z) h
 | @tup a xs ea =>
  cases (show u = Value.ref a from rx)
  obtain ⟨_,_,_,p⟩:=(show ObjOk X.prog X.w H s.heap a (.tup xs) from I.hok a _ ea)
  obtain ⟨o,h1,h2,_⟩:=p
  exact PySem.W.kia_one PySem.W.kitx_tuple I.kIn ⟨o,h1,h2⟩ e (fun z=>nomatch z) h
 | @dK a kvs ea =>
  cases (show u = Value.ref a from rx)
  obtain ⟨_,_,vs,_,p⟩:=(show ObjOk X.prog X.w H s.heap a (.dK kvs) from I.hok a _ ea)
  obtain ⟨o,es,ep,h1,h2,_⟩:=p
  exact PySem.W.kia_one PySem.W.kitx_dict I.kIn ⟨o,h1,h2.1⟩ e (fun z=>nomatch z) h
 | @dT a kvs ea =>
  cases (show u = Value.ref a from rx)
  obtain ⟨_,_,xs,_,o,es,ep,h1,h2,_⟩:=(show ObjOk X.prog X.w H s.heap a (.dT kvs) from I.hok a _ ea)
  exact PySem.W.kia_one PySem.W.kitx_dict I.kIn ⟨o,h1,h2.1⟩ e (fun z=>nomatch z) h
 | @ins a C dx fs ea cl ha hn htk hm =>
  cases (show u = Value.ref a from rx)
  obtain ⟨mA,O,_⟩:=Zzg I.hok ea
  obtain ⟨od,J,_⟩:=O.look
  exact PySem.W.kia_one (PySem.W.kitx_own (cl.get _) cl.hd ha hn htk hm) I.kIn J e (fun z=>nomatch z) h
end
end L2
namespace L2
open PySem PySem.Spec PyProof.Rows
structure Room (k:Nat) (A:Around):Prop where
 hd:A.handled = none
 dp:A.depth + 3 * k + 5 < recursionLimit
 un:A.units + 16 * k + 200 < cLine
theorem Room.mono {j k:Nat} {A:Around} (r:Room k A) (h:j ≤ k):Room j A:=⟨r.hd,by have:=r.dp; omega,by have:=r.un; omega⟩
theorem Room.deeper {k:Nat} {A:Around} (r:Room (k + 1) A) (env:Env):Room k (A.deeper env) :=
 ⟨r.hd,by have:=r.dp; show A.depth + 1 + 3 * k + 5 < _; omega,by have:=r.un; show A.units + 3 + 16 * k + 200 < _; omega⟩
theorem Room.depth {k:Nat} {A:Around} (r:Room k A):A.depth < recursionLimit:=by have:=r.dp; omega
theorem Room.units {k:Nat} {A:Around} (r:Room k A):A.units + 64 < cLine:=by have:=r.un; omega
noncomputable def Ych:TA:=fun _ H Q=>Q [] H
noncomputable def Z9q (ta:TE) (tr:TA):TA:=fun σ H Q=>ta σ H fun x H1=>tr σ H1 fun xs H2=>Q (x :: xs) H2
section
variable {X:Cx} {e:Expr} {es:List Expr} {te:TE} {t:TA} {pos:Pos}
theorem Zgu:PA X [] Ych:=fun _ _ _ _ H Q I h=>Calls.spliced_nil ⟨[],H,I,.nil,h⟩
theorem Zc7 (ha:PE X e te) (hr:PA X es t) (hs:starEach (e :: es) X.env = (false,eval e X.env) :: starEach es X.env:=by rfl):PA X (e :: es) (Z9q te t):=by
 intro pos pins s σ H Q I h
 rw [hs]
 show wpAny _ _ (spliced ((false,eval e X.env) :: backTo pos (starEach es X.env))) _ _ s
 refine Calls.spliced_cons (thn (ha pins s σ H _ I h) fun u s1 qz9=>?_)
 obtain ⟨x,H1,I1,r1,q1⟩:=qz9
 refine thn (hr pos pins s1 σ H1 _ I1 q1) fun us s2 qz9=>?_
 obtain ⟨xs,H2,I2,r2,q2⟩:=qz9
 exact ⟨x :: xs,H2,I2,.cons r1 r2,q2⟩
noncomputable def Ycs (t:TA):TE:=fun σ H Q=>t σ H fun xs H1=>xs.length ≤ sizeLine∧∀ p,H1 p = none→Q (.ref p) (upd H1 p (.tup xs))
noncomputable def Ydv (t:TA):TE:=fun σ H Q=>t σ H fun xs H1=>xs.length ≤ sizeLine∧∀ p,H1 p = none→Q (.ref p) (upd H1 p (.lst xs))
theorem Z3l {x1} (h:PA X es t):PE X (.Tuple es x1 pos) (Ycs t):=by
 intro pins s σ H Q I hq
 refine wpAny_Tuple_spliced (thn (h pos pins s σ H _ I hq) fun us s1 ⟨xs,H1,I1,r,z,q⟩=>⟨by rw [← r.length]; exact z,?_⟩)
 have hf:H1 s1.heap.objs.size = none:=I1.hok.fresh (Nat.le_refl _)
 refine ⟨.ref s1.heap.objs.size,upd H1 s1.heap.objs.size (.tup xs),I1.laid (t':=s1.toks) (fun b u e=>Heap.get?_push_of_some _ e) (Nat.le_refl _) ?_,rfl,q _ hf⟩
 exact ⟨z,us,r,⟨_,Heap.get?_push_size _ rfl,rfl,_,rfl⟩⟩
theorem Zxi (h:PA X es t):PE X (.List es pos) (Ydv t):=by
 intro pins s σ H Q I hq
 refine wpAny_List_spliced (thn (h pos pins s σ H _ I hq) fun us s1 ⟨xs,H1,I1,r,z,q⟩=>⟨by rw [← r.length]; exact z,?_⟩)
 have hf:H1 s1.heap.objs.size = none:=I1.hok.fresh (Nat.le_refl _)
 refine ⟨.ref s1.heap.objs.size,upd H1 s1.heap.objs.size (.lst xs),I1.laid (t':=s1.toks) (fun b u e=>Heap.get?_push_of_some _ e) (Nat.le_refl _) ?_,rfl,q _ hf⟩
 exact ⟨z,us,0,r,Heap.get?_push_size _ rfl⟩
end
noncomputable abbrev Sp:=List V→Hp→VK→XK→Prop
noncomputable abbrev CXT:=List Env→Hp→Shared→XK→Value→Shared→Prop
structure Z60 (P:Program) (w:World) (K:PySem.W.Frag) (mg:Str→Option Value) (base:Heap) (A:Around) (outer:List Env) (s:Shared) (H:Hp):Prop where
 frames:A.frames = some outer
 mod:Mod K mg base
 bs:∀ b o,base.get? b = some o→s.heap.get? b = some o∧H b = none
 bsz:base.objs.size ≤ s.heap.objs.size
 funs:s.heap.FunFrames base outer
 frf:∀ b ∈ frs outer,H b = none
 hok:HOk P w H s.heap
 bare:AllBare s.gens
noncomputable def CE (outer:List Env) (P:Program) (w:World) (H:Hp) (s:Shared) (Q:VK) (u:Value) (s':Shared):Prop :=
 ∃ v H',s'.os = s.os∧AllBare s'.gens∧Un (frs outer) [] H H' s.heap s'.heap∧HOk P w H' s'.heap∧RelV v u∧Q v H'
noncomputable def CR (CX:CXT) (outer:List Env) (P:Program) (w:World) (H:Hp) (s:Shared) (Q:VK) (E:XK) (r:Result) (s':Shared):Prop :=
 match r with
 | .ok (.ret u)=>CE outer P w H s Q u s'
 | .ok _=>False
 | .error e=>CX outer H s E e s'
structure FnOk (P:Program) (w:World) (K:PySem.W.Frag) (mg:Str→Option Value) (base:Heap) (CX:CXT) (k:Nat) (f:Addr) (fd:FuncData) (ps:List Str) (sp:Sp):Prop where
 len:∀ vs H Q E,sp vs H Q E→vs.length = ps.length
 run:∀ (A:Around) (outer:List Env) (s:Shared) (H:Hp) (args:Args) (us:List Value) (vs:List V) (Q:VK) (E:XK),Room k A→Z60 P w K mg base A outer s H→BindsTo s fd args (ps.zip us)→Vals vs us→sp vs H Q E →
  codeAny (model P w) A (.call (.ref f) args) (CR CX outer P w H s Q E) s
theorem FnOk.imp {P:Program} {w:World} {K:PySem.W.Frag} {mg:Str→Option Value} {base:Heap} {CX:CXT} {k:Nat} {f:Addr} {fd:FuncData} {ps:List Str} {sp sp':Sp} (F:FnOk P w K mg base CX k f fd ps sp)
  (h:∀ vs H Q E,sp' vs H Q E→sp vs H Q E):FnOk P w K mg base CX k f fd ps sp' :=
 ⟨fun vs H Q E q=>F.len vs H Q E (h _ _ _ _ q),fun A outer s H args us vs Q E hr he hb hv hs=>F.run A outer s H args us vs Q E hr he hb hv (h _ _ _ _ hs)⟩
section
variable {X:Cx} {pins:List (Addr × Obj)} {σ:St} {H:Hp} {s s':Shared}
theorem Inv.env0 (I:Inv X pins σ H s):Z60 X.prog X.w X.K X.mg X.base X.A X.stack s H :=
 ⟨I.ok.frames,I.ok.mod,I.bs,Nat.le_trans I.ok.bsz I.sz,I.stack,I.stkFree,I.hok,I.bare⟩
theorem Inv.after {Q:VK} {u:Value} (I:Inv X pins σ H s) (h:CE X.stack X.prog X.w H s Q u s'):EP X pins σ Q u s':=by
 obtain ⟨v,H',os,bare,un,hok,r,q⟩:=h
 obtain ⟨hh,g,d,t,os'⟩:=s'
 obtain rfl:os' = s.os:=os
 exact ⟨v,H',I.call (h':=hh) (g':=g) (d':=d) (t':=t) (ch:=[]) un hok bare (fun b z=>absurd z (by simp)),r,q⟩
end
noncomputable def Zz9 (sp:Sp) (dvs:List V) (E:XK) (t:TA):TE:=fun σ H Q=>t σ H fun vs H1=>sp (vs ++ dvs) H1 Q E
noncomputable def Binds (K:PySem.W.Frag) (fd:FuncData) (ps:List Str) (ds:List Value):Prop :=
 ∀ (s:Shared) (us:List Value),K.In s.heap→(us ++ ds).length = ps.length→BindsTo s fd ⟨us,[]⟩ (ps.zip (us ++ ds))
theorem Binds.all {K:PySem.W.Frag} {fd:FuncData} {ps:List Str} (h:∀ us:List Value,us.length = ps.length→bindArgs fd ⟨us,[]⟩ = pure (ps.zip us)):Binds K fd ps []:=fun s us _ hl=>by
 rw [List.append_nil] at hl ⊢
 exact .of_eq (h us hl)
noncomputable def Ziw (CX:CXT) (X:Cx) (E:XK):Prop:=∀ (pins:List (Addr × Obj)) (σ:St) (H:Hp) (s:Shared) (e:Value) (s':Shared),Inv X pins σ H s→CX X.stack H s E e s'→X.xe e s'
section
variable {X:Cx} {CX:CXT} {k:Nat} {f C:Addr} {fd:FuncData} {ps:List Str} {sp:Sp} {dvs:List V} {ds:List Value} {E:XK} {x m:Str} {p pos apos:Pos} {e o:Expr} {es:List Expr} {ta:TE} {t:TA}
theorem Zyb {pins:List (Addr × Obj)} {σ:St} {H:Hp} {s:Shared} {Q:VK} {us:List Value} {vs:List V} (F:FnOk X.prog X.w X.K X.mg X.base CX k f fd ps sp) (hr:Room k X.A) (hb:Binds X.K fd ps ds) (hd:Vals dvs ds) (hx:Ziw CX X E)
  (I:Inv X pins σ H s) (r:Vals vs us) (h:sp (vs ++ dvs) H Q E):wpAny (model X.prog X.w) X.A (call (.ref f) us) (EP X pins σ Q) X.xe s:=by
 have r2:Vals (vs ++ dvs) (us ++ ds):=r.append hd
 have hl:(us ++ ds).length = ps.length:=by rw [← r2.length]; exact F.len _ _ _ _ h
 refine wpAny_call (codeAny_mono (F.run X.A X.stack s H ⟨us,[]⟩ (us ++ ds) (vs ++ dvs) Q E hr I.env0 (hb s us I.kIn hl) r2 h) fun r s' hq=>?_)
 cases r with
 | error e=>exact hx pins σ H s e s' I hq
 | ok fl =>
  cases fl with
  | ret u=>exact I.after hq
  | next=>exact False.elim hq
  | brk=>exact False.elim hq
  | cont=>exact False.elim hq
theorem Zze (F:FnOk X.prog X.w X.K X.mg X.base CX k f fd ps sp) (hr:Room k X.A) (hg:Gl X x) (hm:X.mg x = some (.ref f)) (hk:PySem.W.keepIn X.K (.ref f) = true) (hb:Binds X.K fd ps ds) (hd:Vals dvs ds) (hx:Ziw CX X E)
  (ha:PA X (e :: es) t) (hdb:(x == ("__debug__" : Str)) = false:=by decide) (he:starEach (e :: es) X.env = (false,eval e X.env) :: starEach es X.env:=by rfl) (hpl:(backTo pos (starEach es X.env)).any (·.1) = false:=by rfl) :
  PE X (.Call (.Name x p) (e :: es) [] pos) (Zz9 sp dvs E t):=by
 intro pins s σ H Q I h
 refine wpAny_Call_Name_kw (Zt2 I hg hm ?_ hdb)
 refine PySem.W.callWith_K (h₀:=X.base) I.ok.mod.kin hk (thn (ha pos pins s σ H _ I h) fun us s1 qz9=>?_) he hpl
 obtain ⟨vs,H1,I1,r,q⟩:=qz9
 refine ⟨I1.kIn,?_⟩
 exact Zyb F hr hb hd hx I1 r q
structure Mk (K:PySem.W.Frag) (C f:Addr):Prop where
 makes:PySem.W.makesIn K C = true
 init:PySem.W.findIn K (.ref C) "__init__" = some (some (.ref f))
 fn:PySem.W.isFn K (.ref f) = true
 kp:PySem.W.keepIn K (.ref C) = true
end
section
variable {X:Cx} {CX:CXT} {k:Nat} {f C:Addr} {fd:FuncData} {ps ks:List Str} {sp:Sp} {E:XK} {x m:Str} {p pos apos kpos:Pos} {e o:Expr} {es:List Expr} {kws:List Keyword} {te ta:TE} {t tk:TA} {nm:Option Str}
structure Ya6 (K:PySem.W.Frag) (fd:FuncData) (ps ks:List Str) (g:List Value→List Value→List Value) (gV:List V→List V→List V):Prop where
 to:∀ (s:Shared) (us ws:List Value),K.In s.heap→(g us ws).length = ps.length→BindsTo s fd ⟨us,ks.zip ws⟩ (ps.zip (g us ws))
 rel:∀ {vs:List V} {us:List Value} {zs:List V} {ws:List Value},Vals vs us→Vals zs ws→Vals (gV vs zs) (g us ws)
variable {g:List Value→List Value→List Value} {gV:List V→List V→List V}
end
structure Zq (N P:List Str) (sc:Scope):Prop where
 kind:sc.kind = .function
 co:sc.isCoroutine = false
 gen:sc.isGenerator = false
 nd:N.Nodup
 pre:N.take P.length = P
 par:∀ x ∈ P,sc.names.lookup x = some .local∨sc.names.lookup x = some .cell
 nofree:∀ y ∈ sc.names,y.2 ≠ .free
theorem Zko {kindOf:Str→Option NameKind} {x:Str}:∀ {binds:List (Str × Value)} {m:Str→Option Value},(∀ v,(x,v) ∉ binds)→bindL kindOf binds m x = m x
 | [],_,_=>rfl
 | (n,v) :: r,m,h=>by
  unfold bindL
  rw [Zko fun w hw=>h w (List.mem_cons_of_mem _ hw)]
  split
  ·have:x ≠ n:=by rintro rfl; exact h v List.mem_cons_self
   simp [this]
  ·rfl
theorem Zle {kindOf:Str→Option NameKind} {x:Str}:∀ {binds:List (Str × Value)} {m:Str→Option Value},(∀ v,(x,v) ∉ binds)→bindC kindOf binds m x = m x
 | [],_,_=>rfl
 | (n,v) :: r,m,h=>by
  unfold bindC
  rw [Zle fun w hw=>h w (List.mem_cons_of_mem _ hw)]
  split
  ·rfl
  ·have:x ≠ n:=by rintro rfl; exact h v List.mem_cons_self
   simp [this]
theorem Zlq {kindOf:Str→Option NameKind} {x:Str} {v:Value}:∀ {P:List Str} {vs:List Value} {i:Nat} {m:Str→Option Value},P.Nodup→P[i]? = some x→vs[i]? = some v→kindOf x = some .local →
  bindL kindOf (P.zip vs) m x = some v
 | [],_,_,_,_,h,_,_=>by simp at h
 | _ :: _,[],_,_,_,_,h,_=>by simp at h
 | p :: P,w :: vs,0,m,nd,h1,h2,hk=>by
  simp at h1 h2; subst h1; subst h2
  show bindL kindOf ((p,w) :: P.zip vs) m p = _
  unfold bindL
  rw [Zko fun v hv=>(List.nodup_cons.mp nd).1 (List.of_mem_zip hv).1,if_pos hk]
  simp
 | p :: P,w :: vs,i + 1,m,nd,h1,h2,hk=>by
  show bindL kindOf ((p,w) :: P.zip vs) m x = _
  unfold bindL
  exact Zlq (i:=i) (List.nodup_cons.mp nd).2 (by simpa using h1) (by simpa using h2) hk
theorem Zk3 {kindOf:Str→Option NameKind} {x:Str} {v:Value}:∀ {P:List Str} {vs:List Value} {i:Nat} {m:Str→Option Value},P.Nodup→P[i]? = some x→vs[i]? = some v→kindOf x ≠ some .local →
  bindC kindOf (P.zip vs) m x = some v
 | [],_,_,_,_,h,_,_=>by simp at h
 | _ :: _,[],_,_,_,_,h,_=>by simp at h
 | p :: P,w :: vs,0,m,nd,h1,h2,hk=>by
  simp at h1 h2; subst h1; subst h2
  show bindC kindOf ((p,w) :: P.zip vs) m p = _
  unfold bindC
  rw [Zle fun v hv=>(List.nodup_cons.mp nd).1 (List.of_mem_zip hv).1,if_neg hk]
  simp
 | p :: P,w :: vs,i + 1,m,nd,h1,h2,hk=>by
  show bindC kindOf ((p,w) :: P.zip vs) m x = _
  unfold bindC
  exact Zk3 (i:=i) (List.nodup_cons.mp nd).2 (by simpa using h1) (by simpa using h2) hk
noncomputable def start (N:List Str) (vs:List V):St:=vs.map some ++ List.replicate (N.length - vs.length) none
noncomputable def Zya (CX:CXT) (P:Program) (w:World) (K:PySem.W.Frag) (mg:Str→Option Value) (base:Heap) (N:List Str) (qual:Str) (scope:Scope) (f:Addr) (cd:Value) (A:Around) (outer:List Env) (s:Shared) (H:Hp) (E:XK):Cx where
 prog:=P
 w:=w
 K:=K
 mg:=mg
 base:=base
 A:=A.deeper (envOfC qual scope s.heap.objs.size f cd)
 N:=N
 s₀:=s
 H₀:=H
 env:=envOfC qual scope s.heap.objs.size f cd
 outer:=outer
 stack:=envOfC qual scope s.heap.objs.size f cd :: outer
 ex:=[]
 calm:=true
 fn:=fun _=>true
 pn:=[]
 xe:=fun e s'=>wpAny (model P w) (A.deeper (envOfC qual scope s.heap.objs.size f cd)) (leaving (envOfC qual scope s.heap.objs.size f cd) e) (fun _ s''=>CX outer H s E e s'') (fun e' s''=>CX outer H s E e' s'') s'
theorem Zod {sc:Scope} {n:Nat} {x:Str} (h:sc.names.lookup x = some .cell):∃ c,(cellsFrom n sc.names []).lookup x = some c:=by
 have q:=PySem.W.cellsFrom_some sc.names n [] (.inl h)
 exact Option.isSome_iff_exists.mp q
theorem Zsv {CX:CXT} {P:Program} {w:World} {K:PySem.W.Frag} {mg:Str→Option Value} {base:Heap} {N ps:List Str} {qual:Str} {scope:Scope} {f:Addr} {cd:Value} {A:Around} {outer:List Env} {s s1:Shared} {H:Hp} {E:XK} {us:List Value} {vs:List V}
  (S:Zq N ps scope) (hd:A.handled = none) (e0:Z60 P w K mg base A outer s H) (hl:vs.length = ps.length) (r:Vals vs us)
  (x:InCallC s s.heap.objs.size (bindL (envOfC qual scope s.heap.objs.size f cd).kindOf (ps.zip us) fun _=>none) (cellsFrom (s.heap.objs.size + 1) scope.names []) (bindC (envOfC qual scope s.heap.objs.size f cd).kindOf (ps.zip us) fun _=>none) s1) :
  Inv (Zya CX P w K mg base N qual scope f cd A outer s H E) [] (start N vs) H s1:=by
 have hpl:ps.length ≤ N.length:=by have:=congrArg List.length S.pre; rw [List.length_take] at this; omega
 obtain ⟨h1,tk,rfl,hk⟩:=x.done
 have noA:∀ b:Addr,b ∉ (Zya CX P w K mg base N qual scope f cd A outer s H E).ex:=fun b z=>absurd (show b ∈ ([]:List Addr) from z) (by simp)
 refine ⟨⟨e0.mod,S.kind,rfl,rfl,Nat.le_refl _,fun y z c h1 h2=>?_,fun y hy=>?_,fun y c _ h=>?_,fun _=>hd,Around.frames_deeper e0.frames,.inr ⟨rfl,rfl⟩,fun b z=>absurd z (noA b),e0.bs,e0.bsz,fun b _ _=>noA b,fun b z=>absurd z (noA b),e0.funs,e0.frf⟩,
  rfl,e0.bare,Un.kept hk,⟨_,x.toInCall.ns,fun i y v h1 h2 h3=>?_⟩,fun y c h=>⟨_,x.cell y c h⟩,e0.hok.fresh (Nat.le_refl _),fun y c h=>?_,fun p hp=>absurd (show p ∈ ([]:List (Addr × Obj)) from hp) (by simp),e0.hok.kept hk,?_⟩
 ·exact name_of_addr x.apart (PySem.mem_of_lookup h1) (PySem.mem_of_lookup h2)
 ·have hy:scope.names.lookup y = some .cell∨scope.names.lookup y = some .free:=hy
  rcases hy with hy | hy
  ·exact Zod hy
  ·exact absurd rfl (S.nofree _ (PySem.mem_of_lookup hy))
 ·exact Nat.le_of_lt (x.above y c (PySem.mem_of_lookup h))
 ·have hi:i < vs.length:=by
   unfold start at h2
   by_cases hi:i < vs.length
   ·exact hi
   ·rw [List.getElem?_append_right (by simpa using hi)] at h2
    rw [List.getElem?_replicate] at h2
    split at h2 <;> cases h2
  have ha:vs[i]? = some v:=by
   unfold start at h2
   rw [List.getElem?_append_left (by simpa using hi),List.getElem?_map] at h2
   cases e:vs[i]? with
   | none=>rw [e] at h2; cases h2
   | some a=>rw [e] at h2; cases h2; rfl
  obtain ⟨u,hu,rv⟩:=r.get ha
  have hp:ps[i]? = some y:=by
   rw [← S.pre,List.getElem?_take_of_lt (by omega)]; exact h1
  have ndP:ps.Nodup:=by rw [← S.pre]; exact S.nd.sublist (List.take_sublist _ _)
  refine ⟨u,rv,?_⟩
  rcases S.par y (List.mem_of_getElem? hp) with k | k
  ·exact .inl ⟨k,Zlq ndP hp hu k⟩
  ·obtain ⟨c,e⟩:=Zod (n:=s.heap.objs.size + 1) k
   refine .inr ⟨.inl k,c,e,?_⟩
   have q:=x.cell y c e
   rw [Zk3 ndP hp hu (by show scope.names.lookup y ≠ _; rw [k]; decide)] at q
   exact q
 ·exact e0.hok.fresh (Nat.le_of_lt (x.above y c (PySem.mem_of_lookup h)))
 ·unfold start
  show _ = N.length
  rw [List.length_append,List.length_map,List.length_replicate]
  omega
theorem Z7x {CX:CXT} {P:Program} {w:World} {K:PySem.W.Frag} {mg:Str→Option Value} {base:Heap} {k:Nat} {f:Addr} {name qual:Str} {params:Arguments} {body:List Stmt} {scope:Scope} {dV kV doc pm cdv ct oc:Value} {an od:Option Addr}
  {osl:Array (Option Value)} {N ps:List Str} {sp:Sp} (lk:K.lookup f = some ⟨oc,od,.func (PySem.W.fnOf name qual params body scope dV kV doc pm an cdv ct),osl⟩) (hcd:PySem.W.codeIn K cdv qual = true) (S:Zq N ps scope)
  (len:∀ vs H Q E,sp vs H Q E→vs.length = ps.length)
  (hbody:∀ (A:Around) (outer:List Env) (s:Shared) (H:Hp) (vs:List V) (Q:VK) (E:XK),Room k (A.deeper (envOfC qual scope s.heap.objs.size f cdv))→sp vs H Q E →
   ∃ t,PSs (Zya CX P w K mg base N qual scope f cdv A outer s H E) body t∧t { nx:=fun _ H'=>Q .non H',rt:=Q } (start N vs) H) :
  FnOk P w K mg base CX (k + 1) f (PySem.W.fnOf name qual params body scope dV kV doc pm an cdv ct) ps sp:=by
 refine ⟨len,fun A outer s H args us vs Q E hr e0 hb r hsp=>?_⟩
 have hl:=len _ _ _ _ hsp
 have KX:K.In s.heap:=e0.mod.kin.keeps fun b o e=>(e0.bs b o e).1
 have lim:s.heap.NoLimit:=e0.mod.nolimit.keeps fun b o e=>(e0.bs b o e).1
 have hkind:∀ y ∈ ps.zip us,scope.names.lookup y.1 = some .local∨(scope.names.lookup y.1 = some .cell∧((cellsFrom (s.heap.objs.size + 1) scope.names []).lookup y.1).isSome = true):=fun ⟨n,v⟩ hy=>by
  rcases S.par n (List.of_mem_zip hy).1 with q | q
  ·exact .inl q
  ·exact .inr ⟨q,PySem.W.cellsFrom_some _ _ _ (.inl q)⟩
 refine codeAny_call_function hr.depth (KX _ _ lk) rfl S.co S.gen rfl (PySem.W.codeRec_of KX hcd) (hb _ _ _ _ ?_)
 refine wpAny_newFunctionEnv_cells S.kind hkind fun env he s1 x=>?_
 subst he
 refine ⟨lim.keeps x.toInCall.keep,codeAny_func ?_⟩
 obtain ⟨t,ht,hq⟩:=hbody A outer s H vs Q E (hr.deeper _) hsp
 have I:Inv (Zya CX P w K mg base N qual scope f cdv A outer s H E) [] (start N vs) H s1:=Zsv S hr.hd e0 hl r x
 refine wpAny_mono (ht [] s1 (start N vs) H _ I hq) (fun fl s' hs=>?_) fun e s' hs=>hs
 have fin:∀ {σ':St} {H':Hp} {v:V} {u:Value},Inv (Zya CX P w K mg base N qual scope f cdv A outer s H E) [] σ' H' s'→RelV v u→Q v H'→CE outer P w H s Q u s' :=
  fun {σ' H' v u} J rv q=>⟨v,H',J.os,J.bare,J.base,J.hok,rv,q⟩
 cases fl with
 | ret u =>
  obtain ⟨v,σ',H',J,rv,q⟩:=hs
  exact fin J rv q
 | next =>
  obtain ⟨σ',H',J,q⟩:=hs
  exact fin (v:=V.non) (u:=Value.none) J rfl q
 | brk =>
  obtain ⟨_,_,_,q⟩:=hs
  exact False.elim q
 | cont =>
  obtain ⟨_,_,_,q⟩:=hs
  exact False.elim q
end L2
namespace L2
open PySem PySem.Spec PyProof.Rows
section
variable {X:Cx} {x:Str} {p pos:Pos} {e:Expr} {es:List Expr} {t:TA} {id T:String} {r:List V→Hp→VK→Prop}
noncomputable def tCB (r:List V→Hp→VK→Prop) (t:TA):TE:=fun σ H Q=>t σ H fun vs H1=>r vs H1 Q
theorem Zjo (hc:Zd9 X (.builtin id) r) (hg:Gl X x) (hm:X.mg x = none) (hv:bootBuiltins x = some (.builtin id)) (ha:PA X (e :: es) t) (hn:x ≠ "__name__" := by decide) (hdb:(x == ("__debug__" : Str)) = false:=by decide)
  (he:starEach (e :: es) X.env = (false,eval e X.env) :: starEach es X.env:=by rfl) (hpl:(backTo pos (starEach es X.env)).any (·.1) = false:=by rfl):PE X (.Call (.Name x p) (e :: es) [] pos) (tCB r t):=by
 intro pins s σ H Q I h
 refine wpAny_Call_Name_kw (Zhq I hg hm hv ?_ hn hdb)
 refine PyProof.Rows.callWith_builtin1 (thn (ha pos pins s σ H _ I h) fun us s1 qz9=>?_) he hpl
 obtain ⟨vs,H1,I1,r1,q1⟩:=qz9
 exact hc pins s1 σ H1 vs us Q I1 r1 q1
theorem Zs6 (hc:Zd9 X (.type T) r) (hg:Gl X x) (hm:X.mg x = none) (hv:bootBuiltins x = some (.type T)) (ha:PA X (e :: es) t) (hn:x ≠ "__name__" := by decide) (hdb:(x == ("__debug__" : Str)) = false:=by decide)
  (he:starEach (e :: es) X.env = (false,eval e X.env) :: starEach es X.env:=by rfl) (hpl:(backTo pos (starEach es X.env)).any (·.1) = false:=by rfl):PE X (.Call (.Name x p) (e :: es) [] pos) (tCB r t):=by
 intro pins s σ H Q I h
 refine wpAny_Call_Name_kw (Zhq I hg hm hv ?_ hn hdb)
 refine PyProof.Rows.callWith_type1 (thn (ha pos pins s σ H _ I h) fun us s1 qz9=>?_) he hpl
 obtain ⟨vs,H1,I1,r1,q1⟩:=qz9
 exact hc pins s1 σ H1 vs us Q I1 r1 q1
end
end L2
namespace HT
open PySem PyProof.Rows
section
open PySem.SeqAt
open PySem.AutoSeq1 (wpAny_loadPart')
open PySem.MeetsSeq PySem.MeetsSeq2 PySem.MeetsSeq3
end
section
variable {prog:Program} {w:World} {A:Around} {E:Value→Shared→Prop} {s:Shared}
theorem cat_tup {t b:Addr} {vs ws:List Value} {Q:Value→Shared→Prop} (ht:IsTup s.heap t vs.toArray) (hb:IsTup s.heap b ws.toArray) (hv:vs ≠ [])
  (h1:ws = []→Q (.ref t) s) (h2:ws ≠ []→Q (.ref s.heap.objs.size) { s with heap:=s.heap.push { cls:=.type "tuple", data:=.seq (vs ++ ws).toArray } })
  (hsz:vs.length + ws.length ≤ sizeLine):wpAny (model prog w) A (binaryOp .Add (.ref t) (.ref b)) Q E s:=by
 obtain ⟨⟨cls,dd,data,sl⟩,ho,hc,n,hd⟩:=id ht
 obtain ⟨⟨cls2,dd2,data2,sl2⟩,ho2,hc2,n2,hd2⟩:=id hb
 simp only at hc hd hc2 hd2
 subst hc hd hc2 hd2
 have e:vs.toArray ++ ws.toArray = (vs ++ ws).toArray:=by simp
 by_cases hw:ws = []
 ·exact concat_meets ⟨_,ho,rfl⟩ ⟨_,ho2,rfl⟩ noFill_tuple_add seq_tuple_add PySem.F.slot_tuple_add PySem.F.entry_tuple_add (PySem.F.args_tuple_add_2 _ _)
   (tuple_addW1 t b vs.toArray ws.toArray n n2 dd dd2 sl sl2 (by simpa using hv) (by simp [hw])) ⟨ho,ho2,h1 hw⟩
 ·refine concat_meets ⟨_,ho,rfl⟩ ⟨_,ho2,rfl⟩ noFill_tuple_add seq_tuple_add PySem.F.slot_tuple_add PySem.F.entry_tuple_add (PySem.F.args_tuple_add_2 _ _)
   (tuple_addW2 t b vs.toArray ws.toArray n n2 dd dd2 sl sl2 (by simpa using hv) (by simpa using hw) (by rw [List.size_toArray,List.size_toArray]; exact hsz)) ⟨ho,ho2,?_⟩
  rw [e]
  exact h2 hw
noncomputable def sIx (n d:Nat):Option Int→Nat
 | none=>d
 | some v=>if v < 0 then (v + (n:Int)).toNat else min v.toNat n
theorem sIx_none (n d:Nat):sIx n d none = d:=rfl
theorem sIx_nat (n d k:Nat):sIx n d (some (k:Int)) = min k n:=by
 show (if (k:Int) < 0 then ((k:Int) + (n:Int)).toNat else min (k:Int).toNat n) = min k n
 rw [if_neg (by omega),Int.toNat_natCast]
end
end HT
namespace L2
open PySem PySem.Spec PyProof.Rows
noncomputable abbrev TO:=St→Hp→(Option Int→Hp→Prop)→Prop
noncomputable def PO (X:Cx) (e:Option Expr) (t:TO):Prop :=
 ∀ (pins:List (Addr × Obj)) (s:Shared) (σ:St) (H:Hp) (Q:Option Int→Hp→Prop),Inv X pins σ H s→t σ H Q →
  wpAny (model X.prog X.w) X.A (evalPart e X.env) (fun u s'=>∃ o H',Inv X pins σ H' s'∧IsPart u o∧Q o H') X.xe s
noncomputable def Z13:TO:=fun _ H Q=>Q none H
noncomputable def Z77 (t:TE):TO:=fun σ H Q=>t σ H fun x H1=>∃ i,x = .int i∧Q (some i) H1
section
variable {X:Cx} {e:Expr} {te:TE} {lo hi:Option Expr} {tl th:TO} {pos p2:Pos}
theorem Zzp:PO X none Z13:=by
 intro pins s σ H Q I h
 rw [evalPart_none]
 exact wpAny_pure ⟨none,H,I,.none,h⟩
theorem Zz6 (h:PE X e te):PO X (some e) (Z77 te):=by
 intro pins s σ H Q I hw
 rw [evalPart_some]
 refine thn (h pins s σ H _ I hw) fun u s1 qz9=>?_
 obtain ⟨x,H1,I1,r1,q1⟩:=qz9
 obtain ⟨i,rfl,q⟩:=q1
 obtain ⟨t,rfl⟩:=r1
 exact ⟨some i,H1,I1,.int i t,q⟩
noncomputable def SlR (X:Cx) (r:V→Option Int→Option Int→Hp→VK→Prop):Prop :=
 ∀ (pins:List (Addr × Obj)) (s:Shared) (σ:St) (H:Hp) (x:V) (v vl vu:Value) (lo hi:Option Int) (sl:Addr) (Q:VK),Inv X pins σ H s→RelV x v→s.heap.IsSliceOf sl vl vu .none→IsPart vl lo→IsPart vu hi→r x lo hi H Q →
  ∃ T id,typeLookup (.type T) "__getitem__" = pure (some (.builtin id))∧s.TypeIs v T∧wpAny (model X.prog X.w) X.A (getItem v (.ref sl)) (EP X pins σ Q) X.xe s
noncomputable def tSl (r:V→Option Int→Option Int→Hp→VK→Prop) (te:TE) (tl th:TO):TE:=fun σ H Q=>te σ H fun x H1=>tl σ H1 fun l H2=>th σ H2 fun u H3=>r x l u H3 Q
theorem Zuz {r:V→Option Int→Option Int→Hp→VK→Prop} (hr:SlR X r) (he:PE X e te) (hl:PO X lo tl) (hu:PO X hi th):PE X (.Subscript e (.Slice lo hi none p2) pos) (tSl r te tl th):=by
 intro pins s σ H Q I h
 refine Subscript_ (thn (he pins s σ H _ I h) fun v s1 qz9=>?_)
 obtain ⟨x,H1,I1,r1,q1⟩:=qz9
 refine wpAny_Slice (thn (hl pins s1 σ H1 _ I1 q1) fun vl s2 qz9=>?_)
 obtain ⟨l,H2,I2,pl,q2⟩:=qz9
 refine thn (hu pins s2 σ H2 _ I2 q2) fun vu s3 qz9=>?_
 obtain ⟨u,H3,I3,pu,q3⟩:=qz9
 rw [evalPart_none]
 refine wpAny_pure ?_
 have I4:Inv X pins σ H3 { s3 with heap:=s3.heap.push { cls:=.type "slice", data:=.fields #[vl,vu,.none] } }:=I3.kept (t':=s3.toks) fun b ob q=>Heap.get?_push_of_some _ q
 obtain ⟨T,id,hT,ht,hg⟩:=hr pins { s3 with heap:=s3.heap.push { cls:=.type "slice", data:=.fields #[vl,vu,.none] } } σ H3 x v vl vu l u s3.heap.objs.size Q I4 r1 (Heap.IsSliceOf.new ..) pl pu q3
 show wpAny (model X.prog X.w) X.A (subscriptTail e (.Slice lo hi none p2) v (.ref s3.heap.objs.size)) (EP X pins σ Q) X.xe { s3 with heap:=s3.heap.push { cls:=.type "slice", data:=.fields #[vl,vu,.none] } }
 exact tail_any (ops:=[.ref s3.heap.objs.size,v]) ht hT hg (by with_unfolding_all rfl)
noncomputable def Z2k (xs:List V) (lo hi:Option Int):List V:=(xs.drop (HT.sIx xs.length 0 lo)).take (HT.sIx xs.length xs.length hi - HT.sIx xs.length 0 lo)
theorem Zm0 (xs:List V) (lo hi:Option Int):(Z2k xs lo hi).length ≤ xs.length:=by
 unfold Z2k
 rw [List.length_take,List.length_drop]
 omega
noncomputable def Z3t (K:PySem.W.Frag):R2:=fun x y H Q=>∃ a b xs ys,x = .ref a∧y = .ref b∧SqT K H a xs∧SqT K H b ys∧xs ≠ []∧xs.length + ys.length ≤ sizeLine ∧
 (ys = []→Q (.ref a) H)∧(ys ≠ []→∀ p,H p = none→Q (.ref p) (upd H p (.tup (xs ++ ys))))
theorem Vals.nil_iff {xs:List V} {us:List Value} (r:Vals xs us):us = [] ↔ xs = []:=by
 cases r with
 | nil=>simp
 | cons _ _=>simp
theorem Zyz:OpR X (binaryOp .Add) (Z3t X.K):=by
 intro pins s σ H x y v u Q I rx ry h
 obtain ⟨a,b,xs,ys,rfl,rfl,ha,hb,hx,hz,q1,q2⟩:=h
 cases rx
 cases ry
 obtain ⟨its,r1,p1,_⟩:=I.tuple ha
 obtain ⟨its2,r2,p2,_⟩:=I.tuple hb
 refine HT.cat_tup p1 p2 (fun z=>hx (r1.nil_iff.mp z)) (fun z=>⟨.ref a,H,I,rfl,q1 (r2.nil_iff.mp z)⟩) (fun z=>?_) (by rw [← r1.length,← r2.length]; exact hz)
 refine ⟨.ref s.heap.objs.size,_,I.laid (t':=s.toks) (o:=.tup (xs ++ ys)) (fun b ob q=>Heap.get?_push_of_some _ q) (Nat.le_refl _) ?_,rfl,q2 (fun w=>z (r2.nil_iff.mpr w)) _ (I.hok.fresh (Nat.le_refl _))⟩
 exact ⟨by rw [List.length_append]; exact hz,_,r1.append r2,IsTup.new _ _⟩
end
end L2
namespace L2
open PySem PySem.Spec PyProof.Rows
noncomputable def ixN (n:Nat) (i:Int):Option Nat:=if 0 ≤ i then (if i < n then some i.toNat else none) else if -(n:Int) ≤ i then some (i + n).toNat else none
noncomputable def atI {α:Type} (xs:List α) (i:Int):Option α:=(ixN xs.length i).bind fun j=>xs[j]?
theorem Zmc {n:Nat} {i:Int} {j:Nat} (h:ixN n i = some j):seqIndex? i n = some j∧j < n∧-(n:Int) ≤ i∧i < n:=by
 unfold ixN at h
 by_cases h0:0 ≤ i
 ·rw [if_pos h0] at h
  by_cases h1:i < n
  ·rw [if_pos h1] at h
   have e:i.toNat = j:=Option.some.inj h
   exact ⟨by rw [seqIndex_of h0 h1,e],by omega,by omega,h1⟩
  ·rw [if_neg h1] at h; cases h
 ·rw [if_neg h0] at h
  by_cases h1:-(n:Int) ≤ i
  ·rw [if_pos h1] at h
   have e:(i + n).toNat = j:=Option.some.inj h
   exact ⟨by rw [seqIndex_neg (by omega) h1,e],by omega,h1,by omega⟩
  ·rw [if_neg h1] at h; cases h
theorem Zmh {α:Type} {xs:List α} {i:Int} {v:α} (h:atI xs i = some v):∃ j,seqIndex? i xs.length = some j∧xs[j]? = some v∧j < xs.length∧-(xs.length:Int) ≤ i∧i < xs.length:=by
 unfold atI at h
 cases e:ixN xs.length i with
 | none=>rw [e] at h; cases h
 | some j =>
  rw [e] at h
  obtain ⟨h1,h2,h3,h4⟩:=Zmc e
  exact ⟨j,h1,h,h2,h3,h4⟩
theorem Z0b {α:Type} {xs:List α} {j:Nat} {v:α} (h:xs[j]? = some v):atI xs (j:Int) = some v:=by
 have hj:j < xs.length:=(List.getElem?_eq_some_iff.mp h).1
 have e:ixN xs.length (j:Int) = some j:=by
  unfold ixN
  rw [if_pos (by omega),if_pos (by omega)]; simp
 unfold atI; rw [e]; exact h
theorem Zn8 {α:Type} (xs:List α) (v:α):atI (xs ++ [v]) (-1) = some v:=by
 have hl:(xs ++ [v]).length = xs.length + 1:=by simp
 have e:ixN (xs ++ [v]).length (-1) = some xs.length:=by
  unfold ixN
  rw [hl,if_neg (by decide),if_pos (by omega)]
  congr 1
  omega
 unfold atI
 rw [e]
 show (xs ++ [v])[xs.length]? = some v
 simp
noncomputable def Zgq (b:Expr):Prop:=∀ o i,subscripted b false o i = operate [o,i] (getItem o i)
noncomputable def IxR (X:Cx) (r:R2):Prop :=
 ∀ (value slice:Expr) (pins:List (Addr × Obj)) (s:Shared) (σ:St) (H:Hp) (x y:V) (v u:Value) (Q:VK),Inv X pins σ H s→RelV x v→RelV y u→r x y H Q →
  subscripted slice false v u = operate [v,u] (getItem v u)→wpAny (model X.prog X.w) X.A (subscriptTail value slice v u) (EP X pins σ Q) X.xe s
noncomputable def MtR (X:Cx) (id:String) (r:V→List V→Hp→VK→Prop):Prop :=
 ∀ (pins:List (Addr × Obj)) (s:Shared) (σ:St) (H:Hp) (x:V) (xs:List V) (v:Value) (us:List Value) (Q:VK),Inv X pins σ H s→RelV x v→Vals xs us→r x xs H Q →
  wpAny (model X.prog X.w) X.A (call (.builtin id) (v :: us)) (EP X pins σ Q) X.xe s
section
variable {X:Cx} {a b:Expr} {ta tb:TE} {pos:Pos}
theorem IxR.or {r r':R2} (h:IxR X r) (h':IxR X r'):IxR X (fun x y H Q=>r x y H Q∨r' x y H Q):=by
 intro value slice pins s σ H x y v u Q I rx ry q hs
 rcases q with q | q
 ·exact h value slice pins s σ H x y v u Q I rx ry q hs
 ·exact h' value slice pins s σ H x y v u Q I rx ry q hs
theorem Zzo {r:R2} (hr:IxR X r) (ha:PE X a ta) (hb:PE X b tb) (hs:Zgq b):PE X (.Subscript a b pos) (tOp r ta tb):=by
 intro pins s σ H Q I h
 exact Subscript_ (Z7t ha hb I h fun v u s2 x y H2 I2 rx ry q=>hr a b pins s2 σ H2 x y v u Q I2 rx ry q (hs _ _))
noncomputable def Z80 (K:PySem.W.Frag):R2:=fun x y H Q=>∃ p xs i v,x = .ref p∧y = .int i∧SqL K H p xs∧atI xs i = some v∧Q v H
noncomputable def Ya4 (K:PySem.W.Frag):R2:=fun x y H Q=>∃ p xs i v,x = .ref p∧y = .int i∧SqT K H p xs∧atI xs i = some v∧Q v H
noncomputable def Yaq:R2:=fun x y H Q=>∃ z i c,x = .str z∧y = .int i∧z.length ≤ sizeLine∧atI z.cps.toList i = some c∧Q (.str ⟨#[c]⟩) H
theorem Zq1:IxR X (Z80 X.K):=by
 intro value slice pins s σ H x y v u Q I rx ry h hs
 obtain ⟨p,xs,i,z,rfl,rfl,hq,he,q⟩:=h
 cases rx
 obtain ⟨t,rfl⟩:=ry
 obtain ⟨its,r,pl,hz⟩:=I.list hq
 obtain ⟨j,h1,h2,h3,h4,h5⟩:=Zmh he
 obtain ⟨w,ew,rw'⟩:=r.get h2
 have hl:=r.length
 have hn:=Zie
 have fin:EP X pins σ Q w s:=⟨z,H,I,rw',q⟩
 by_cases h0:0 ≤ i
 ·have hj:i.toNat = j:=by
   rw [seqIndex_of h0 h5] at h1
   exact Option.some.inj h1
  exact item_listR pl.isList h0 (by omega) (by rw [hj]; simpa using ew) fin hs
 ·have hj:(i + (its.toArray.size:Int)).toNat = j:=by
   rw [seqIndex_neg (by omega) h4] at h1
   rw [List.size_toArray,← hl]
   exact Option.some.inj h1
  exact subscriptTail_builtinR (x:=w) pl.isList.typeIs slot_list_getitem.lookup
   (wpAny_getItem_list_neg (Q:=fun r s'=>r = w∧EP X pins σ Q r s') pl.isList (by omega) (by rw [List.size_toArray] <;> omega) (by omega) (by rw [hj]; simpa using ew) ⟨rfl,fin⟩) hs
theorem Z35:IxR X (Ya4 X.K):=by
 intro value slice pins s σ H x y v u Q I rx ry h hs
 obtain ⟨p,xs,i,z,rfl,rfl,hq,he,q⟩:=h
 cases rx
 obtain ⟨t,rfl⟩:=ry
 obtain ⟨its,r,pl,hz⟩:=I.tuple hq
 obtain ⟨j,h1,h2,h3,h4,h5⟩:=Zmh he
 obtain ⟨w,ew,rw'⟩:=r.get h2
 have hl:=r.length
 have hn:=Zie
 have fin:EP X pins σ Q w s:=⟨z,H,I,rw',q⟩
 exact subscriptTail_builtinR (x:=w) pl.typeIs slot_tuple_getitem.lookup
  (getItem_tuple (j:=j) (Q:=fun r s'=>r = w∧EP X pins σ Q r s') pl (by omega) (by omega) (by rw [List.size_toArray,← hl]; exact h1) (by simpa using ew) ⟨rfl,fin⟩) hs
theorem Z6d:IxR X Yaq:=by
 intro value slice pins s σ H x y v u Q I rx ry h hs
 obtain ⟨z,i,c,rfl,rfl,hz,he,q⟩:=h
 obtain ⟨t,rfl⟩:=rx
 obtain ⟨t',rfl⟩:=ry
 obtain ⟨j,h1,h2,h3,h4,h5⟩:=Zmh he
 have hl:z.cps.toList.length = z.length:=by simp [Str.length]
 rw [hl] at h1 h4 h5
 have hn:=Zie
 exact tail_any (typeIs_str s z t) slot_str_getitem.lookup (getItem_str (c:=c) (by
  have e1:decide (i < -(2 ^ 63:Int)) = false:=decide_eq_false (by omega)
  have e2:decide (i ≥ 2 ^ 63) = false:=decide_eq_false (by omega)
  rw [e1,e2,Bool.or_false]) (by rw [h1]; simpa using h2) ⟨.str ⟨#[c]⟩,H,I.tok _,⟨_,rfl⟩,q⟩) hs
noncomputable def rIx (K:PySem.W.Frag):R2:=fun x y H Q=>Z80 K x y H Q∨Ya4 K x y H Q∨Yaq x y H Q
theorem Z30:IxR X (rIx X.K):=Zq1.or (Z35.or Z6d)
theorem Zpo (its:List Value) (n j:Nat) (u:Value):Obj.mapSeq (·.setIfInBounds j u) { cls:=.type "list", data:=.seq its.toArray n } = { cls:=.type "list", data:=.seq (its.set j u).toArray n }:=by
 simp [Obj.mapSeq]
theorem Inv.lst {pins:List (Addr × Obj)} {σ:St} {H:Hp} {s:Shared} {p:Addr} {xs:List V} (I:Inv X pins σ H s) (h:H p = some (.lst xs)) :
  ∃ (its:List Value) (n:Nat),Vals xs its∧s.heap.get? p = some { cls:=.type "list", data:=.seq its.toArray n }∧xs.length ≤ sizeLine:=by
 obtain ⟨z,its,n,r,e⟩:=I.hok p _ h
 exact ⟨its,n,r,e,z⟩
theorem Inv.lstUpd {pins:List (Addr × Obj)} {σ:St} {H:Hp} {s:Shared} {p:Addr} {xs ys:List V} {its its':List Value} {n n':Nat} {f:Obj→Obj} (I:Inv X pins σ H s) (h:H p = some (.lst xs))
  (ho:s.heap.get? p = some { cls:=.type "list", data:=.seq its.toArray n }) (hf:f { cls:=.type "list", data:=.seq its.toArray n } = { cls:=.type "list", data:=.seq its'.toArray n' }) (r:Vals ys its') (hz:ys.length ≤ sizeLine) (t:Nat) :
  Inv X pins σ (upd H p (.lst ys)) { s with heap:=s.heap.update p f,toks:=t }:=by
 have e:(s.heap.update p f).get? p = some { cls:=.type "list", data:=.seq its'.toArray n' }:=by
  rw [Heap.get?_update_self f ho (by rw [hf] <;> rfl),hf]
 refine I.write (x:=p) (e:=p) (by rw [h]; trivial) (.inl rfl) (fun b u hb q=>(Heap.get?_update_other _ _ (Ne.symm hb)).trans q) ⟨_,e⟩ ?_
 exact ⟨hz,its',n',r,e⟩
noncomputable def Z47:V→V→V→Hp→(Hp→Prop)→Prop:=fun o i v H Q=>∃ p xs k j,o = .ref p∧i = .int k∧H p = some (.lst xs)∧ixN xs.length k = some j∧Q (upd H p (.lst (xs.set j v)))
theorem set_list:Yad X Z47:=by
 intro pins s σ H o i v ov iv u Q I ro ri rv h
 obtain ⟨p,xs,k,j,rfl,rfl,hp,hj,q⟩:=h
 cases ro
 obtain ⟨t,rfl⟩:=ri
 obtain ⟨its,n,r,ho,hz⟩:=I.lst hp
 obtain ⟨h1,h2,h3,h4⟩:=Zmc hj
 have hl:=r.length
 have hn:=Zie
 have I':Inv X pins σ (upd H p (.lst (xs.set j v))) { s with heap:=s.heap.update p (Obj.mapSeq (·.setIfInBounds j u)) } :=
  I.lstUpd hp ho (Zpo its n j u) (r.set rv j) (by rw [List.length_set]; exact hz) s.toks
 by_cases h0:0 ≤ k
 ·have hk:k.toNat = j:=by
   rw [seqIndex_of h0 h4] at h1
   exact Option.some.inj h1
  exact PySem.W.ki_setAt ho h0 (by omega) (by rw [List.size_toArray,← hl]; exact h4) (by rw [hk]; exact ⟨_,I',q⟩)
 ·have hk:(k + (its.toArray.size:Int)).toNat = j:=by
   rw [seqIndex_neg (by omega) h3] at h1
   rw [List.size_toArray,← hl]
   exact Option.some.inj h1
  exact PySem.W.ki_setBack ho (by omega) (by rw [List.size_toArray,← hl]; exact h3) (by omega) (by rw [hk]; exact ⟨_,I',q⟩)
theorem Zla (lo hi:Option Int) (n:Nat):(sliceBounds lo hi none n).1 = ((HT.sIx n 0 lo:Nat):Int)∧(sliceBounds lo hi none n).2.1 = ((HT.sIx n n hi:Nat):Int)∧(sliceBounds lo hi none n).2.2 = 1:=by
 refine ⟨?_,?_,rfl⟩
 ·cases lo with
  | none=>simp [sliceBounds,HT.sIx]
  | some i =>
   simp only [sliceBounds,HT.sIx,Option.getD_none,show (1:Int) > 0 by decide,if_true]
   by_cases h:i < 0
   ·simp only [h,if_true] <;> omega
   ·simp only [h,if_false] <;> omega
 ·cases hi with
  | none=>simp [sliceBounds,HT.sIx]
  | some i =>
   simp only [sliceBounds,HT.sIx,Option.getD_none,show (1:Int) > 0 by decide,if_true]
   by_cases h:i < 0
   ·simp only [h,if_true] <;> omega
   ·simp only [h,if_false] <;> omega
theorem Zjl (its:List Value) (lo hi:Option Int):slicePick its.toArray lo hi none = ((its.drop (HT.sIx its.length 0 lo)).take (HT.sIx its.length its.length hi - HT.sIx its.length 0 lo)).toArray:=by
 obtain ⟨h1,h2,h3⟩:=Zla lo hi its.toArray.size
 unfold slicePick
 rw [h1,h2,h3]
 simp only [sliceRange_one,pick_run,List.size_toArray] <;> rfl
noncomputable def Yb1 (K:PySem.W.Frag):V→Option Int→Option Int→Hp→VK→Prop:=fun x lo hi H Q=>∃ a xs,x = .ref a∧SqL K H a xs∧∀ p,H p = none→Q (.ref p) (upd H p (.lst (Z2k xs lo hi)))
theorem Z1f:SlR X (Yb1 X.K):=by
 intro pins s σ H x v vl vu lo hi sl Q I rx hs pl pu h
 obtain ⟨a,xs,rfl,hx,q⟩:=h
 cases rx
 obtain ⟨its,r,ht,hz⟩:=I.list hx
 have hlen:=r.length
 refine ⟨"list", _,slot_list_getitem.lookup,ht.isList.typeIs,?_⟩
 refine wpAny_getItem_list_slice ht.isList hs pl pu .none (by simp) ?_ (by rw [List.size_toArray] <;> omega)
 rw [Zjl,← hlen]
 refine ⟨.ref s.heap.objs.size,_,I.laid (t':=s.toks) (o:=.lst (Z2k xs lo hi)) (fun b ob q=>Heap.get?_push_of_some _ q) (Nat.le_refl _) ?_,rfl,q _ (I.hok.fresh (Nat.le_refl _))⟩
 exact ⟨Nat.le_trans (Zm0 xs lo hi) hz,_,0,(r.drop (HT.sIx xs.length 0 lo)).take (HT.sIx xs.length xs.length hi - HT.sIx xs.length 0 lo),Heap.get?_push_size _ rfl⟩
noncomputable def Zhk:V→Bool
 | .non=>true
 | .bl _=>true
 | .int _=>true
 | .str _=>true
 | _=>false
noncomputable def eqV:V→V→Bool
 | .non,.non=>true
 | .bl a,.bl b=>a == b
 | .bl a,.int b=>(if a then 1 else 0) == b
 | .int a,.bl b=>a == (if b then 1 else 0)
 | .int a,.int b=>a == b
 | .str a,.str b=>a == b
 | _,_=>false
theorem Z25 {A:Around} {s:Shared} {y x:V} {u v:Value} (ry:RelV y u) (rx:RelV x v) (fy:Zhk y = true) (fx:Zhk x = true):SeqAt.EqAt A s u v (eqV y x):=by
 cases y with
 | non =>
  cases ry
  cases x with
  | non=>cases rx; exact SeqAt.EqAt.same _
  | bl b=>cases rx; exact SeqAt.EqAt.none_bool b
  | int b=>obtain ⟨t,rfl⟩:=rx; exact SeqAt.EqAt.none_int b t
  | str b=>obtain ⟨t,rfl⟩:=rx; exact SeqAt.EqAt.none_str b t
  | _=>exact absurd (show false = true from fx) Bool.false_ne_true
 | bl a =>
  cases ry
  cases x with
  | non=>cases rx; exact SeqAt.EqAt.bool_none a
  | bl b=>cases rx; exact SeqAt.EqAt.bool_bool a b
  | int b=>obtain ⟨t,rfl⟩:=rx; exact SeqAt.EqAt.bool_int a b t
  | str b=>obtain ⟨t,rfl⟩:=rx; exact SeqAt.EqAt.bool_str a b t
  | _=>exact absurd (show false = true from fx) Bool.false_ne_true
 | int a =>
  obtain ⟨t',rfl⟩:=ry
  cases x with
  | non=>cases rx; exact SeqAt.EqAt.int_none a t'
  | bl b=>cases rx; exact SeqAt.EqAt.int_bool a t' b
  | int b=>obtain ⟨t,rfl⟩:=rx; exact SeqAt.EqAt.int_int a t' b t
  | str b=>obtain ⟨t,rfl⟩:=rx; exact SeqAt.EqAt.int_str a t' b t
  | _=>exact absurd (show false = true from fx) Bool.false_ne_true
 | str a =>
  obtain ⟨t',rfl⟩:=ry
  cases x with
  | non=>cases rx; exact SeqAt.EqAt.str_none a t'
  | bl b=>cases rx; exact SeqAt.EqAt.str_bool a t' b
  | int b=>obtain ⟨t,rfl⟩:=rx; exact SeqAt.EqAt.str_int a t' b t
  | str b=>obtain ⟨t,rfl⟩:=rx; exact SeqAt.EqAt.str_str a t' b t
  | _=>exact absurd (show false = true from fx) Bool.false_ne_true
 | _=>exact absurd (show false = true from fy) Bool.false_ne_true
noncomputable def eqU (x:V) (u:Value):Bool:=match u with
 | .none=>eqV .non x
 | .bool b=>eqV (.bl b) x
 | .int i _=>eqV (.int i) x
 | .str z _=>eqV (.str z) x
 | _=>false
theorem Zyo {x y:V} {u:Value} (r:RelV y u) (f:Zhk y = true):eqU x u = eqV y x:=by
 cases y with
 | non=>cases r; rfl
 | bl b=>cases r; rfl
 | int i=>obtain ⟨t,rfl⟩:=r; rfl
 | str z=>obtain ⟨t,rfl⟩:=r; rfl
 | _=>exact absurd (show false = true from f) Bool.false_ne_true
theorem Zi8 {x:V} {xs:List V} {us:List Value} (h:Vals xs us) (f:xs.all Zhk = true):us.any (eqU x) = xs.any fun y=>eqV y x:=by
 induction h with
 | nil=>rfl
 | cons r t ih =>
  rw [List.all_cons,Bool.and_eq_true] at f
  rw [List.any_cons,List.any_cons,Zyo r f.1,ih f.2]
theorem Zgl {A:Around} {s:Shared} {x:V} {v:Value} (rx:RelV x v) (fx:Zhk x = true) {xs:List V} {us:List Value} (h:Vals xs us) (f:xs.all Zhk = true):∀ u ∈ us,SeqAt.EqAt A s u v (eqU x u):=by
 induction h with
 | nil=>intro u hu; cases hu
 | cons r t ih =>
  intro u' hu
  rw [List.all_cons,Bool.and_eq_true] at f
  rcases List.mem_cons.mp hu with rfl | hu
  ·rw [Zyo r f.1]; exact Z25 r rx f.1 fx
  ·exact ih f.2 u' hu
noncomputable def inV (x:V) (xs:List V):Bool:=xs.any fun y=>eqV y x
noncomputable def rIn (K:PySem.W.Frag) (neg:Bool):R2:=fun x y H Q=>∃ p xs,y = .ref p∧(SqL K H p xs∨SqT K H p xs)∧Zhk x = true∧xs.all Zhk = true∧Q (.bl (if neg then !inV x xs else inV x xs)) H
theorem Zrg:OpR X (compareOp .In) (rIn X.K false):=by
 intro pins s σ H x y v u Q I rx ry h
 obtain ⟨p,xs,rfl,hq,fx,fs,q⟩:=h
 cases ry
 rcases hq with hq | hq
 ·obtain ⟨its,r,pl,hz⟩:=I.list hq
  refine SeqAt.in_listAt (eqU x) pl.isList (fun w hw=>Zgl rx fx r fs w (by simpa using hw)) ⟨.bl _,H,I,rfl,?_⟩
  rw [show its.toArray.any (eqU x) = its.any (eqU x) by simp,Zi8 r fs]
  exact q
 ·obtain ⟨its,r,pl,hz⟩:=I.tuple hq
  refine SeqAt.in_tupleAt (eqU x) pl (fun w hw=>Zgl rx fx r fs w (by simpa using hw)) ⟨.bl _,H,I,rfl,?_⟩
  rw [show its.toArray.any (eqU x) = its.any (eqU x) by simp,Zi8 r fs]
  exact q
theorem Zkj:OpR X (compareOp .NotIn) (rIn X.K true):=by
 intro pins s σ H x y v u Q I rx ry h
 obtain ⟨p,xs,rfl,hq,fx,fs,q⟩:=h
 cases ry
 rcases hq with hq | hq
 ·obtain ⟨its,r,pl,hz⟩:=I.list hq
  refine SeqAt.notIn_listAt (eqU x) pl.isList (fun w hw=>Zgl rx fx r fs w (by simpa using hw)) ⟨.bl _,H,I,rfl,?_⟩
  rw [show its.toArray.any (eqU x) = its.any (eqU x) by simp,Zi8 r fs]
  exact q
 ·obtain ⟨its,r,pl,hz⟩:=I.tuple hq
  refine SeqAt.notIn_tupleAt (eqU x) pl (fun w hw=>Zgl rx fx r fs w (by simpa using hw)) ⟨.bl _,H,I,rfl,?_⟩
  rw [show its.toArray.any (eqU x) = its.any (eqU x) by simp,Zi8 r fs]
  exact q
theorem Zj9:Zd9 X (.builtin "len") (fun xs H Q=>∃ p ys,xs = [.ref p]∧(SqL X.K H p ys∨SqT X.K H p ys)∧Q (.int ys.length) H):=by
 intro pins s σ H xs us Q I r h
 obtain ⟨p,ys,rfl,hq,q⟩:=h
 obtain ⟨u,rfl,rx⟩:=vals1 r
 cases rx
 have hn:=Zie
 rcases hq with hq | hq
 ·obtain ⟨its,r',pl,hz⟩:=I.list hq
  have hlen:=r'.length
  exact Calls.call_len_list pl.isList (by simp only [List.size_toArray] <;> omega) ⟨.int ys.length,H,I.tok _,⟨s.toks + 1,by rw [List.size_toArray,hlen]⟩,q⟩
 ·obtain ⟨its,r',pl,hz⟩:=I.tuple hq
  have hlen:=r'.length
  exact len_tuple pl (by simp only [List.size_toArray] <;> omega) ⟨.int ys.length,H,I.tok _,⟨s.toks + 1,by rw [List.size_toArray,hlen]⟩,q⟩
theorem Zll:Zd9 X (.type "list") (fun xs H Q=>∃ p ys,xs = [.ref p]∧(SqL X.K H p ys∨SqT X.K H p ys)∧∀ l,H l = none→Q (.ref l) (upd H l (.lst ys))):=by
 intro pins s σ H xs us Q I r h
 obtain ⟨p,ys,rfl,hq,q⟩:=h
 obtain ⟨u,rfl,rx⟩:=vals1 r
 cases rx
 have fin:∀ (its:List Value),Vals ys its→ys.length ≤ sizeLine→∀ (h':Heap) (c':Nat),(∀ b o',s.heap.get? b = some o'→h'.get? b = some o') →
   h'.get? s.heap.objs.size = some { cls:=.type "list", dict:=none,data:=.seq its.toArray c',slots:=#[] }→EP X pins σ Q (.ref s.heap.objs.size) { s with heap:=h' }:=fun its r' hz h' c' kp e =>
  ⟨.ref s.heap.objs.size,_,I.laid (t':=s.toks) kp (Nat.le_refl _) (show ObjOk X.prog X.w _ h' _ (.lst ys) from ⟨hz,its,c',r',e⟩),rfl,q _ (I.hok.fresh (Nat.le_refl _))⟩
 rcases hq with hq | hq
 ·obtain ⟨its,r',pl,hz⟩:=I.list hq
  have hlen:=r'.length
  obtain ⟨o,ho,hc,n,hd⟩:=pl.isList
  exact call_list_seq p (.inl rfl) ho hc hd (fun h' c' kp e=>fin its r' hz h' c' kp e) (by simp only [List.size_toArray] <;> omega)
 ·obtain ⟨its,r',pl,hz⟩:=I.tuple hq
  have hlen:=r'.length
  obtain ⟨o,ho,hc,n,hd⟩:=pl
  exact call_list_seq p (.inr rfl) ho hc hd (fun h' c' kp e=>fin its r' hz h' c' kp e) (by simp only [List.size_toArray] <;> omega)
noncomputable def tyV (K:PySem.W.Frag) (T:String) (x:V) (H:Hp):Prop:=match x with
 | .str _=>T = "str"
 | .int _=>T = "int"
 | .ref p=>(T = "list" ∧ ∃ xs,SqL K H p xs)∨(T = "tuple" ∧ ∃ o,K.lookup p = some o∧o.cls = .type "tuple" ∧ o.dict = none) ∨
   (T = "dict" ∧ ((∃ kvs,H p = some (.dK kvs))∨∃ kvs,H p = some (.dT kvs)))∨(T = "set" ∧ ∃ S n,H p = some (.set S n))
 | _=>False
theorem Z5a {pins:List (Addr × Obj)} {σ:St} {H:Hp} {s:Shared} {T:String} {x:V} {v:Value} (I:Inv X pins σ H s) (r:RelV x v) (ty:tyV X.K T x H) :
  s.TypeIs v T∧∀ a,v = .ref a→∃ ob,s.heap.get? a = some ob∧ob.dict = none:=by
 cases x with
 | str z =>
  obtain ⟨t,rfl⟩:=r
  cases (show T = "str" from ty)
  exact ⟨typeIs_str s z t,fun _ e=>nomatch e⟩
 | int i =>
  obtain ⟨t,rfl⟩:=r
  cases (show T = "int" from ty)
  exact ⟨typeIs_int s i t,fun _ e=>nomatch e⟩
 | ref p =>
  cases r
  rcases ty with ⟨rfl,xs,hq⟩ | ⟨rfl,o,hk,hc,hd⟩ | ⟨rfl,hk⟩ | ⟨rfl,S,n,hk⟩
  ·obtain ⟨its,_,pl,_⟩:=I.list hq
   refine ⟨pl.isList.typeIs,fun a e=>?_⟩
   cases e
   obtain ⟨o,n,e,c,hd,_⟩:=pl
   exact ⟨o,e,hd⟩
  ·refine ⟨⟨o,I.kIn p o hk,hc⟩,fun a e=>?_⟩
   cases e
   exact ⟨o,I.kIn _ o hk,hd⟩
  ·have z:∃ o,s.heap.get? p = some o∧o.ExactDict:=by
    rcases hk with ⟨kvs,hk⟩ | ⟨kvs,hk⟩
    ·obtain ⟨_,_,_,_,o,_,_,e,ex,_⟩:=I.hok p _ hk
     exact ⟨o,e,ex⟩
    ·obtain ⟨_,_,_,_,o,_,_,e,ex,_⟩:=I.hok p _ hk
     exact ⟨o,e,ex⟩
   obtain ⟨o,e,ex⟩:=z
   refine ⟨⟨o,e,ex.1⟩,fun a e2=>?_⟩
   cases e2
   exact ⟨o,e,ex.2.1⟩
  ·obtain ⟨o,_,_,_,e,ex,_⟩:=I.hok p _ hk
   refine ⟨⟨o,e,ex.1⟩,fun a e2=>?_⟩
   cases e2
   exact ⟨o,e,ex.2.1⟩
 | _=>exact False.elim ty
noncomputable def tBM (K:PySem.W.Frag) (T:String) (r:V→List V→Hp→VK→Prop) (to:TE) (t:TA):TE:=fun σ H Q=>to σ H fun x H1=>tyV K T x H1∧t σ H1 fun xs H2=>r x xs H2 Q
variable {o e:Expr} {es:List Expr} {to:TE} {t:TA} {name:Str} {apos cpos:Pos} {T id:String} {r:V→List V→Hp→VK→Prop}
theorem Zz0 (pa:PlainAttrs T) (slot:Slot T name id) (hty:typeOf (.builtin id) = pure (.type "method_descriptor")) (hm:MtR X id r) (ho:PE X o to) (ha:PA X (e :: es) t)
  (hbase:attributeBase o name X.env (eval o X.env) = eval o X.env:=by rfl)
  (hfew:((backTo cpos (starEach (e :: es) X.env)).all (fun x=>!x.1) && (backToKw cpos (keywordEach [] X.env)).all (fun x=>x.1.isSome)
   && decide ((e :: es).length + ([]:List Keyword).length + (if ([]:List Keyword).isEmpty then 0 else 1) < 30)) = true:=by rfl)
  (hline:(apos.endLine == cpos.line) = true:=by rfl) (hs:starEach (e :: es) X.env = (false,eval e X.env) :: starEach es X.env:=by rfl) (hplain:(backTo cpos (starEach es X.env)).any (·.1) = false:=by rfl) :
  PE X (.Call (.Attribute o name apos) (e :: es) [] cpos) (tBM X.K T r to t):=by
 intro pins s σ H Q I h
 refine wpAny_Call_method_late hbase hfew hline rfl (thn (ho pins s σ H _ I h) fun v s1 qz9=>?_)
 obtain ⟨x,H1,I1,r1,ty,q1⟩:=qz9
 obtain ⟨h1,h2⟩:=Z5a I1 r1 ty
 refine ⟨T,id,pa,slot,hty,h1,h2,?_⟩
 have hA:=ha cpos pins s1 σ H1 _ I1 q1
 rw [hs] at hA ⊢
 refine Calls.callWith_builtin (by show (false || (backTo cpos (starEach es X.env)).any (·.1)) = false; rw [hplain] <;> rfl) (Calls.evalArgs_plain ?_)
 refine thn hA fun us s2 qz9=>?_
 obtain ⟨vs,H2,I2,r2,q2⟩:=qz9
 exact hm pins s2 σ H2 x vs v us Q I2 r1 r2 q2
end
end L2
namespace L2
open PySem PySem.Spec PyProof.Rows
noncomputable def MtM (X:Cx) (id:String) (r:V→List V→Hp→VK→Prop):Prop :=
 ∀ (pins:List (Addr × Obj)) (s:Shared) (σ:St) (H:Hp) (x:V) (xs:List V) (v:Value) (us:List Value) (Q:VK),Inv X pins σ H s→RelV x v→Vals xs us→r x xs H Q →
  wpAny (model X.prog X.w) X.A (call (.builtin id) (v :: us)) (EP X pins σ Q) X.xe s
theorem Vals.one {x:V} {us:List Value} (h:Vals [x] us):∃ u,us = [u]∧RelV x u:=by
 cases h with
 | cons r t=>cases t; exact ⟨_,rfl,r⟩
theorem Vals.zero:∀ {us:List Value},Vals [] us→us = []
 | _,.nil=>rfl
theorem Vals.eraseIdx:∀ {xs:List V} {us:List Value} (i:Nat),Vals xs us→Vals (xs.eraseIdx i) (us.eraseIdx i)
 | _,_,_,.nil=>.nil
 | _,_,0,.cons _ t=>t
 | _,_,i + 1,.cons r t=>.cons r (Vals.eraseIdx i t)
theorem Vals.rep {xs:List V} {us:List Value} (h:Vals xs us):∀ k:Nat,Vals (List.replicate k xs).flatten (List.replicate k us).flatten
 | 0=>.nil
 | k + 1=>by
  rw [List.replicate_succ,List.replicate_succ,List.flatten_cons,List.flatten_cons]
  exact Vals.append h (Vals.rep h k)
theorem Zl2 {α:Type}:∀ (l:List α) (i:Nat),(l.eraseIdx i).length ≤ l.length
 | [],_=>Nat.le_refl _
 | _ :: _,0=>Nat.le_succ _
 | _ :: r,i + 1=>Nat.succ_le_succ (Zl2 r i)
theorem foldl_rep (its:List Value):∀ (k:Nat) (acc:List Value),
  List.foldl (fun x1 x2=>x1 ++ x2) acc.toArray (List.replicate k its.toArray) = (acc ++ (List.replicate k its).flatten).toArray
 | 0,acc=>by simp
 | k + 1,acc=>by
  have e:acc.toArray ++ its.toArray = (acc ++ its).toArray:=by simp
  have e2:(acc ++ its) ++ (List.replicate k its).flatten = acc ++ (List.replicate (k + 1) its).flatten:=by
   rw [List.replicate_succ,List.flatten_cons,List.append_assoc]
  rw [← e2,← foldl_rep its k (acc ++ its),← e,List.replicate_succ,List.foldl_cons]
section
variable {X:Cx} {pins:List (Addr × Obj)} {σ:St} {H:Hp} {s:Shared} {l b:Addr} {xs ys zs:List V}
theorem Inv.lset {its its':List Value} {n:Nat} {f:Array Value→Array Value} {t':Nat} (I:Inv X pins σ H s) (hH:H l = some (.lst xs))
  (e:s.heap.get? l = some { cls:=.type "list", data:=.seq its.toArray n }) (hf:f its.toArray = its'.toArray) (hv:Vals ys its') (hz:ys.length ≤ sizeLine) :
  Inv X pins σ (upd H l (.lst ys)) { s with heap:=s.heap.update l (Obj.mapSeq f),toks:=t' }:=by
 have q:=PySem.IsL.update e f
 rw [hf] at q
 refine I.write (x:=l) (e:=l) (by rw [hH]; exact trivial) (.inl rfl) (fun b' u hb hu=>(Heap.get?_update_other s.heap (Obj.mapSeq f) (Ne.symm hb)).trans hu) ⟨_,q⟩ ?_
 exact ⟨hz,its',_,hv,q⟩
theorem Inv.lnew {its:List Value} {t':Nat} (I:Inv X pins σ H s) (hv:Vals ys its) (hz:ys.length ≤ sizeLine) :
  Inv X pins σ (upd H s.heap.objs.size (.lst ys)) { s with heap:=s.heap.push { cls:=.type "list", data:=.seq its.toArray },toks:=t' } :=
 I.laid (fun _ _ q=>Heap.get?_push_of_some _ q) (Nat.le_refl _) ⟨hz,its,0,hv,Heap.get?_push_size _ rfl⟩
theorem Inv.fresh (I:Inv X pins σ H s):H s.heap.objs.size = none:=I.hok.fresh (Nat.le_refl _)
theorem Inv.lstM (I:Inv X pins σ H s) (hH:H l = some (.lst xs)):xs.length ≤ sizeLine∧∃ (its:List Value) (n:Nat),Vals xs its∧xs.length = its.length∧s.heap.get? l = some { cls:=.type "list", data:=.seq its.toArray n }:=by
 obtain ⟨z,its,n,r,e⟩:=I.hok l _ hH
 exact ⟨z,its,n,r,r.length,e⟩
theorem Zoz {n:Nat} (h:n ≤ sizeLine):Builtin.List.listTooLong n = false:=by
 unfold Builtin.List.listTooLong
 exact decide_eq_false (by omega)
end
section
variable {X:Cx}
noncomputable def Zzd:V→List V→Hp→VK→Prop:=fun x vs H Q=>∃ l xs y,x = .ref l∧vs = [y]∧H l = some (.lst xs)∧xs.length < sizeLine∧Q .non (upd H l (.lst (xs ++ [y])))
theorem Zkp:MtM X "list.append" Zzd:=by
 intro pins s σ H x vs v us Q I rx rv h
 obtain ⟨l,xs,y,rfl,rfl,hH,hz,q⟩:=h
 cases rx
 obtain ⟨u,rfl,ru⟩:=rv.one
 obtain ⟨z,its,n,r,hl,e⟩:=I.lstM hH
 refine call_meets F.slot_list_append ⟨_,e,rfl⟩ F.entry_list_append (F.args_list_append_2 _ _) (PySem.list_append l its.toArray n u (by rw [List.size_toArray]; omega)) ⟨e,?_⟩
 refine ⟨.non,_,I.lset (its':=its ++ [u]) hH e (by simp) (r.append (.cons ru .nil)) ?_,rfl,q⟩
 rw [List.length_append,List.length_singleton]
 omega
noncomputable def Zz1:V→List V→Hp→VK→Prop:=fun x vs H Q=>∃ l b xs zs,x = .ref l∧vs = [.ref b]∧H l = some (.lst xs)∧H b = some (.lst zs)∧xs.length + zs.length ≤ sizeLine∧Q .non (upd H l (.lst (xs ++ zs)))
theorem Zsc:MtM X "list.extend" Zz1:=by
 intro pins s σ H x vs v us Q I rx rv h
 obtain ⟨l,b,xs,zs,rfl,rfl,hH,hB,hz,q⟩:=h
 cases rx
 obtain ⟨u,rfl,ru⟩:=rv.one
 cases ru
 obtain ⟨z,its,n,r,hl,e⟩:=I.lstM hH
 obtain ⟨z2,its2,n2,r2,hl2,e2⟩:=I.lstM hB
 have hsz:its.toArray.size + its2.toArray.size ≤ sizeLine:=by rw [List.size_toArray,List.size_toArray]; omega
 have hlong:¬ (!its.toArray.isEmpty && Builtin.List.listTooLong (its.toArray.size + its2.toArray.size)) = true:=by
  rw [Zoz hsz,Bool.and_false]
  exact Bool.false_ne_true
 refine call_meets F.slot_list_extend ⟨_,e,rfl⟩ F.entry_list_extend (F.args_list_extend_2 _ _)
  (AutoSeq1.list_extend_list_list_0 l its.toArray n b its2.toArray n2 hlong (by rw [List.size_toArray]; omega) (by omega)) ⟨e,e2,?_⟩
 refine ⟨.non,_,I.lset (its':=its ++ its2) hH e (by simp) (r.append r2) ?_,rfl,q⟩
 rw [List.length_append]
 omega
noncomputable def Z4j:V→List V→Hp→VK→Prop:=fun x vs H Q=>∃ l xs i k y,x = .ref l∧vs = [.int i]∧H l = some (.lst xs)∧-(2 ^ 63) ≤ i∧i < 2 ^ 63∧seqIndex? i xs.length = some k∧xs[k]? = some y∧Q y (upd H l (.lst (xs.eraseIdx k)))
theorem Zux:MtM X "list.pop" Z4j:=by
 intro pins s σ H x vs v us Q I rx rv h
 obtain ⟨l,xs,i,k,y,rfl,rfl,hH,h1,h2,hk,hy,q⟩:=h
 cases rx
 obtain ⟨u,rfl,ru⟩:=rv.one
 obtain ⟨t,rfl⟩:=ru
 obtain ⟨z,its,n,r,hl,e⟩:=I.lstM hH
 obtain ⟨w,hw,rw'⟩:=r.get hy
 refine call_meets F.slot_list_pop ⟨_,e,rfl⟩ F.entry_list_pop (F.args_list_pop_2 _ _)
  (MeetsSeq.list_pop_at l its.toArray n i t k w (fitsIndex_both h1 h2) (by rw [List.size_toArray,← hl]; exact hk) (by rw [← Array.getElem?_toList]; exact hw) (by rw [List.size_toArray]; omega)) ⟨e,?_⟩
 refine ⟨y,_,I.lset (its':=its.eraseIdx k) hH e ?_ (r.eraseIdx k) ?_,rw',q⟩
 ·show its.toArray.eraseIdxIfInBounds k = (its.eraseIdx k).toArray
  rw [List.eraseIdxIfInBounds_toArray]
 ·have:=Zl2 xs k
  omega
noncomputable def Ydb:R2:=fun x y H Q=>∃ l k xs,x = .ref l∧y = .int k∧H l = some (.lst xs)∧-(2 ^ 63) ≤ k∧k < 2 ^ 63∧xs.length * k.toNat ≤ sizeLine ∧
 ∀ p,H p = none→Q (.ref p) (upd H p (.lst (List.replicate k.toNat xs).flatten))
theorem len_rep {α:Type} (xs:List α) (k:Nat):(List.replicate k xs).flatten.length = k * xs.length:=by
 induction k with
 | zero=>simp
 | succ k ih=>rw [List.replicate_succ,List.flatten_cons,List.length_append,ih,Nat.succ_mul,Nat.add_comm]
theorem Z34:OpR X (binaryOp .Mult) Ydb:=by
 intro pins s σ H x y v u Q I rx ry h
 obtain ⟨l,k,xs,rfl,rfl,hH,h1,h2,hz,q⟩:=h
 cases rx
 obtain ⟨t,rfl⟩:=ry
 obtain ⟨z,its,n,r,hl,e⟩:=I.lstM hH
 have hlen:its.toArray.size * k.toNat ≤ sizeLine:=by rw [List.size_toArray,← hl]; exact hz
 have hcap:¬ its.toArray.size * k.toNat > (2 ^ 63 - 1) / 8:=by
  have:(sizeLine:Nat) ≤ (2 ^ 63 - 1) / 8:=by decide
  omega
 have hfit:¬ (!Builtin.List.listFitsIndex k) = true:=by
  rw [fitsIndex_both h1 h2]
  exact Bool.false_ne_true
 have hlong:¬ Builtin.List.listTooLong (its.toArray.size * k.toNat) = true:=by
  rw [Zoz hlen]
  exact Bool.false_ne_true
 have hnew:List.foldl (fun x1 x2=>x1 ++ x2) #[] (List.replicate (if its.toArray.isEmpty = true then 0 else k.toNat) its.toArray) = (List.replicate k.toNat its).flatten.toArray:=by
  have f0:∀ m:Nat,List.foldl (fun x1 x2=>x1 ++ x2) #[] (List.replicate m its.toArray) = (List.replicate m its).flatten.toArray:=fun m=>by
   have:=foldl_rep its m []
   rw [List.nil_append] at this
   exact this
  rw [f0]
  cases its with
  | nil=>simp
  | cons a r'=>rw [if_neg (by simp)]
 refine wpAny_binaryOp_repeat_ref (T := "list") (U := "int") (by decide) ⟨_,e,rfl⟩ (fun s'=>typeIs_int s' k t) noFill_list_mul F.fills_int_mul F.slot_int_rmul repeat_list F.slot_int_index.lookup
  (call_meets F.slot_int_rmul (typeIs_int s k t) F.entry_int_rmul (F.args_int_rmul_2 _ _) (int___rmul___int_list k t l its.toArray n)
   ⟨e,rfl,⟨_,e,rfl⟩,call_meets F.slot_list_mul ⟨_,e,rfl⟩ F.entry_list_mul (F.args_list_mul_2 _ _) (AutoListH.list___mul___list_int_3 l its.toArray n k t hfit hcap hlong) ⟨e,?_⟩⟩)
 rw [hnew]
 exact ⟨.ref _,_,I.lnew (t':=s.toks) (r.rep k.toNat) (by rw [len_rep,Nat.mul_comm]; exact hz),rfl,q _ I.fresh⟩
end
section
variable {prog:Program} {w:World} {A:Around} {E:Value→Shared→Prop} {s:Shared}
end
section
variable {X:Cx}
end
end L2
namespace Att
open PySem PySem.W PySem.Calls PyProof.Rows
theorem Zg3 {P:Params} {h:Heap}:∀ (ns:List Int) (vs:List Value),WellAll P h vs (ns.map WData.int)→IntsAre vs ns:=by
 intro ns
 induction ns with
 | nil =>
  intro vs w
  rw [List.map_nil] at w
  cases w
  exact .nil
 | cons n ns ih =>
  intro vs w
  rw [List.map_cons] at w
  cases w with
  | cons a b =>
   cases a
   exact .cons _ _ (ih _ b)
theorem Ztx {l:OpenLaw} {n:Nat} (hn:l.most = some n) {P:Params} {h:Heap} {args:List WData} {vals:List Value}
  (hpre:l.row.toRowW.claim.pre args = true) (hwl:WellAll P h vals args) :
  ∃ a vs ns,vals = [Value.ref a]∧args = [WData.list (ns.map WData.int)]∧h.get? a = some { cls:=.type "list", data:=.seq vs.toArray }∧IntsAre vs ns∧ns.length ≤ n:=by
 have hsh:WShape.hasAll [] args [.list .int] = true:=(pre_splitW hpre).1
 have hc:l.pre.holds [] { args:=args } = true:=(pre_splitW hpre).2
 obtain ⟨d,r,rfl,h1,h2⟩:=hasAllW_cons hsh
 obtain rfl:=hasAllW_nil h2
 obtain ⟨xs,rfl,h3⟩:=hasW_list h1
 obtain ⟨ns,rfl⟩:=items_int h3
 have hlen:ns.length ≤ n:=by
  unfold OpenLaw.pre at hc
  have h4:(WTm.not (.lt (.lit (.int (n:Int))) (.len (.arg 0)))).holds [] { args:=[.list (ns.map .int)] } = true:=by
   have h4:=(holds_andW hc).1
   rw [hn] at h4
   exact h4
  have h5:=condW_of h4 (w_not (w_lt w_lit (w_len_list (w_arg rfl))))
  rw [List.length_map] at h5
  refine Nat.le_of_not_lt fun q=>?_
  have q':(n:Int) < ((ns.length:Nat):Int):=by omega
  first
   | (rw [decide_eq_true q'] at h5; exact absurd h5 (by decide))
   | (simp at h5; omega)
 cases hwl with
 | cons w1 w2 =>
  cases w2
  cases w1 with
  | list ho hall=>exact ⟨_,_,ns,rfl,rfl,ho,Zg3 ns _ hall,hlen⟩
theorem Ztd (l:OpenLaw) (args:List WData):l.row.toRowW.claim.post args (.bool true) args = true :=
 postW_of (r:=l.row.toRowW) (X:=(true == true))
  (show WShape.has [] (.bool true) .bool = true by first | rfl | decide | simp [WShape.has,WShape.arms,WShape.armsAll])
  (show (WTm.eq .res (.lit (.bool true))).value [] { args:=args,res:=some (.bool true),after:=args } = some (.bool (true == true)) from w_eq_bool (w_res rfl) w_lit) rfl
theorem attach_call {l:OpenLaw} {n:Nat} {q:Program} {loose:List Str} {XP:(Str→Option Value)→Heap→Prop} {YP:World→Heap→Prop} {d:DefRec}
  (hn:l.most = some n) (hdf:d.params.defaults = [])
  (call:∀ (w:World) (s₀ s₁:Shared) (mg mb:Str→Option Value) (fa:Addr) (o:Obj) (pm cd doc:Value) (a:Addr) (vs:List Value) (ns:List Int),
   Ground q loose [] XP w s₀ mg mb s₁.heap→YP w s₁.heap →
   s₁.heap.get? fa = some o→o.data = .func (docDef d.name d.params d.body d.scope pm cd doc)→s₁.heap.CodeRec cd d.name→mg d.name = some (.ref fa) →
   s₁.heap.get? a = some { cls:=.type "list", data:=.seq vs.toArray }→IntsAre vs ns→ns.length ≤ n→s₁.gens = #[] →
   codeAny (model l.prog w) callerA (.call (.ref fa) ⟨[.ref a],[]⟩) (fun r s'=>r = .ok (.ret (.bool true))∧OldK s₁.heap s'.heap∧s'.os = s₁.os∧AllBare s'.gens) s₁) :
  WalkO q loose XP YP l.row.toRowW d [] (fun f vs=>PySem.call f vs):=by
 intro w s₀ s₁ mg mb G Y fa o pm cd doc dV kV ho hd hcd hD hmg hg args vals as hpre hlay hrd hwl hlo
 obtain rfl:dV = .none:=Dflts.none hD hdf
 obtain rfl:kV = .none:=Dflts.noKw hD
 obtain ⟨a,vs,ns,rfl,rfl,hobj,hints,hlen⟩:=Ztx hn hpre hwl
 refine enter_call (codeAny_mono (call w s₀ s₁ mg mb fa o pm cd doc a vs ns G Y ho (fd_plain hd) hcd hmg hobj hints hlen hg) fun r s' hq=>?_)
 obtain ⟨rfl,h2,h3,h4⟩:=hq
 exact ⟨.inl ⟨.bool true,.bool true,[],rfl,fun _=>rfl,.bool true,Ztd l _,fun _=>⟨List.Pairwise.nil,fun _ hm=>(nomatch hm)⟩⟩,h2,h3,h4⟩
section
variable {prog:Program} {w:World} {A:Around} {E:Value→Shared→Prop} {s:Shared} {K:Frag}
end
end Att
namespace L2
open PySem PySem.Spec PyProof.Rows
theorem Zrv {vs:List Value} {ns:List Int} (h:IntsAre vs ns):Vals (ns.map V.int) vs:=by
 induction h with
 | nil=>exact .nil
 | cons n t h ih=>exact .cons ⟨t,rfl⟩ ih
noncomputable def Only (H:Hp):Prop:=∀ b,H b = none∨∃ o xs,H b = some (.frz o (.lst xs))
theorem Zwg {P:Program} {w:World} {K:PySem.W.Frag} {mg mb:Str→Option Value} {CX:CXT} {k:Nat} {fa a:Addr} {fd:FuncData} {x:Str} {sp:Sp} {s₁:Shared} {vs:List Value} {ns:List Int}
  (KX:K.In s₁.heap) (hns:s₁.heap.Ns mainGlobals mg) (hb:s₁.heap.Ns builtinsNs mb) (hbb:∀ x:Str,x ≠ "__name__" → mb x = bootBuiltins x) (hlim:s₁.heap.NoLimit) (hg:s₁.gens = #[])
  (ha:s₁.heap.get? a = some { cls:=.type "list", data:=.seq vs.toArray }) (hi:IntsAre vs ns) (hl:ns.length ≤ sizeLine) (hr:Room k callerA)
  (F:∀ base:Heap,K.In base→base.Ns mainGlobals mg→FnOk P w K mg base CX k fa fd [x] sp) (hbind:∀ (s:Shared) (u:Value),BindsTo s fd ⟨[u],[]⟩ [(x,u)])
  (hsp:∀ H:Hp,Only H→SqL K H a (ns.map V.int)→sp [.ref a] H (fun v _=>v = .bl true) fun _ _ _=>False)
  (hCX:∀ H e s',CX [] H s₁ (fun _ _ _=>False) e s'→False) :
  codeAny (model P w) callerA (.call (.ref fa) ⟨[.ref a],[]⟩) (fun r s'=>r = .ok (.ret (.bool true))∧OldK s₁.heap s'.heap∧s'.os = s₁.os∧AllBare s'.gens) s₁:=by
 have rv:=Zrv hi
 have lenV:=hi.length
 -- from an abstract heap in which nothing but the script may be tracked
 have core:∀ H:Hp,Only H→SqL K H a (ns.map V.int)→HOk P w H s₁.heap→(∀ b,H b ≠ none→b = a)→(H a ≠ none→K.lookup a = none) →
   codeAny (model P w) callerA (.call (.ref fa) ⟨[.ref a],[]⟩) (fun r s'=>r = .ok (.ret (.bool true))∧OldK s₁.heap s'.heap∧s'.os = s₁.os∧AllBare s'.gens) s₁:=by
  intro H hO hS hok hA hK
  have base_of:∀ {b:Addr} {o:Obj},s₁.heap.get? b = some o→H b = none→(Zvs s₁.heap H).get? b = some o:=fun e n=>Zv6 e n
  have noA:∀ {b:Addr} {o:Obj} {es:Array DictEntry} {ep:Nat},s₁.heap.get? b = some o→o.data = .dict es ep→H b = none:=fun {b o es ep} e d=>by
   cases q:H b with
   | none=>rfl
   | some u =>
    have e':b = a:=hA b (by rw [q]; simp)
    subst e'
    rw [ha] at e; cases e
    have d':Data.seq vs.toArray _ = Data.dict es ep:=d
    cases d'
  have nsK:∀ {b:Addr} {m:Str→Option Value},s₁.heap.Ns b m→(Zvs s₁.heap H).Ns b m:=fun {b m} ⟨o,es,ep,e,d,r⟩=>⟨o,es,ep,base_of e (noA e d),d,r⟩
  have hKb:K.In (Zvs s₁.heap H):=fun b o e=>base_of (KX b o e) (by
   cases q:H b with
   | none=>rfl
   | some u =>
    have e':b = a:=hA b (by rw [q]; simp)
    subst e'
    rw [hK (by rw [q]; simp)] at e; cases e)
  have hM:Mod K mg (Zvs s₁.heap H):=⟨hKb,nsK hns,⟨mb,nsK hb,hbb⟩,let ⟨mc,h1,h2⟩:=hlim; ⟨mc,nsK h1,h2⟩⟩
  have e0:Z60 P w K mg (Zvs s₁.heap H) callerA [] s₁ H:=⟨rfl,hM,fun b o e=>Z1h e,Nat.le_of_eq (Zst _ _),trivial,fun b hb=>absurd (show b ∈ ([]:List Addr) from hb) (by simp),hok,.of_eq hg⟩
  refine codeAny_mono ((F _ hKb (nsK hns)).run callerA [] s₁ H ⟨[.ref a],[]⟩ [.ref a] [.ref a] _ _ hr e0 (hbind s₁ (.ref a)) (.cons rfl .nil) (hsp H hO hS)) fun r s' h=>?_
  cases r with
  | error e=>exact (hCX H e s' h).elim
  | ok fl =>
   cases fl with
   | next=>exact False.elim h
   | brk=>exact False.elim h
   | cont=>exact False.elim h
   | ret u =>
    obtain ⟨v,H',os,bare,un,hok',r',q⟩:=h
    have q':v = .bl true:=q
    subst q'
    obtain rfl:u = Value.bool true:=r'
    refine ⟨rfl,OldK.of_keep fun b o e=>?_,os,bare⟩
    cases q:H b with
    | none=>exact un.keep b o e q (by intro z; exact absurd (show b ∈ ([]:List Addr) from z) (by simp)) (by simp)
    | some u =>
     rcases hO b with z | ⟨ob,xs,z⟩
     ·rw [q] at z; cases z
     ·have z2:=un.frzs b ob _ z
      obtain ⟨e1,_⟩:=hok b _ z
      obtain ⟨e2,_⟩:=hok' b _ z2
      rw [e] at e1; cases e1
      exact e2
 cases hk:K.lookup a with
 | some o =>
  -- the script is one of the module's own objects
  have e:=KX a o hk
  rw [ha] at e
  cases e
  refine core (fun _=>none) (fun _=>.inl rfl) (.inr ⟨_,vs.toArray,_,hk,rfl,rfl,rfl,by rw [List.size_toArray,lenV]; exact hl,by simpa using rv⟩) (fun b u z=>by have z':(none:Option HO) = some u:=z; cases z') (fun b z=>absurd rfl z) fun z=>absurd rfl z
 | none =>
  refine core (fun b=>if b = a then some (.frz { cls:=.type "list", data:=.seq vs.toArray } (.lst (ns.map V.int))) else none) (fun b=>?_) (.inl (.inr ⟨{ cls:=.type "list", data:=.seq vs.toArray },if_pos rfl⟩)) (fun b u z=>?_) (fun b z=>?_) fun _=>hk
  ·by_cases hb:b = a
   ·exact .inr ⟨_,_,if_pos hb⟩
   ·exact .inl (if_neg hb)
  ·by_cases hb:b = a
   ·have z':=(if_pos hb).symm.trans z
    cases z'
    subst hb
    exact ⟨ha,by rw [List.length_map]; exact hl,vs,_,rv,ha⟩
   ·have z':=(if_neg hb).symm.trans z
    cases z'
  ·by_cases hb:b = a
   ·exact hb
   ·exact absurd (if_neg hb) z
end L2
namespace L2
open PySem PySem.Spec PyProof.Rows
noncomputable abbrev KOf {K:PySem.W.Frag} {h:Heap} (_:K.In h):PySem.W.Frag:=K
theorem Z1p {l:PySem.W.OpenLaw} {n k:Nat} {q:Program} {loose:List Str} {XP:(Str→Option Value)→Heap→Prop} {YP:World→Heap→Prop} {d:DefRec} {K:Params→PySem.W.Frag} {CX:World→CXT} {sp:World→Sp} {x:Str}
  (hn:l.most = some n) (hn2:n ≤ sizeLine) (hdf:d.params.defaults = []) (hr:Room k callerA)
  (hY:∀ (w:World) (h:Heap),YP w h→(K w.params).In h)
  (F:∀ (w:World) (mg:Str→Option Value) (fa:Addr) (h:Heap),(K w.params).In h→h.Ns mainGlobals mg→mg d.name = some (.ref fa) →
   ∃ fd:FuncData,(∀ (s:Shared) (u:Value),BindsTo s fd ⟨[u],[]⟩ [(x,u)]) ∧
    ∀ base:Heap,(K w.params).In base→base.Ns mainGlobals mg→FnOk l.prog w (K w.params) mg base (CX w) k fa fd [x] (sp w))
  (hsp:∀ (w:World) (H:Hp) (a:Addr) (ns:List Int),ns.length ≤ n→Only H→SqL (K w.params) H a (ns.map V.int)→sp w [.ref a] H (fun v _=>v = .bl true) fun _ _ _=>False)
  (hCX:∀ (w:World) (H:Hp) (s:Shared) (e:Value) (s':Shared),CX w [] H s (fun _ _ _=>False) e s'→False) :
  PySem.W.WalkO q loose XP YP l.row.toRowW d [] (fun f vs=>PySem.call f vs):=by
 refine Att.attach_call hn hdf fun w s₀ s₁ mg mb fa o pm cd doc a vs ns G Y ho hd hcd hmg hobj hints hlen hg=>?_
 have KX:=hY w _ Y
 obtain ⟨fd,hb,hF⟩:=F w mg fa _ KX G.T.g hmg
 exact Zwg KX G.T.g G.T.b G.T.builtins G.T.nolimit hg hobj hints (Nat.le_trans hlen hn2) hr hF hb (fun H hO hS=>hsp w H a ns hlen hO hS) fun H e s'=>hCX w H s₁ e s'
end L2
namespace L2
open PySem PySem.Spec PyProof.Rows
noncomputable def Zfd (s:Stmt):Arguments:=match s with
 | .FunctionDef _ a _ _ _ _ _ _ _ _=>a
 | _=>{ posonlyargs:=[],args:=[],vararg:=none,kwonlyargs:=[],kw_defaults:=[],kwarg:=none,defaults:=[] }
noncomputable def Zb0 (s:Stmt):List Stmt:=match s with
 | .FunctionDef _ _ b _ _ _ _ _ _ _=>b
 | _=>[]
noncomputable def Zk (s:Stmt):Scope:=match s with
 | .FunctionDef _ _ _ _ _ _ sc _ _ _=>sc
 | _=>{ kind:=.function,names:=[],isGenerator:=false,isCoroutine:=false }
noncomputable abbrev CX0:CXT:=fun _ _ _ _ _ _=>False
noncomputable abbrev E0:XK:=fun _ _ _=>False
theorem Zve {X:Cx}:Ziw CX0 X E0:=fun _ _ _ _ _ _ _ h=>h.elim
structure Fun (K:PySem.W.Frag) (x qual:Str) (st:Stmt) (f:Addr) (fd:FuncData):Prop where
 ex:∃ (oc:Value) (od:Option Addr) (kV doc pm:Value) (an:Option Addr) (cdv ct:Value) (osl:Array (Option Value)),
  fd = PySem.W.fnOf x qual (Zfd st) (Zb0 st) (Zk st) .none kV doc pm an cdv ct∧K.lookup f = some ⟨oc,od,.func fd,osl⟩∧PySem.W.codeIn K cdv qual = true
 kp:PySem.W.keepIn K (.ref f) = true
section
variable {P:Program} {w:World} {K:PySem.W.Frag} {mg:Str→Option Value} {base:Heap}
theorem Fun.ok {x qual:Str} {st:Stmt} {f:Addr} {fd:FuncData} {N ps:List Str} {k:Nat} {sp:Sp} (F:Fun K x qual st f fd) (S:Zq N ps (Zk st)) (len:∀ vs H Q E,sp vs H Q E→vs.length = ps.length)
  (hbody:∀ (cdv:Value) (A:Around) (outer:List Env) (s:Shared) (H:Hp) (vs:List V) (Q:VK) (E:XK),Room k (A.deeper (envOfC qual (Zk st) s.heap.objs.size f cdv))→sp vs H Q E →
   ∃ t,PSs (Zya CX0 P w K mg base N qual (Zk st) f cdv A outer s H E).nox (Zb0 st) t∧t { nx:=fun _ H'=>Q .non H',rt:=Q } (start N vs) H):FnOk P w K mg base CX0 (k + 1) f fd ps sp:=by
 obtain ⟨oc,od,kV,doc,pm,an,cdv,ct,osl,rfl,lk,hcd⟩:=F.ex
 refine Z7x lk hcd S len fun A outer s H vs Q E hr hsp=>?_
 obtain ⟨t,h,q⟩:=hbody cdv A outer s H vs Q E hr hsp
 exact ⟨t,h.nox,q⟩
theorem Fun.binds {x qual:Str} {st:Stmt} {f:Addr} {fd:FuncData} {ps:List Str} (F:Fun K x qual st f fd)
  (h:∀ (kV doc pm:Value) (an:Option Addr) (cdv ct:Value) (us:List Value),us.length = ps.length→bindArgs (PySem.W.fnOf x qual (Zfd st) (Zb0 st) (Zk st) .none kV doc pm an cdv ct) ⟨us,[]⟩ = pure (ps.zip us)):Binds K fd ps []:=by
 obtain ⟨oc,od,kV,doc,pm,an,cdv,ct,osl,rfl,lk,hcd⟩:=F.ex
 exact .all (h kV doc pm an cdv ct)
theorem Z4t {x qual:Str} {st:Stmt} {f:Addr} {oc:Value} {od an:Option Addr} {osl:Array (Option Value)} {kV doc pm cdv ct:Value} (l:K.lookup f = some ⟨oc,od,.func (PySem.W.fnOf x qual (Zfd st) (Zb0 st) (Zk st) .none kV doc pm an cdv ct),osl⟩)
  (c:PySem.W.codeIn K cdv qual = true) (k:PySem.W.keepIn K (.ref f) = true):Fun K x qual st f (PySem.W.fnOf x qual (Zfd st) (Zb0 st) (Zk st) .none kV doc pm an cdv ct):=⟨⟨oc,od,kV,doc,pm,an,cdv,ct,osl,rfl,l,c⟩,k⟩
end
section
variable {X:Cx}
theorem pv (i:Nat) {x:Str} {pos:Pos} (hN:X.N[i]? = some x:=by rfl) (hv:Vis X.env.scope x:=by first | exact Or.inl rfl | exact Or.inr (Or.inl rfl) | exact Or.inr (Or.inr rfl)) (hd:(x == ("__debug__" : Str)) = false:=by decide)
  (hcd:(x == ("__classdict__" : Str)) = false:=by decide):PE X (.Name x pos) (Ybp i):=Zxz hN hv hd hcd
end
noncomputable def Same (H H':Hp):Prop:=∀ b o,H b = some o→H' b = some o
theorem Same.refl (H:Hp):Same H H:=fun _ _ h=>h
theorem Same.trans {H H1 H2:Hp} (a:Same H H1) (b:Same H1 H2):Same H H2:=fun c o h=>b c o (a c o h)
theorem Same.free {H H':Hp} (e:Same H H') {l:Addr} (h:H' l = Option.none):H l = Option.none:=by
 cases q:H l with
 | none=>rfl
 | some o =>
  rw [e l o q] at h
  cases h
end L2
set_option maxHeartbeats 4000000
namespace L2
open PySem PySem.Spec PyProof.Rows
noncomputable def Bt (n:Nat) (x:Int):Prop:=x.natAbs < 2 ^ n
theorem Bt.mono {m n:Nat} {x:Int} (h:Bt m x) (hn:m ≤ n):Bt n x:=Nat.lt_of_lt_of_le h (Nat.pow_le_pow_right (by decide) hn)
theorem Bt.mul {m n:Nat} {x y:Int} (h:Bt m x) (k:Bt n y):Bt (m + n) (x * y):=by
 unfold Bt at *
 rw [Int.natAbs_mul,Nat.pow_add]
 exact Nat.mul_lt_mul'' h k
theorem Bt.neg {m:Nat} {x:Int} (h:Bt m x):Bt m (-x):=by
 unfold Bt at *
 rw [Int.natAbs_neg]
 exact h
theorem Bt.add {m n:Nat} {x y:Int} (h:Bt m x) (k:Bt n y):Bt (m + n + 1) (x + y):=by
 unfold Bt at *
 have h1:2 ^ m ≤ 2 ^ (m + n):=Nat.pow_le_pow_right (by decide) (by omega)
 have h2:2 ^ n ≤ 2 ^ (m + n):=Nat.pow_le_pow_right (by decide) (by omega)
 have h3:2 ^ (m + n + 1) = 2 * 2 ^ (m + n):=by rw [Nat.pow_succ]; omega
 have h4:=Int.natAbs_add_le x y
 omega
theorem Bt.of_le {m:Nat} {x y:Int} (h:Bt m x) (k:y.natAbs ≤ x.natAbs):Bt m y:=Nat.lt_of_le_of_lt k h
theorem Bt.of_lt {m:Nat} {x:Int} (h1:-(2 ^ m) < x) (h2:x < 2 ^ m):Bt m x:=by
 unfold Bt
 have e:((2 ^ m:Nat):Int) = 2 ^ m:=by simp
 omega
theorem Bt.bits {m:Nat} {x:Int} (h:Bt m x):Builtin.Int.intBits x ≤ m:=by
 unfold Builtin.Int.intBits
 split
 ·exact Nat.zero_le _
 ·rename_i hx
  have hp:x.natAbs ≠ 0:=by
   intro e
   apply hx
   have:x = 0:=by omega
   subst this
   rfl
  have:=(Nat.log2_lt hp).mpr h
  omega
theorem Bt.mulOk {m n:Nat} {x y:Int} (h:Bt m x) (k:Bt n y) (hmn:m + n ≤ 100000000:=by decide):IntMulOk x y:=by
 have h1:=h.bits
 have h2:=k.bits
 have h3:Builtin.Int.intTooBig (Builtin.Int.intBits x + Builtin.Int.intBits y) = false:=by
  unfold Builtin.Int.intTooBig bitsLine
  exact decide_eq_false (by omega)
 unfold IntMulOk
 rw [h3]
 simp
noncomputable def DivOk (_ j:Int):Prop:=j ≠ 0∧j.natAbs.log2 < 9000
theorem DivOk.of {i j:Int} {n:Nat} (h0:j ≠ 0) (h:Bt n j) (hn:n ≤ 9000:=by decide):DivOk i j:=by
 refine ⟨h0,?_⟩
 have hp:j.natAbs ≠ 0:=by omega
 have:=(Nat.log2_lt hp).mpr h
 omega
section
variable {X:Cx}
theorem Zyw:OpR X (binaryOp .Mult) (rI IntMulOk fun i j=>.int (i * j)):=opI fun _ _ _ _ _ _ _ hc q=>mul_int q hc
theorem Zvq:OpR X (binaryOp .FloorDiv) (rI DivOk fun i j=>.int (i.fdiv j)):=opI fun _ _ _ _ _ _ _ hc q=>floordiv_int hc.1 q (.inl (PyProof.noPylong_of_log2 hc.2))
theorem Z0i:OpR X (binaryOp .Pow) (rI Z6r fun i j=>.int (i ^ j.toNat)):=Z5r
end
theorem Zid (elt target iter:Expr) (ifs:List Expr) (scope:Scope) (pos:Pos) (it acc:Value) (env:Env) :
  compTurn (.ListComp elt [⟨target,iter,ifs,0⟩] scope pos) 0 it acc env = (standAt iter.pos >>= fun _=>pyNext it >>= fun r=>match r with
   | none=>pure (.done .next)
   | some v=>letOwnedTupleGo target it v >>= fun _=>assign target env v >>= fun _ =>
    (forIn ifs true fun c r=>if r = true then do let ok ← isTrue c env (eval c env); pure (ForInStep.yield ok) else pure (ForInStep.yield r)) >>= fun ok =>
     if ok = true then ((eval elt env >>= fun x=>call (.builtin "list.append") [acc,x] >>= fun _=>pure ()) >>= fun _ =>
      again (.compLoop (.ListComp elt [⟨target,iter,ifs,0⟩] scope pos) 0 it acc env))
     else again (.compLoop (.ListComp elt [⟨target,iter,ifs,0⟩] scope pos) 0 it acc env)):=by rfl
end L2
namespace L2
open PySem PySem.Spec PyProof.Rows
theorem Zl3 {prog:Program} {w:World} {A:Around} {R:Result→Shared→Prop} {s:Shared} {elt target iter:Expr} {ifs:List Expr} {scope:Scope} {pos:Pos} {it acc:Value} {env:Env} (I:Nat→Shared→Prop)
  (turn:∀ n s,I n s→wpAny (model prog w) A (pyNext it) (fun r s₁=>match r with
   | none=>R (.ok .next) s₁
   | some v=>wpAny (model prog w) A (letOwnedTupleGo target it v) (fun _ s₁=>wpAny (model prog w) A (assign target env v) (fun _ s₂ =>
     wpAny (model prog w) A (forIn ifs true fun c r=>if r = true then do let ok ← isTrue c env (eval c env); pure (ForInStep.yield ok) else pure (ForInStep.yield r)) (fun ok s₃ =>
      if ok = true then wpAny (model prog w) A (eval elt env) (fun x s₄ =>
       wpAny (model prog w) A (call (.builtin "list.append") [acc,x]) (fun _ s₅=>∃ m,m < n∧I m s₅) (notedBy (model prog w) A env fun e s'=>R (.error e) s') s₄) (notedBy (model prog w) A env fun e s'=>R (.error e) s') s₃
      else ∃ m,m < n∧I m s₃) (notedBy (model prog w) A env fun e s'=>R (.error e) s') s₂) (notedBy (model prog w) A env fun e s'=>R (.error e) s') s₁) (notedBy (model prog w) A env fun e s'=>R (.error e) s') s₁) (notedBy (model prog w) A env fun e s'=>R (.error e) s') s)
  (n:Nat) (h:I n s) :
  codeAny (model prog w) A (.compLoop (.ListComp elt [⟨target,iter,ifs,0⟩] scope pos) 0 it acc env) R s:=by
 refine codeAny_loop rfl I (fun n s hI=>?_) n h
 show wpAny _ A ((compTurn (.ListComp elt [⟨target,iter,ifs,0⟩] scope pos) 0 it acc env).onRaise (fun x=>do noteFrame x env; theTreesLotGoes x)) _ _ s
 refine wpAny_noted ?_
 rw [Zid]
 refine wpAny_bind (wpAny_standAt (wpAny_bind (wpAny_mono (turn n s hI) (fun r s₁ h₁=>?_) fun _ _ h'=>h')))
 cases r with
 | none=>exact wpAny_pure h₁
 | some v =>
  refine wpAny_bind (wpAny_mono h₁ (fun _ s₂ h₂=>?_) fun _ _ h'=>h')
  refine wpAny_bind (wpAny_mono h₂ (fun _ s₂ h₂=>wpAny_bind (wpAny_mono h₂ (fun ok s₃ h₃=>?_) fun _ _ h'=>h')) fun _ _ h'=>h')
  cases ok with
  | false=>exact wpAny_pure ⟨rfl,h₃⟩
  | true =>
   exact wpAny_bind (wpAny_bind (wpAny_mono h₃ (fun x s₄ h₄=>wpAny_bind (wpAny_mono h₄ (fun _ s₅ h₅=>wpAny_pure (wpAny_pure ⟨rfl,h₅⟩)) fun _ _ h'=>h')) fun _ _ h'=>h'))
noncomputable def Zhr (env:Env):List (Str × NameKind)→List (Str × Addr)→List (Str × Addr)
 | [],acc=>acc
 | (n,k) :: r,acc=>if k == .free then Zhr env r ((n,(env.cells.lookup n).getD 0) :: acc) else Zhr env r acc
theorem Zi5 {env:Env}:∀ (names:List (Str × NameKind)) (acc:List (Str × Addr)),(∀ y ∈ names,y.2 = .free→∃ c,env.cells.lookup y.1 = some c) →
  (forIn names acc (fun (y:Str × NameKind) cs=>(if y.2 == .free then (cellOf env y.1 >>= fun c=>pure (ForInStep.yield ((y.1,c) :: cs))) else pure (ForInStep.yield cs):Sem (ForInStep (List (Str × Addr)))))) = pure (Zhr env names acc)
 | [],acc,_=>by rw [List.forIn_nil]; rfl
 | (n,k) :: r,acc,h=>by
  by_cases hk:k = .free
  ·subst hk
   obtain ⟨c,hc⟩:=h (n,.free) (.head _) rfl
   have hc':env.cells.lookup n = some c:=hc
   have e:=Zi5 (env:=env) r ((n,c) :: acc) fun y hy=>h y (.tail _ hy)
   have ec:cellOf env n = pure c:=by
    unfold cellOf
    rw [hc']
   rw [List.forIn_cons]
   simp only [beq_self_eq_true,if_true]
   rw [ec]
   simp only [Zhr,beq_self_eq_true,if_true,hc',Option.getD_some]
   exact e
  ·have e:=Zi5 (env:=env) r acc fun y hy=>h y (.tail _ hy)
   have hb:(k == NameKind.free) = false:=by simpa using hk
   rw [List.forIn_cons]
   simp only [Zhr,hb,Bool.false_eq_true,if_false]
   exact e
theorem Zdr {scope:Scope} {env:Env} (h:∀ y ∈ scope.names,y.2 = .free→∃ c,env.cells.lookup y.1 = some c):closureFor scope env = pure (Zhr env scope.names []):=by
 have e:=Zi5 scope.names [] h
 have e':(forIn scope.names ([]:List (Str × Addr)) (fun (y:Str × NameKind) cs=>(match y with | (name,kind)=>do
   if kind == .free then do let a ← cellOf env name; pure (ForInStep.yield ((name,a) :: cs)) else pure (ForInStep.yield cs):Sem (ForInStep (List (Str × Addr)))))) = pure (Zhr env scope.names []):=e
 exact congrArg (fun (m:Sem (List (Str × Addr)))=>m >>= fun x=>pure x) e'
theorem Zjq {env:Env}:∀ (names:List (Str × NameKind)) (acc:List (Str × Addr)),(∀ y ∈ names,y.2 = .free→∃ c,env.cells.lookup y.1 = some c) →
  ∀ n c,(n,c) ∈ Zhr env names acc→(n,c) ∈ acc∨((n,NameKind.free) ∈ names∧env.cells.lookup n = some c)
 | [],acc,_,n,c,h=>.inl h
 | (m,k) :: r,acc,h,n,c,hm=>by
  by_cases hk:k = .free
  ·subst hk
   obtain ⟨d,hd⟩:=h (m,.free) (.head _) rfl
   have hd':env.cells.lookup m = some d:=hd
   simp only [Zhr,beq_self_eq_true,if_true,hd',Option.getD_some] at hm
   rcases Zjq r _ (fun y hy=>h y (.tail _ hy)) n c hm with z | ⟨z1,z2⟩
   ·rcases List.mem_cons.mp z with z | z
    ·cases z; exact .inr ⟨.head _,hd'⟩
    ·exact .inl z
   ·exact .inr ⟨.tail _ z1,z2⟩
  ·have hb:(k == NameKind.free) = false:=by simpa using hk
   simp only [Zhr,hb,Bool.false_eq_true,if_false] at hm
   refine (Zjq r _ (fun y hy=>h y (.tail _ hy)) n c hm).imp id fun qz9=>?_
   obtain ⟨z1,z2⟩:=qz9
   exact ⟨.tail _ z1,z2⟩
theorem Zjn {env:Env}:∀ (names:List (Str × NameKind)) (acc:List (Str × Addr)),∀ p ∈ acc,p ∈ Zhr env names acc
 | [],_,_,h=>h
 | (m,k) :: r,acc,p,h=>by
  unfold Zhr
  split
  ·exact Zjn r _ p (.tail _ h)
  ·exact Zjn r _ p h
theorem Zja {env:Env}:∀ (names:List (Str × NameKind)) (acc:List (Str × Addr)) (n:Str),(n,NameKind.free) ∈ names→∃ c,(n,c) ∈ Zhr env names acc
 | [],_,_,h=>nomatch h
 | (m,k) :: r,acc,n,h=>by
  rcases List.mem_cons.mp h with z | z
  ·cases z
   exact ⟨_,by
    simp only [Zhr,beq_self_eq_true,if_true]
    exact Zjn _ _ _ (.head _)⟩
  ·unfold Zhr
   split
   ·exact Zja r _ n z
   ·exact Zja r _ n z
theorem Ze1 {env:Env} (inj:∀ x y c,env.cells.lookup x = some c→env.cells.lookup y = some c→x = y):∀ (names:List (Str × NameKind)) (acc:List (Str × Addr)),
  (∀ y ∈ names,y.2 = .free→∃ c,env.cells.lookup y.1 = some c)→(names.map (·.1)).Nodup→(∀ p ∈ acc,env.cells.lookup p.1 = some p.2)→(∀ p ∈ acc,p.1 ∉ names.map (·.1))→(acc.Pairwise fun x y=>x.2 ≠ y.2) →
  (Zhr env names acc).Pairwise fun x y=>x.2 ≠ y.2
 | [],_,_,_,_,_,h=>h
 | (m,k) :: r,acc,hf,hn,ha,hd,hp=>by
  rw [List.map_cons,List.nodup_cons] at hn
  have hf':∀ y ∈ r,y.2 = .free→∃ c,env.cells.lookup y.1 = some c:=fun y hy=>hf y (.tail _ hy)
  have hd':∀ p ∈ acc,p.1 ∉ r.map (·.1):=fun p hp z=>hd p hp (by rw [List.map_cons]; exact .tail _ z)
  by_cases hk:k = .free
  ·subst hk
   obtain ⟨d,hd0⟩:=hf (m,.free) (.head _) rfl
   have hd1:env.cells.lookup m = some d:=hd0
   simp only [Zhr,beq_self_eq_true,if_true,hd1,Option.getD_some]
   refine Ze1 inj r _ hf' hn.2 (fun p hp'=>?_) (fun p hp'=>?_) (List.pairwise_cons.mpr ⟨fun p hp' z=>?_,hp⟩)
   ·rcases List.mem_cons.mp hp' with rfl | hp'
    ·exact hd1
    ·exact ha p hp'
   ·rcases List.mem_cons.mp hp' with rfl | hp'
    ·exact hn.1
    ·exact hd' p hp'
   ·have e:m = p.1:=inj m p.1 d hd1 (by rw [ha p hp',← z])
    exact hd p hp' (by rw [List.map_cons,← e]; exact .head _)
  ·have hb:(k == NameKind.free) = false:=by simpa using hk
   simp only [Zhr,hb,Bool.false_eq_true,if_false]
   exact Ze1 inj r _ hf' hn.2 ha hd' hp
structure Zpg (h:Heap) (lo:Nat) (names:List (Str × NameKind)) (acc cs:List (Str × Addr)):Prop where
 mem:∀ n c,(n,c) ∈ cs→(n,c) ∈ acc∨(h.IsCell c none∧lo ≤ c∧(n,NameKind.cell) ∈ names)
 has:∀ n,(n,NameKind.cell) ∈ names→∃ c,(n,c) ∈ cs
 old:∀ p ∈ acc,p ∈ cs
theorem Zfo:∀ (names:List (Str × NameKind)) (h:Heap) (lo:Nat) (acc:List (Str × Addr)),lo ≤ h.objs.size→Zpg (pushCells h names) lo names acc (cellsFrom h.objs.size names acc)
 | [],_,_,_,_=>⟨fun _ _ m=>.inl m,(fun _ m=>nomatch m),fun _ m=>m⟩
 | (name,kind) :: r,h,lo,acc,hlo=>by
  by_cases hk:(kind == NameKind.cell) = true
  ·have ek:kind = .cell:=by simpa using hk
   subst ek
   have ih:=Zfo r (h.push { cls:=.type "cell", data:=.cell none }) lo ((name,h.objs.size) :: acc) (by rw [Heap.size_push]; omega)
   rw [Heap.size_push] at ih
   have e1:cellsFrom h.objs.size ((name,.cell) :: r) acc = cellsFrom (h.objs.size + 1) r ((name,h.objs.size) :: acc):=by
    rw [cellsFrom,if_pos hk]
   have e2:pushCells h ((name,.cell) :: r) = pushCells (h.push { cls:=.type "cell", data:=.cell none }) r:=by
    rw [pushCells,if_pos hk]
   rw [e1,e2]
   refine ⟨fun n c m=>?_,fun n m=>?_,fun p m=>ih.old p (.tail _ m)⟩
   ·rcases ih.mem n c m with z | ⟨z1,z2,z3⟩
    ·rcases List.mem_cons.mp z with z | z
     ·cases z
      exact .inr ⟨⟨_,pushCells_keeps _ _ _ _ (Heap.get?_push_size _ rfl),rfl⟩,hlo,.head _⟩
     ·exact .inl z
    ·exact .inr ⟨z1,z2,.tail _ z3⟩
   ·rcases List.mem_cons.mp m with z | z
    ·cases z
     exact ⟨_,ih.old _ (.head _)⟩
    ·exact ih.has n z
  ·have ih:=Zfo r h lo acc hlo
   have e1:cellsFrom h.objs.size ((name,kind) :: r) acc = cellsFrom h.objs.size r acc:=by
    rw [cellsFrom,if_neg hk]
   have e2:pushCells h ((name,kind) :: r) = pushCells h r:=by
    rw [pushCells,if_neg hk]
   rw [e1,e2]
   refine ⟨fun n c m=>(ih.mem n c m).imp id fun ⟨z1,z2,z3⟩=>⟨z1,z2,.tail _ z3⟩,fun n m=>?_,ih.old⟩
   rcases List.mem_cons.mp m with z | z
   ·cases z
    exact absurd rfl hk
   ·exact ih.has n z
theorem Zhg (names:List (Str × NameKind)):∀ (h:Heap) (acc:List (Str × Addr)),(acc.Pairwise fun x y=>x.2 ≠ y.2)→(∀ p ∈ acc,p.2 < h.objs.size)→(cellsFrom h.objs.size names acc).Pairwise fun x y=>x.2 ≠ y.2:=by
 induction names with
 | nil=>intro h acc ha _; exact ha
 | cons y r ih =>
  intro h acc ha hb
  obtain ⟨name,kind⟩:=y
  unfold cellsFrom
  split
  ·have:=ih (h.push { cls:=.type "cell", data:=.cell none }) ((name,h.objs.size) :: acc) (List.pairwise_cons.mpr ⟨fun p hp=>Nat.ne_of_gt (hb p hp),ha⟩) (fun p hp=>by
    rw [Heap.size_push]
    rcases List.mem_cons.mp hp with rfl | hp
    ·exact Nat.lt_succ_self _
    ·exact Nat.lt_succ_of_lt (hb p hp))
   rwa [Heap.size_push] at this
  ·exact ih h acc ha hb
theorem Zh2 {M:Model} {A:Around} {E:Value→Shared→Prop} {s:Shared} {scope:Scope} {globals:Addr} {cl:List (Str × Addr)} {qual:Str} {env:Env} {Q:Env→Shared→Prop}
  (hQ:Q (newEnv scope s.heap.objs.size globals (cellsFrom (s.heap.objs.size + 1) scope.names cl) qual none .none (some env) builtinsNs)
   { s with heap:=pushCells (s.heap.push { cls:=.type "dict", data:=.dict #[] }) scope.names }) :
  wpAny M A (newFunctionEnv scope globals cl [] qual none .none (some env)) Q E s:=by
 simp only [newFunctionEnv,Option.isSome_some,if_true]
 refine wpAny_bind (wpAny_alloc ?_)
 refine wpAny_bind (wpAny_layCells _ (fun name kind cells=>by cases hkc:kind == NameKind.cell <;> simp [hkc]) _ _ _ _ ?_)
 rw [show ({ s with heap:=s.heap.push { cls:=.type "dict", data:=.dict #[] } }:Shared).heap.objs.size = s.heap.objs.size + 1 from Heap.size_push ..]
 rw [List.forIn_nil]
 exact wpAny_bind (wpAny_pure (wpAny_pure hQ))
end L2
namespace L2
open PySem PySem.Spec PyProof.Rows
noncomputable def Yv (X:Cx) (N':List Str) (sc:Scope) (C:Addr) (cells:List (Str × Addr)) (s₂:Shared) (H₂:Hp) (fp:List Addr):Cx :=
 { X with N:=N',s₀:=s₂,H₀:=H₂,env:=compEnvC sc cells C X.env,outer:=X.stack,stack:=X.stack,ex:=fp,fn:=fun x=>sc.names.lookup x == some .cell,pn:=[],xe:=fun _ _=>False }
theorem Zds {env:Env}:∀ {names:List (Str × NameKind)} {x:Str} {k:NameKind},names.lookup x = some k →
  (names.map fun (n,k)=>if (k == NameKind.free && env.scope.kind == .function && env.kindOf n == some .cell) then (n,NameKind.cell) else (n,k)).lookup x =
   some (if (k == NameKind.free && env.scope.kind == .function && env.kindOf x == some .cell) then NameKind.cell else k)
 | [],_,_,h=>by simp at h
 | (n,k') :: r,x,k,h=>by
  have ih:=@Zds env r x k
  show List.lookup x ((if (k' == NameKind.free && env.scope.kind == .function && env.kindOf n == some .cell) = true then (n,NameKind.cell) else (n,k')) :: _) = _
  cases hx:x == n with
  | true =>
   simp only [List.lookup_cons,hx] at h
   cases h
   have e:=beq_iff_eq.mp hx
   subst e
   split <;> simp [List.lookup_cons]
  | false =>
   simp only [List.lookup_cons,hx] at h
   split
   ·simp only [List.lookup_cons,hx]; exact ih h
   ·simp only [List.lookup_cons,hx]; exact ih h
theorem Zf2 {env:Env}:∀ {names:List (Str × NameKind)} {x:Str},names.lookup x = none →
  (names.map fun (n,k)=>if (k == NameKind.free && env.scope.kind == .function && env.kindOf n == some .cell) then (n,NameKind.cell) else (n,k)).lookup x = none
 | [],_,_=>rfl
 | (n,k') :: r,x,h=>by
  have ih:=@Zf2 env r x
  show List.lookup x ((if (k' == NameKind.free && env.scope.kind == .function && env.kindOf n == some .cell) = true then (n,NameKind.cell) else (n,k')) :: _) = _
  cases hx:x == n with
  | true =>
   simp only [List.lookup_cons,hx] at h
   cases h
  | false =>
   simp only [List.lookup_cons,hx] at h
   split
   ·simp only [List.lookup_cons,hx]; exact ih h
   ·simp only [List.lookup_cons,hx]; exact ih h
theorem Zeq {α:Type}:∀ {l:List (Str × α)} {n:Str} {c:α},(l.map (·.1)).Nodup→(n,c) ∈ l→l.lookup n = some c
 | (k,v) :: r,n,c,hd,h=>by
  rw [List.map_cons,List.nodup_cons] at hd
  rcases List.mem_cons.mp h with e | hr
  ·cases e
   simp [List.lookup_cons]
  ·have hne:(n == k) = false:=by
    refine Bool.eq_false_iff.mpr fun z=>hd.1 ?_
    have e:n = k:=beq_iff_eq.mp z
    rw [← e]
    exact List.mem_map.mpr ⟨(n,c),hr,rfl⟩
   rw [List.lookup_cons,hne]
   exact Zeq hd.2 hr
theorem Yp {α:Type}:∀ {l:List (Str × α)} {n:Str} {c:α},(n,c) ∈ l→∃ d,l.lookup n = some d∧(n,d) ∈ l
 | (k,v) :: r,n,c,h=>by
  by_cases e:n = k
  ·subst e
   exact ⟨v,by simp [List.lookup_cons],List.mem_cons_self⟩
  ·have hne:(n == k) = false:=by simpa using e
   rcases List.mem_cons.mp h with z | z
   ·cases z; exact absurd rfl e
   ·obtain ⟨d,h1,h2⟩:=Yp z
    exact ⟨d,by rw [List.lookup_cons,hne]; exact h1,.tail _ h2⟩
structure CompScope (X:Cx) (own:List Str) (caps:List Nat) (N':List Str) (sc:Scope):Prop where
 kind:sc.kind = .function
 nd:N'.Nodup
 names:N' = own ++ caps.map fun i=>X.N.getD i Str.empty
 nn:(sc.names.map (·.1)).Nodup
 free:(sc.names.all fun y=>y.2 != .free || (X.env.kindOf y.1 == some .cell || X.env.kindOf y.1 == some .free)) = true
 caps:(caps.all fun i=>sc.names.lookup (X.N.getD i Str.empty) == some .free) = true
noncomputable def J7 (own:List Str) (caps:List Nat) (σ:St):St:=own.map (fun _=>none) ++ caps.map fun i=>(σ[i]?).getD none
section
variable {X:Cx} {own:List Str} {caps:List Nat} {N':List Str} {sc:Scope}
theorem CompScope.lk (S:CompScope X own caps N' sc) {n:Str} {k:NameKind} (h:(n,k) ∈ sc.names):sc.names.lookup n = some k:=Zeq S.nn h
theorem CompScope.fr (S:CompScope X own caps N' sc) {n:Str} (h:(n,NameKind.free) ∈ sc.names):X.env.kindOf n = some .cell∨X.env.kindOf n = some .free:=by
 have:=List.all_eq_true.mp S.free _ h
 simpa using this
theorem Zpm {pins:List (Addr × Obj)} {σ:St} {H:Hp} {s:Shared} {fp:List Addr} {cl:List (Str × Addr)} (S:CompScope X own caps N' sc) (I:Inv X pins σ H s)
  (f:∀ b ∈ fp,Zi2 X pins H b) (fo:∀ b ∈ fp,∃ o,s.heap.get? b = some o)
  (hcl:∀ n c,(n,c) ∈ cl→(n,NameKind.free) ∈ sc.names∧X.env.cells.lookup n = some c) (hcl2:∀ n,(n,NameKind.free) ∈ sc.names→∃ c,(n,c) ∈ cl) (hapart:cl.Pairwise fun x y=>x.2 ≠ y.2) :
  Inv (Yv X N' sc (s.heap.objs.size + 1) (cellsFrom (s.heap.objs.size + 2) sc.names cl) s H fp) [] (J7 own caps σ) (upd H s.heap.objs.size (.lst []))
   { s with heap:=pushCells ((s.heap.push { cls:=.type "list", data:=.seq #[] }).push { cls:=.type "dict", data:=.dict #[] }) sc.names }:=by
 generalize hh1:s.heap.push { cls:=.type "list", data:=.seq #[] } = h1
 have z1:h1.objs.size = s.heap.objs.size + 1:=by rw [← hh1,Heap.size_push]
 generalize hh2:h1.push { cls:=.type "dict", data:=.dict #[] } = h2
 have z2:h2.objs.size = s.heap.objs.size + 2:=by rw [← hh2,Heap.size_push,z1]
 have BC:=Zfo sc.names h2 (s.heap.objs.size + 2) cl (by omega)
 have AP:=Zhg sc.names h2 cl hapart (fun p hp=>by
  obtain ⟨v,hv⟩:=I.cell p.1 p.2 (hcl p.1 p.2 hp).2
  exact Nat.lt_of_lt_of_le hv.lt (by omega))
 rw [z2] at BC AP
 have keep:∀ b o,s.heap.get? b = some o→(pushCells h2 sc.names).get? b = some o:=fun b o e=>pushCells_keeps _ _ _ _ (by
  rw [← hh2]
  refine Heap.get?_push_of_some _ ?_
  rw [← hh1]
  exact Heap.get?_push_of_some _ e)
 have hD:(pushCells h2 sc.names).get? s.heap.objs.size = some { cls:=.type "list", data:=.seq #[] }:=pushCells_keeps _ _ _ _ (by
  rw [← hh2]
  refine Heap.get?_push_of_some _ ?_
  rw [← hh1]
  exact Heap.get?_push_size _ rfl)
 have hC:(pushCells h2 sc.names).Ns (s.heap.objs.size + 1) (fun _=>none):=by
  refine Heap.Ns.keeps ?_ (pushCells_keeps _ _)
  have:=Heap.Ns.new h1 (.type "dict")
  rw [hh2,z1] at this
  exact this
 have cellOld:∀ n c,X.env.cells.lookup n = some c→c < s.heap.objs.size:=fun n c e=>by
  obtain ⟨v,hv⟩:=I.cell n c e
  exact hv.lt
 have lk':∀ n c,(cellsFrom (s.heap.objs.size + 2) sc.names cl).lookup n = some c→(n,c) ∈ cellsFrom (s.heap.objs.size + 2) sc.names cl:=fun n c e=>PySem.mem_of_lookup e
 have hnD:H s.heap.objs.size = none:=I.fresh
 have fresh:∀ c,s.heap.objs.size < c→upd H s.heap.objs.size (.lst []) c = none:=fun c hc=>by
  rw [Zy (Nat.ne_of_gt hc)]
  exact I.hok.fresh (Nat.le_of_lt hc)
 have isc:∀ n c,(n,c) ∈ cellsFrom (s.heap.objs.size + 2) sc.names cl→∃ v,(pushCells h2 sc.names).IsCell c v:=fun n c m=>by
  rcases BC.mem n c m with z | ⟨z,_⟩
  ·obtain ⟨v,hv⟩:=I.cell n c (hcl n c z).2
   exact ⟨v,hv.keeps keep⟩
  ·exact ⟨none,z⟩
 have okH:HOk X.prog X.w (upd H s.heap.objs.size (.lst [])) (pushCells h2 sc.names):=by
  refine I.hok.laid keep (Nat.le_refl _) ?_
  exact ⟨Nat.zero_le _,[],0,.nil,hD⟩
 have kinds:∀ x k,sc.names.lookup x = some k→(relabel sc X.env).names.lookup x = some (if (k == NameKind.free && X.env.scope.kind == .function && X.env.kindOf x == some .cell) then NameKind.cell else k):=fun x k e=>Zds e
 have kindsR:∀ x k,(relabel sc X.env).names.lookup x = some k→∃ k',(x,k') ∈ sc.names∧k = (if (k' == NameKind.free && X.env.scope.kind == .function && X.env.kindOf x == some .cell) then NameKind.cell else k'):=fun x k e=>by
  cases q:sc.names.lookup x with
  | none =>
   have:=Zf2 (env:=X.env) q
   rw [show (relabel sc X.env).names.lookup x = _ from this] at e
   cases e
  | some k' =>
   refine ⟨k',PySem.mem_of_lookup q,?_⟩
   rw [kinds x k' q] at e
   exact (Option.some.inj e).symm
 refine ⟨⟨I.ok.mod,S.kind,I.ok.glob,I.ok.blt,?_,?_,?_,?_,I.ok.hd,I.ok.frames,.inl rfl,?_,?_,?_,?_,?_,?_,?_⟩,rfl,I.bare,?_,?_,?_,?_,?_,(fun p hp=>nomatch hp),okH,?_⟩
 ·show s.heap.objs.size ≤ s.heap.objs.size + 1; omega
 ·intro x y c e1 e2
  exact name_of_addr AP (lk' x c e1) (lk' y c e2)
 ·intro x hx
  rcases hx with hx | hx
  ·obtain ⟨k',hm,hk'⟩:=kindsR x _ hx
   cases k' with
   | cell =>
    obtain ⟨c,hc⟩:=BC.has x hm
    obtain ⟨d,h1,_⟩:=Yp hc
    exact ⟨d,h1⟩
   | free =>
    obtain ⟨c,hc⟩:=hcl2 _ hm
    obtain ⟨d,h1,_⟩:=Yp (BC.old _ hc)
    exact ⟨d,h1⟩
   | _=>simp at hk'
  ·obtain ⟨k',hm,hk'⟩:=kindsR x _ hx
   cases k' with
   | free =>
    obtain ⟨c,hc⟩:=hcl2 _ hm
    obtain ⟨d,h1,_⟩:=Yp (BC.old _ hc)
    exact ⟨d,h1⟩
   | _=>simp at hk'
 ·intro x c hf e
  have hf':sc.names.lookup x = some .cell:=by simpa [Yv] using hf
  rcases BC.mem x c (lk' x c e) with z | ⟨_,z,_⟩
  ·-- a free one and a cell at once: the name stands once
   exfalso
   have q:=S.lk (hcl x c z).1
   rw [hf'] at q
   cases q
  ·show s.heap.objs.size ≤ c; omega
 ·intro b hb
  obtain ⟨o,ho⟩:=fo b hb
  have hlt:=Heap.lt_size ho
  refine ⟨Nat.ne_of_lt (Nat.lt_trans hlt (Nat.lt_succ_self _)),fun x c e z=>?_⟩
  rcases BC.mem x c (lk' x c e) with q | ⟨_,q,_⟩
  ·exact (f b hb).2.2.2.2.1 x c (hcl x c q).2 z
  ·subst z
   exact absurd hlt (Nat.not_lt.mpr (Nat.le_trans (Nat.le_add_right _ 2) q))
 ·exact I.bs
 ·exact Nat.le_trans I.ok.bsz I.sz
 ·intro b o e hb
  rcases (f b hb).2.2.2.1 with z | z
  ·exact I.ok.noex b o e z
  ·exact absurd (Nat.lt_of_lt_of_le (Heap.lt_size e) I.ok.bsz) (Nat.not_lt.mpr z)
 ·intro b hb z
  rcases List.mem_cons.mp (I.stkSub b z) with q | q
  ·exact (f b hb).2.1 q
  ·exact (f b hb).2.2.1 q
 ·exact I.stack
 ·exact I.stkFree
 ·exact Un.laid keep (Nat.le_refl _) hnD
 ·refine ⟨_,hC,fun i x v e1 e2 e3=>?_⟩
  have e1':(own ++ caps.map fun i=>X.N.getD i Str.empty)[i]? = some x:=by rw [← S.names]; exact e1
  have e2':(own.map (fun _=>(none:Option V)) ++ caps.map fun i=>(σ[i]?).getD none)[i]? = some (some v):=e2
  by_cases hi:i < own.length
  ·rw [List.getElem?_append_left (by simpa using hi),List.getElem?_map] at e2'
   cases q:own[i]? with
   | none=>rw [q] at e2'; cases e2'
   | some y=>rw [q] at e2'; cases e2'
  ·rw [List.getElem?_append_right (by simpa using hi),List.getElem?_map] at e2'
   rw [List.getElem?_append_right (by omega),List.getElem?_map] at e1'
   rw [List.length_map] at e2'
   cases q:caps[i - own.length]? with
   | none=>rw [q] at e2'; cases e2'
   | some j =>
    rw [q] at e1' e2'
    have e1:X.N.getD j Str.empty = x:=Option.some.inj e1'
    have e2:(σ[j]?).getD none = some v:=Option.some.inj e2'
    have e4:σ[j]? = some (some v):=by
     cases r:σ[j]? with
     | none=>rw [r] at e2; cases e2
     | some o=>rw [r] at e2; exact congrArg some e2
    have hj:j < X.N.length:=by rw [← I.len]; exact (List.getElem?_eq_some_iff.mp e4).1
    have e5:X.N[j]? = some x:=by rw [← e1]; simp [List.getD_eq_getElem?_getD,hj]
    have hc:=List.all_eq_true.mp S.caps j (List.mem_of_getElem? q)
    have e6:sc.names.lookup x = some .free:=by rw [← e1]; simpa using hc
    have hm:=PySem.mem_of_lookup e6
    have kx:=S.fr hm
    obtain ⟨m,hn,hl⟩:=I.loc
    obtain ⟨u,ru,lo⟩:=hl j x v e5 e4 (by rcases kx with z | z; exact .inr (.inl z); exact .inr (.inr z))
    refine ⟨u,ru,.inr ⟨?_,?_⟩⟩
    ·have:=kinds x _ e6
     show (relabel sc X.env).names.lookup x = _∨(relabel sc X.env).names.lookup x = _
     rw [this]
     split
     ·exact .inl rfl
     ·exact .inr rfl
    ·rcases lo with ⟨z,_⟩ | ⟨_,c,hc1,hc2⟩
     ·rcases kx with w | w <;> (rw [w] at z; cases z)
     ·obtain ⟨d,hd⟩:=hcl2 x hm
      obtain ⟨d',h1,h2⟩:=Yp (BC.old _ hd)
      refine ⟨d',h1,?_⟩
      rcases BC.mem x d' h2 with w | ⟨_,_,w⟩
      ·have w':=(hcl x d' w).2
       rw [hc1] at w'
       cases w'
       exact hc2.keeps keep
      ·have:=S.lk w
       rw [e6] at this
       cases this
 ·intro x c e
  exact isc x c (lk' x c e)
 ·exact fresh _ (Nat.lt_succ_self _)
 ·intro x c e
  rcases BC.mem x c (lk' x c e) with z | ⟨_,z,_⟩
  ·have e':=(hcl x c z).2
   have hlt:=cellOld x c e'
   rw [Zy (Nat.ne_of_lt hlt)]
   exact I.freeC x c e'
  ·exact fresh c (by omega)
 ·show (J7 own caps σ).length = N'.length
  rw [S.names]
  unfold J7
  simp
end
end L2
namespace L2
open PySem PySem.Spec PyProof.Rows
noncomputable def Zzx (J:It) (g:TG) (tt:TT) (te:TE) (σ0:St) (D:Addr) (Q:Hp→Prop) (H1:Hp):Prop :=
 ∃ W:Nat→Nat→St→Hp→Prop,(∃ m,W 0 m σ0 (upd H1 D (.lst [])))∧∀ i m σ' H',W i m σ' H' →
  (J.stop i H'∧Q H')∨(J.go i H'∧∀ x H2,J.yld i H' x H2→g x σ' H2 fun σ2 H3=>tt σ2 H3 fun b H4 =>
   if b = true then te σ2 H4 fun y H5=>∃ ys,H5 D = some (.lst ys)∧ys.length < sizeLine∧∃ m',m' < m∧W (i + 1) m' σ2 (upd H5 D (.lst (ys ++ [y])))
   else ∃ m',m' < m∧W (i + 1) m' σ2 H4)
noncomputable def Z2b (own:List Str) (caps:List Nat) (wi:TI) (g:TG) (tt:TT) (te:TE):TE:=fun σ H Q=>wi σ H fun J H1=>∀ D,H1 D = none→Zzx J g tt te (J7 own caps σ) D (Q (.ref D)) H1
noncomputable def Z9d:TT:=fun _ H Q=>Q true H
noncomputable def Z1u (X:Cx) (ifs:List Expr) (t:TT):Prop :=
 ∀ (pins:List (Addr × Obj)) (s:Shared) (σ:St) (H:Hp) (Q:Bool→Hp→Prop),Inv X pins σ H s→t σ H Q →
  wpAny (model X.prog X.w) X.A (forIn ifs true fun c r=>if r = true then do let ok ← isTrue c X.env (eval c X.env); pure (ForInStep.yield ok) else pure (ForInStep.yield r)) (TP X pins σ Q) X.xe s
theorem Z0s {X:Cx}:Z1u X [] Z9d:=fun pins s σ H Q I h=>by
 rw [List.forIn_nil]
 exact wpAny_pure ⟨H,I,h⟩
theorem Z11 {X:Cx} {c:Expr} {t:TT} (h:PT X c t):Z1u X [c] t:=fun pins s σ H Q I q=>wpAny_tests_one (h pins s σ H Q I q)
theorem Zzq {M:Model} {A:Around} {α:Type} {t:Sem α} {Q Q':α→Shared→Prop} {E:Value→Shared→Prop} {s:Shared} (h:wpAny M A t Q (fun _ _=>False) s) (hQ:∀ a s,Q a s→Q' a s):wpAny M A t Q' E s :=
 wpAny_mono h hQ fun _ _ z=>z.elim
section
variable {X:Cx} {own:List Str} {caps:List Nat} {N':List Str} {sc:Scope} {tg elt iter:Expr} {ifs:List Expr} {pos:Pos} {wi:TI} {g:TG} {tt:TT} {te:TE}
theorem Zn6 {pins p':List (Addr × Obj)} {σ σ':St} {H H':Hp} {s s':Shared} {fp:List Addr} {C:Addr} {cells:List (Str × Addr)} {h':Heap} (I:Inv X pins σ H s) (f:∀ b ∈ fp,Zi2 X pins H b)
  (I':Inv (Yv X N' sc C cells s H fp) p' σ' H' s') (hs:Heap.SameBut C s'.heap h'):Inv X pins σ H' { s' with heap:=h' }:=by
 have hC:s.heap.objs.size ≤ C:=I'.ok.above
 have B:=I'.base
 have ne:∀ b o,s.heap.get? b = some o→b ≠ C:=fun b o e=>Nat.ne_of_lt (Nat.lt_of_lt_of_le (Heap.lt_size e) hC)
 obtain ⟨m,⟨oC,_,_,hoC,_⟩,_⟩:=I'.loc
 refine I.call' (ch:=fp) (s':={ s' with heap:=h' }) I'.os ⟨fun b o e n hb hx=>?_,fun b o e n hb hx=>?_,B.free,fun b o e hx=>?_,B.tups,B.frzs,B.tbls⟩ (fun b ob e=>?_) I'.bare fun b hb=>?_
 ·exact (hs.2 b (ne b o e)).trans (B.keep b o e n hb hx)
 ·obtain ⟨sl,q⟩:=B.slot b o e n hb hx
  exact ⟨sl,(hs.2 b (ne b o e)).trans q⟩
 ·obtain ⟨o',q⟩:=B.there b o e hx
  exact ⟨o',(hs.2 b (ne b o e)).trans q⟩
 ·have hfree:H' C = none:=I'.free
  refine (I'.hok b ob e).stay (fun c w' hc q=>(hs.2 c ?_).trans q) (fun _ q=>q) fun _ _ q=>q
  rintro rfl
  rcases hc with rfl | hc
  ·rw [hfree] at e; cases e
  ·rw [hfree] at hc; cases hc
 ·obtain ⟨_,f1,_,f3,f4,f5⟩:=f b hb
  exact ⟨f3,f1,f4,f5⟩
theorem Zi0 {Qf:Result→Shared→Prop} (S:CompScope X own caps N' sc) (hc:X.calm = true)
  (hg:∀ C cells s₂ H₂ fp,PG (Yv X N' sc C cells s₂ H₂ fp) tg g) (ht:∀ C cells s₂ H₂ fp,Z1u (Yv X N' sc C cells s₂ H₂ fp) ifs tt) (he:∀ C cells s₂ H₂ fp,PE (Yv X N' sc C cells s₂ H₂ fp) elt te)
  {pins:List (Addr × Obj)} {σ:St} {H:Hp} {s:Shared} {fp:List Addr} {it:Addr} {tn:Nat→Heap→Prop} {J:It} {Q:Hp→Prop} (I:Inv X pins σ H s) (T:Turn X.prog X.w X.K tg J fp it tn) (st:tn 0 s.heap) (f:∀ b ∈ fp,Zi2 X pins H b)
  (h:Zzx J g tt te (J7 own caps σ) s.heap.objs.size Q H)
  (fin:∀ s' σ' H' p' C cells,Inv (Yv X N' sc C cells s H fp) p' σ' H' s'→C = s.heap.objs.size + 1→Q H'→Qf (.ok .next) s') :
  wpAny (model X.prog X.w) X.A (newFunctionEnv sc X.env.globals (Zhr X.env sc.names []) [] X.env.qual none .none (some X.env)) (fun cenv s₄ =>
   cenv.locals = s.heap.objs.size + 1∧codeAny (model X.prog X.w) X.A (.compStart (.ListComp elt [⟨tg,iter,ifs,0⟩] sc pos) 0 (.ref it) (.ref s.heap.objs.size) { cenv with scope:=relabel sc X.env }) Qf s₄) X.xe
    { s with heap:=s.heap.push { cls:=.type "list", data:=.seq #[] } }:=by
 have hf:∀ y ∈ sc.names,y.2 = .free→∃ c,X.env.cells.lookup y.1 = some c:=fun y hy e=>by
  obtain ⟨n,k⟩:=y
  have e':k = .free:=e
  subst e'
  exact I.ok.has n (S.fr hy)
 have hcl:∀ n c,(n,c) ∈ Zhr X.env sc.names []→(n,NameKind.free) ∈ sc.names∧X.env.cells.lookup n = some c:=fun n c m=>(Zjq sc.names [] hf n c m).elim (fun z=>nomatch z) id
 have hap:=Ze1 I.ok.inj sc.names [] hf S.nn (fun _ z=>nomatch z) (fun _ z=>nomatch z) .nil
 have I0:=Zpm (cl:=Zhr X.env sc.names []) S I f (fun b hb=>let ⟨o,e,_⟩:=T.obj _ _ st b hb; ⟨o,e⟩) hcl (fun n m=>Zja sc.names [] n m) hap
 refine Zh2 ?_
 rw [show ({ s with heap:=s.heap.push { cls:=.type "list", data:=.seq #[] } }:Shared).heap.objs.size = s.heap.objs.size + 1 from Heap.size_push ..]
 refine ⟨rfl,?_⟩
 dsimp only
 generalize hs0:({ s with heap:=pushCells ((s.heap.push { cls:=.type "list", data:=.seq #[] }).push { cls:=.type "dict", data:=.dict #[] }) sc.names }:Shared) = s0 at I0 ⊢
 have st0:tn 0 s0.heap:=T.keep _ _ _ st fun b hb o e=>by
  rw [← hs0]
  exact pushCells_keeps _ _ _ _ (Heap.get?_push_of_some _ (Heap.get?_push_of_some _ e))
 generalize hcells:cellsFrom (s.heap.objs.size + 1 + 1) sc.names (Zhr X.env sc.names []) = cells at I0 ⊢
 -- the loop
 obtain ⟨W,⟨m0,w0⟩,turn⟩:=h
 have loop:codeAny (model X.prog X.w) X.A (.compLoop (.ListComp elt [⟨tg,iter,ifs,0⟩] sc pos) 0 (.ref it) (.ref s.heap.objs.size) (Yv X N' sc (s.heap.objs.size + 1) cells s H fp).env) Qf s0:=by
  generalize hX':Yv X N' sc (s.heap.objs.size + 1) cells s H fp = X' at I0 ⊢
  have hg':=hg (s.heap.objs.size + 1) cells s H fp
  have ht':=ht (s.heap.objs.size + 1) cells s H fp
  have he':=he (s.heap.objs.size + 1) cells s H fp
  have fin':=fun s' σ' H' p' (z:Inv (Yv X N' sc (s.heap.objs.size + 1) cells s H fp) p' σ' H' s')=>fin s' σ' H' p' _ _ z rfl
  rw [hX'] at hg' ht' he' fin'
  have hxe:X'.xe = fun _ _=>False:=by rw [← hX']; rfl
  have hpr:X'.prog = X.prog:=by rw [← hX']; rfl
  have hw:X'.w = X.w:=by rw [← hX']; rfl
  have hK:X'.K = X.K:=by rw [← hX']; rfl
  have hA:X'.A = X.A:=by rw [← hX']; rfl
  have hcm:X'.calm = true:=by rw [← hX']; exact hc
  have hex:X'.ex = fp:=by rw [← hX']; rfl
  have hpn:X'.pn = []:=by rw [← hX']; rfl
  have stat:∀ {H':Hp},(∀ b ∈ fp,H' b = none)→∀ b ∈ fp,Zi2 X' [] H' b:=fun hn b hb=>by
   have e1:=I0.ok.exf b (by rw [hex]; exact hb)
   have e2:=I0.ok.exfs b (by rw [hex]; exact hb)
   exact ⟨hn b hb,e1.1,e2,.inl (by rw [hex]; exact hb),e1.2,fun p hp=>by rw [hpn] at hp; exact nomatch hp⟩
  have frD:∀ b ∈ fp,(upd H s.heap.objs.size (.lst [])) b = none:=fun b hb=>by
   obtain ⟨o,e,_⟩:=T.obj _ _ st b hb
   rw [Zy (Nat.ne_of_lt (Heap.lt_size e))]
   exact (f b hb).1
  have T':Turn X'.prog X'.w X'.K tg J fp it tn:=by rw [hpr,hw,hK]; exact T
  rw [← hpr,← hw,← hA]
  refine Zl3 (fun n s'=>∃ i σ' H',Inv X' [] σ' H' s'∧tn i s'.heap∧(∀ b ∈ fp,H' b = none)∧W i n σ' H') ?_ m0 ⟨0,_,_,I0,st0,frD,w0⟩
  rintro n s3 ⟨i,σ3,H3,I3,st3,fr3,w3⟩
  rcases turn i n σ3 H3 w3 with ⟨stop,qn⟩ | ⟨go,step⟩
  ·refine Zzq (T'.done X' rfl rfl rfl hcm i [] s3 σ3 H3 _ I3 (stat fr3) st3 stop) fun r s4 qz9=>?_
   obtain ⟨hr,I4⟩:=qz9
   subst hr
   exact fin' s4 σ3 H3 [] I4 qn
  ·refine Zzq (T'.item X' rfl rfl rfl hcm i [] s3 σ3 H3 _ I3 (stat fr3) st3 go) fun r s4 qz9=>?_
   obtain ⟨u,hr,h4⟩:=qz9
   subst hr
   refine Zzq h4 fun _ s5 qz9=>?_
   obtain ⟨x,H5,I5,r5,y5,st5,fr5⟩:=qz9
   have I5':=I5.pinned (stat fr5) (T.obj _ _ st5)
   have hgg:=hg' _ s5 σ3 H5 x u _ I5' r5 (step x H5 y5)
   rw [hxe] at hgg
   refine Zzq hgg fun _ s6 qz9=>?_
   obtain ⟨σ6,H6,I6,q6⟩:=qz9
   have htt:=ht' _ s6 σ6 H6 _ I6 q6
   rw [hxe] at htt
   refine Zzq htt fun ok s7 qz9=>?_
   obtain ⟨H7,I7,q7⟩:=qz9
   have again:∀ {σ7:St} {H7:Hp} {s7:Shared} {m:Nat},Inv X' ([] ++ Zki fp s5.heap) σ7 H7 s7→W (i + 1) m σ7 H7→m < n→∃ m,m < n∧∃ i σ' H',Inv X' [] σ' H' s7∧tn i s7.heap∧(∀ b ∈ fp,H' b = none)∧W i m σ' H':=fun {σ7 H7 s7 m} I7 w7 hm=>by
    refine ⟨m,hm,i + 1,σ7,H7,I7.unpinned,T.keep _ _ _ st5 fun b hb o e=>(I7.pin (b,o) (List.mem_append_right _ (List.mem_append_right _ (Zdk hb e)))).1,fun b hb=>?_,w7⟩
    obtain ⟨o,e,d⟩:=T.obj _ _ st5 b hb
    exact (I7.pin (b,o) (List.mem_append_right _ (List.mem_append_right _ (Zdk hb e)))).2.1
   cases ok with
   | false =>
    obtain ⟨m',hm,w7⟩:=q7
    rw [if_neg Bool.false_ne_true]
    exact again I7 w7 hm
   | true =>
    rw [if_pos rfl]
    have hee:=he' _ s7 σ6 H7 _ I7 q7
    rw [hxe] at hee
    refine Zzq hee fun y s8 qz9=>?_
    obtain ⟨vy,H8,I8,r8,ys,hD,hlen,m',hm,w8⟩:=qz9
    have hap:=Zkp (X:=X') _ s8 σ6 H8 (.ref s.heap.objs.size) [vy] (.ref s.heap.objs.size) [y] (fun _ H'=>W (i + 1) m' σ6 H') I8 rfl (.cons r8 .nil) ⟨_,ys,vy,rfl,rfl,hD,hlen,w8⟩
    rw [hxe] at hap
    refine Zzq hap fun z s9 qz9=>?_
    obtain ⟨_,H9,I9,_,w9⟩:=qz9
    exact again I9 w9 hm
 exact codeAny_compStart_list loop (T.self _ 0 _ _ _ st0 loop)
theorem Zz7 (S:CompScope X own caps N' sc) (hc:X.calm = true) (hi:PI X tg iter wi)
  (hg:∀ C cells s₂ H₂ fp,PG (Yv X N' sc C cells s₂ H₂ fp) tg g) (ht:∀ C cells s₂ H₂ fp,Z1u (Yv X N' sc C cells s₂ H₂ fp) ifs tt) (he:∀ C cells s₂ H₂ fp,PE (Yv X N' sc C cells s₂ H₂ fp) elt te)
  (hs:∀ x,foldedSetIterable iter X.env x = pure x:=by intro _; rfl):PE X (.ListComp elt [⟨tg,iter,ifs,0⟩] sc pos) (Z2b own caps wi g tt te):=by
 intro pins s σ H Q I h
 rw [eval_ListComp]
 have hf:∀ y ∈ sc.names,y.2 = .free→∃ c,X.env.cells.lookup y.1 = some c:=fun y hy e=>by
  obtain ⟨n,k⟩:=y
  have e':k = .free:=e
  subst e'
  exact I.ok.has n (S.fr hy)
 refine wpAny_comprehension_free (use:=none) rfl hs (Zdr hf) S.kind (fun y hy e=>by obtain ⟨n,k⟩:=y; have e':k = .local:=e; subst e'; exact S.lk hy) ?_
 refine thn (hi pins s σ H _ I h) fun v s1 h1=>thn h1 fun itv s2 h2=>?_
 obtain ⟨it,fp,tn,J,H2,e,I2,T,st2,f2,q⟩:=h2
 subst e
 refine wpAny_newObj_type ?_
 refine thn (Zi0 (iter:=iter) (pos:=pos) (Qf:=compPost (model X.prog X.w) X.A X.xe none (EP X pins σ Q) (.ref s2.heap.objs.size) (s2.heap.objs.size + 1)) S hc hg ht he I2 T st2 f2 (q s2.heap.objs.size I2.fresh) ?_) fun cenv s4 ⟨hl,hr⟩=>?_
 ·intro s' σ' H' p' C cells I' eC q'
  subst eC
  obtain ⟨m,hn,_⟩:=id I'.loc
  exact ⟨m,hn,fun h' hs'=>⟨.ref s2.heap.objs.size,H',Zn6 I2 f2 I' hs',rfl,q'⟩⟩
 ·rw [← hl] at hr
  exact hr
end
end L2
namespace L2
open PySem PySem.Spec PyProof.Rows
section
variable {X:Cx} {own:List Str} {caps:List Nat} {N':List Str} {sc:Scope} {tg elt iter:Expr} {ifs:List Expr} {pos:Pos} {wi:TI} {g:TG} {tt:TT} {te:TE}
theorem Zim {i:Nat} {y:Str} {py spos:Pos} (hN:X.N.Nodup) (hy:X.N[i]? = some y) (hx:Loc X.env.scope y) (S:CompScope X own caps N' sc) (hc:X.calm = true) (hi:PI X tg iter wi)
  (hg:∀ C cells s₂ H₂ fp,PG (Yv X N' sc C cells s₂ H₂ fp) tg g) (ht:∀ C cells s₂ H₂ fp,Z1u (Yv X N' sc C cells s₂ H₂ fp) ifs tt) (he:∀ C cells s₂ H₂ fp,PE (Yv X N' sc C cells s₂ H₂ fp) elt te)
  (hsw:swapsWith (.ListComp elt [⟨tg,iter,ifs,0⟩] sc pos) (some (.Name y py)) spos.line X.env = pure true:=by rfl)
  (hs:∀ x,foldedSetIterable iter X.env x = pure x:=by intro _; rfl) (hf:X.fn y = true∨X.env.scope.names.lookup y = some .local:=by first | exact .inl rfl | exact .inr rfl | assumption) :
  PS X (.Assign [.Name y py] (.ListComp elt [⟨tg,iter,ifs,0⟩] sc pos) spos) (Z4f (Z2b own caps wi g tt te) (Zs3 i)):=by
 intro pins s σ H D I h
 have hfr:∀ y ∈ sc.names,y.2 = .free→∃ c,X.env.cells.lookup y.1 = some c:=fun y hy e=>by
  obtain ⟨n,k⟩:=y
  have e':k = .free:=e
  subst e'
  exact I.ok.has n (S.fr hy)
 rw [exec_Assign_Name_used _ _ _ _ hsw]
 refine wpAny_bind (wpAny_standAt (wpAny_bind ?_))
 show wpAny _ X.A (do let _ ← comprehension (.ListComp elt [⟨tg,iter,ifs,0⟩] sc pos) sc X.env _ (newList []) false (eval iter X.env) (some (assign (.Name y py) X.env))) _ _ s
 refine wpAny_bind (wpAny_mono (wpAny_comprehension_free (use:=some (assign (.Name y py) X.env)) (Q:=fun _ s'=>SP X pins D .next s') rfl hs (Zdr hfr) S.kind (fun y hy e=>by obtain ⟨n,k⟩:=y; have e':k = .local:=e; subst e'; exact S.lk hy) ?_) (fun _ s' hq=>wpAny_pure (wpAny_pure hq)) fun _ _ e=>e)
 refine thn (hi pins s σ H _ I h) fun v s1 h1=>thn h1 fun itv s2 h2=>?_
 obtain ⟨it,fp,tn,J,H2,e,I2,T,st2,f2,q⟩:=h2
 subst e
 refine wpAny_newObj_type ?_
 refine thn (Zi0 (iter:=iter) (pos:=pos) (Qf:=compPost (model X.prog X.w) X.A X.xe (some (assign (.Name y py) X.env)) (fun _ s'=>SP X pins D .next s') (.ref s2.heap.objs.size) (s2.heap.objs.size + 1)) S hc hg ht he I2 T st2 f2 (q s2.heap.objs.size I2.fresh) ?_) fun cenv s4 ⟨hl,hr⟩=>?_
 ·intro s' σ' H' p' C cells I' eC q'
  subst eC
  obtain ⟨m,hn,_⟩:=id I'.loc
  have I3:Inv X pins σ H' s':=Zn6 I2 f2 I' (.refl ..)
  show wpAny _ X.A (assign (.Name y py) X.env (.ref s2.heap.objs.size)) _ _ s'
  refine wpAny_assign_Name (Zk1 (v:=.ref s2.heap.objs.size) I3 hN hy hx rfl (fun s5 I5 hsb=>?_) hf)
  have hC:s2.heap.objs.size < s2.heap.objs.size + 1:=Nat.lt_succ_self _
  have ltL:X.env.locals < s2.heap.objs.size:=I2.lt
  have ltC:∀ x c,X.env.cells.lookup x = some c→c < s2.heap.objs.size:=fun x c e=>by
   obtain ⟨w',z⟩:=I2.cell x c e
   exact z.lt
  refine ⟨m,?_,fun h' hs'=>⟨σ.set i (some (.ref s2.heap.objs.size)),H',?_,q'⟩⟩
  ·obtain ⟨a,hsa,ha⟩:=hsb
   refine hn.sameBut hsa ?_
   rcases ha with ha | ha
   ·rw [ha]; exact Nat.ne_of_gt (Nat.lt_trans ltL hC)
   ·exact Nat.ne_of_gt (Nat.lt_trans (ltC _ _ ha) hC)
  ·refine I5.turned (t':=s5.toks) (it:=s2.heap.objs.size + 1) (fun b o hb e=>(hs'.2 b hb).trans e) I'.free (Nat.ne_of_gt (Nat.lt_trans ltL hC)) (.inr (Nat.le_trans I2.sz (Nat.le_of_lt hC))) (fun x c e=>Nat.ne_of_lt (Nat.lt_trans (ltC x c e) hC)) fun p hp=>?_
   obtain ⟨e,_⟩:=I2.pin p hp
   exact Nat.ne_of_lt (Nat.lt_trans (Heap.lt_size e) hC)
 ·rw [← hl] at hr
  exact hr
end
section
variable (n:Nat) (D:Addr) (Pv:Nat→List V→St→Hp→Prop)
variable {n D Pv}
end
end L2
namespace L2
open PySem PySem.Spec PyProof.Rows
mutual
inductive Is (H:Hp) (L:Addr→Prop):V→PyData→Prop where
 | non:Is H L .non .none
 | bl (b:Bool):Is H L (.bl b) (.bool b)
 | int (i:Int):Is H L (.int i) (.int i)
 | str (x:Str):Is H L (.str x) (.str x)
 | lst {a:Addr} {xs:List V} {ds:List PyData}:L a→H a = some (.lst xs)→IsAll H L xs ds→Is H L (.ref a) (.list ds)
 | tup {a:Addr} {xs:List V} {ds:List PyData}:H a = some (.tup xs)→IsAll H L xs ds→Is H L (.ref a) (.tuple ds)
inductive IsAll (H:Hp) (L:Addr→Prop):List V→List PyData→Prop where
 | nil:IsAll H L [] []
 | cons {x:V} {xs:List V} {d:PyData} {ds:List PyData}:Is H L x d→IsAll H L xs ds→IsAll H L (x :: xs) (d :: ds)
end
section
variable {H H':Hp} {L L':Addr→Prop}
theorem IsAll.ind {Q:List V→List PyData→Prop} (n:Q [] []) (c:∀ {x:V} {xs:List V} {d:PyData} {ds:List PyData},Is H L x d→IsAll H L xs ds→Q xs ds→Q (x :: xs) (d :: ds)):∀ {xs ds},IsAll H L xs ds→Q xs ds:=fun h =>
 IsAll.rec (motive_1:=fun _ _ _=>True) (motive_2:=fun xs ds _=>Q xs ds) trivial (fun _=>trivial) (fun _=>trivial) (fun _=>trivial) (fun _ _ _ _=>trivial) (fun _ _ _=>trivial) n (fun p q _ r=>c p q r) h
theorem IsAll.length {xs:List V} {ds:List PyData} (h:IsAll H L xs ds):xs.length = ds.length:=IsAll.ind (Q:=fun xs ds=>xs.length = ds.length) rfl (fun _ _ r=>congrArg (· + 1) r) h
theorem IsAll.set {xs:List V} {ds:List PyData} {x:V} {d:PyData} (i:Nat) (h:IsAll H L xs ds) (k:Is H L x d):IsAll H L (xs.set i x) (ds.set i d) :=
 IsAll.ind (Q:=fun xs ds=>∀ i,IsAll H L (xs.set i x) (ds.set i d)) (fun _=>.nil) (fun h q r i=>Nat.casesOn i (.cons k q) fun i=>.cons h (r i)) h i
end
section
variable {X:Cx} {pins:List (Addr × Obj)} {σ:St} {H:Hp} {s:Shared} {L L':Addr→Prop}
end
noncomputable abbrev Shp (d:PyData):Prop:=SeqAt.shaped d = true
section
variable {X:Cx}
end
mutual
noncomputable def Ws:PyData→Bool
 | .none=>true
 | .int _=>true
 | .str _=>true
 | .list ds=>Zfk ds
 | .tuple ds=>Zfk ds
 | _=>false
noncomputable def Zfk:List PyData→Bool
 | []=>true
 | d :: ds=>Ws d && Zfk ds
end
mutual
theorem Zmx:∀ (d e:PyData),Ws d = true→Ws e = true→(PyData.eqv d e = true ↔ d = e)
 | .none,e,_,he=>by cases e <;> simp_all [PyData.eqv,Ws]
 | .int i,e,_,he=>by cases e <;> simp_all [PyData.eqv,Ws]
 | .str i,e,_,he=>by cases e <;> simp_all [PyData.eqv,Ws]
 | .list ds,e,hd,he=>by
  cases e with
  | list es =>
   rw [Ws] at hd he
   rw [PyData.eqv,PyData.list.injEq]
   exact Ze4 ds es hd he
  | _=>simp_all [PyData.eqv,Ws]
 | .tuple ds,e,hd,he=>by
  cases e with
  | tuple es =>
   rw [Ws] at hd he
   rw [PyData.eqv,PyData.tuple.injEq]
   exact Ze4 ds es hd he
  | _=>simp_all [PyData.eqv,Ws]
 | .bool b,e,hd,_=>by simp [Ws] at hd
 | .dict b,e,hd,_=>by simp [Ws] at hd
theorem Ze4:∀ (ds es:List PyData),Zfk ds = true→Zfk es = true→(PyData.eqvAll ds es = true ↔ ds = es)
 | [],[],_,_=>by simp [PyData.eqvAll]
 | [],_ :: _,_,_=>by simp [PyData.eqvAll]
 | _ :: _,[],_,_=>by simp [PyData.eqvAll]
 | d :: ds,e :: es,hd,he=>by
  rw [Zfk,Bool.and_eq_true] at hd he
  rw [PyData.eqvAll,Bool.and_eq_true,Zmx d e hd.1 he.1,Ze4 ds es hd.2 he.2,List.cons.injEq]
end
theorem Zxs {d e:PyData} (h:Ws d = true) (k:Ws e = true) (q:d = e):PyData.eqv d e = true:=(Zmx d e h k).mpr q
theorem Z21 {d e:PyData} (h:Ws d = true) (k:Ws e = true) (q:d ≠ e):PyData.eqv d e = false:=Bool.eq_false_iff.mpr fun z=>q ((Zmx d e h k).mp z)
noncomputable def fr (a b:Int):PyData:=.tuple [.int a,.int b]
end L2
namespace L2
open PySem PySem.Spec PyProof.Rows
theorem Zel {t b:Int} (hb:b ≠ 0):0 < (Int.gcd t b:Int):=by
 have:=Int.gcd_pos_of_ne_zero_right t hb
 omega
theorem Ju {t g:Int} (hg:0 < g):t.fdiv g = t / g:=Int.fdiv_eq_ediv_of_nonneg t (by omega)
theorem Zde {t g:Int} (hg:0 < g) (h:g ∣ t):t.fdiv (-g) = -(t / g):=by
 obtain ⟨k,rfl⟩:=h
 rw [Int.mul_ediv_cancel_left _ (by omega)]
 have e:g * k = (-k) * (-g):=by rw [Int.neg_mul_neg,Int.mul_comm]
 rw [e,Int.mul_fdiv_cancel _ (by omega)]
noncomputable def shr (t b:Int):Int:=if b < 0 then -(Int.gcd t b:Int) else (Int.gcd t b:Int)
theorem Z15 {t b:Int} (hb:b ≠ 0):t.fdiv (shr t b) = (Rat.divInt t b).num:=by
 have hg:=Zel (t:=t) hb
 have hd:(Int.gcd t b:Int) ∣ t:=Int.gcd_dvd_left ..
 rw [Rat.num_divInt,Int.gcd_comm b t]
 unfold shr
 by_cases h:b < 0
 ·rw [if_pos h,Zde hg hd,Int.sign_eq_neg_one_of_neg h,Int.neg_one_mul,Int.neg_ediv_of_dvd hd]
 ·rw [if_neg h,Ju hg,Int.sign_eq_one_of_pos (by omega),Int.one_mul]
theorem Z17 {t b:Int} (hb:b ≠ 0):b.fdiv (shr t b) = ((Rat.divInt t b).den:Int):=by
 have hg:=Zel (t:=t) hb
 have hd:(Int.gcd t b:Int) ∣ b:=Int.gcd_dvd_right ..
 rw [Rat.den_divInt,if_neg hb,Int.gcd_comm b t]
 unfold shr
 by_cases h:b < 0
 ·have e:(b.natAbs:Int) = -b:=by omega
  rw [if_pos h,Zde hg hd,Int.natCast_ediv,e,Int.neg_ediv_of_dvd hd]
 ·have e:(b.natAbs:Int) = b:=by omega
  rw [if_neg h,Ju hg,Int.natCast_ediv,e]
theorem Zxb {t b:Int} (hb:b ≠ 0):shr t b ≠ 0:=by
 have hg:=Zel (t:=t) hb
 unfold shr
 split <;> omega
theorem Zyk {n:Nat} {t b:Int} (hb:b ≠ 0) (h:Bt n b):Bt n (shr t b):=by
 have h1:Bt n (Int.gcd t b:Int):=by
  refine Bt.of_le h ?_
  have:=Int.gcd_le_natAbs_right t hb
  omega
 unfold shr
 split
 ·exact h1.neg
 ·exact h1
theorem Zk7 {n:Nat} {t b:Int} (hb:b ≠ 0) (h:Bt n t):Bt n (Rat.divInt t b).num:=by
 rw [Rat.num_divInt]
 refine Bt.of_le h ?_
 refine Nat.le_trans (Int.natAbs_ediv_le_natAbs _ _) ?_
 rw [Int.natAbs_mul]
 have:b.sign.natAbs ≤ 1:=by
  rw [Int.natAbs_sign]
  split <;> omega
 calc b.sign.natAbs * t.natAbs ≤ 1 * t.natAbs:=Nat.mul_le_mul_right _ this
  _ = t.natAbs:=Nat.one_mul _
theorem Zyp {n:Nat} {t b:Int} (hb:b ≠ 0) (h:Bt n b):Bt n ((Rat.divInt t b).den:Int):=by
 rw [Rat.den_divInt,if_neg hb]
 refine Bt.of_le h ?_
 show ((b.natAbs / b.gcd t:Nat):Int).natAbs ≤ _
 rw [Int.natAbs_natCast]
 exact Nat.div_le_self _ _
theorem Zsn (q:Rat):(q.den:Int) ≠ 0:=by
 have:=q.den_pos
 omega
theorem Zaz (q:Rat):(0:Int) < (q.den:Int):=by
 have:=q.den_pos
 omega
theorem Zoh (q r:Rat):Rat.divInt (q.num * (r.den:Int) + r.num * (q.den:Int)) ((q.den:Int) * (r.den:Int)) = q + r:=by
 rw [Rat.add_def',← Int.natCast_mul,Rat.divInt_ofNat]
theorem Zq7 (q r:Rat):q.num * (r.den:Int) < r.num * (q.den:Int) ↔ q < r:=(Rat.lt_iff q r).symm
noncomputable def frD (q:Rat):PyData:=fr q.num (q.den:Int)
noncomputable def BQ (n:Nat) (q:Rat):Prop:=Bt n q.num∧Bt n (q.den:Int)
theorem BQ.zero:BQ 1 0:=⟨by unfold Bt; decide,by unfold Bt; decide⟩
end L2
namespace L2
open PySem PySem.Spec PyProof.Rows
section
variable {X:Cx}
end
end L2
namespace L2
open PySem PySem.Spec PyProof.Rows
section
variable {X:Cx} {K:PySem.W.Frag} {a b o e:Expr} {ta tb tl to:TE} {pos:Pos}
theorem Zv8 (hK:X.K = K):IxR X (Z80 K):=hK ▸ Zq1
theorem Ztr (hK:X.K = K):IxR X (rIx K):=hK ▸ Z30
theorem Zur (hK:X.K = K):SlR X (Yb1 K):=hK ▸ Z1f
noncomputable def Yb9 (K:PySem.W.Frag):List V→Hp→VK→Prop:=fun xs H Q=>∃ p ys,xs = [.ref p]∧(SqL K H p ys∨SqT K H p ys)∧Q (.int ys.length) H
theorem Zhb (hK:X.K = K):Zd9 X (.builtin "len") (Yb9 K):=by subst hK; exact Zj9
noncomputable def Z04 (K:PySem.W.Frag):List V→Hp→VK→Prop:=fun xs H Q=>∃ p ys,xs = [.ref p]∧(SqL K H p ys∨SqT K H p ys)∧∀ l,H l = none→Q (.ref l) (upd H l (.lst ys))
theorem Zp6 (hK:X.K = K):Zd9 X (.type "list") (Z04 K):=by subst hK; exact Zll
noncomputable def Yce (K:PySem.W.Frag) (ta:TE):TT:=fun σ H Q=>ta σ H fun x H'=>∃ k,Z9n K x H' k∧Q k H'
theorem Z0k (hK:X.K = K) (ha:PE X a ta) (he:∀ whole,isTrue a X.env whole = (do let v ← whole; standAt a.pos; holding [v] (truthy v))):PT X a (Yce K ta):=by subst hK; exact Zvu ha he
theorem Zwe {tg l:Expr} (hK:X.K = K) (hl:PE X l tl):PI X tg l (Z37 K tl):=by subst hK; exact Z0t hl
theorem Ztz (hK:X.K = K):OpR X (compareOp .In) (rIn K false):=by subst hK; exact Zrg
theorem Ztk (hK:X.K = K):OpR X (compareOp .NotIn) (rIn K true):=by subst hK; exact Zkj
end
end L2
namespace L2
open PySem PySem.Spec PyProof.Rows
theorem Yc {H:Hp} {p:Addr} (h:H p = none) (o:HO):Same H (upd H p o):=fun b u q=>by rw [Zy (Yy q h)]; exact q
noncomputable def But (p:Addr) (H H':Hp):Prop:=∀ b o,b ≠ p→H b = some o→H' b = some o
theorem But.upd (p:Addr) (H:Hp) (o:HO):But p H (upd H p o):=fun b u n e=>by rw [Zy n]; exact e
noncomputable def Pl (H:Hp) (p:Addr) (n:Nat):Prop:=∃ a b c:Int,H p = some (.lst [.int a,.int b,.int c])∧0 ≤ c∧c ≤ n
theorem Pl.at {H:Hp} {p:Addr} {n:Nat} (h:Pl H p n):∃ xs,H p = some (.lst xs):=by
 obtain ⟨a,b,c,e,h1,h2⟩:=h
 exact ⟨_,e⟩
namespace B
theorem boot_abs:bootBuiltins "abs" = some (.builtin "abs"):=by decide +kernel
theorem boot_len:bootBuiltins "len" = some (.builtin "len"):=by decide +kernel
theorem boot_min:bootBuiltins "min" = some (.builtin "min"):=by decide +kernel
theorem boot_isinstance:bootBuiltins "isinstance" = some (.builtin "isinstance"):=by decide +kernel
theorem boot_sum:bootBuiltins "sum" = some (.builtin "sum"):=by decide +kernel
theorem boot_sorted:bootBuiltins "sorted" = some (.builtin "sorted"):=by decide +kernel
theorem boot_int:bootBuiltins "int" = some (.type "int"):=by decide +kernel
theorem boot_bool:bootBuiltins "bool" = some (.type "bool"):=by decide +kernel
theorem boot_str:bootBuiltins "str" = some (.type "str"):=by decide +kernel
theorem boot_list:bootBuiltins "list" = some (.type "list"):=by decide +kernel
theorem boot_tuple:bootBuiltins "tuple" = some (.type "tuple"):=by decide +kernel
theorem boot_range:bootBuiltins "range" = some (.type "range"):=by decide +kernel
theorem boot_zip:bootBuiltins "zip" = some (.type "zip"):=by decide +kernel
theorem boot_enumerate:bootBuiltins "enumerate" = some (.type "enumerate"):=by decide +kernel
end B
theorem Zgk {a b:Int} (hb:0 < b):a.fmod b = a % b:=Int.fmod_eq_emod_of_nonneg a (by omega)
theorem Zwb {x y:Int} (hx:0 ≤ x) (hy:0 < y):Int.gcd y (x.fmod y) = Int.gcd x y:=by
 rw [Zgk hy,Int.gcd_comm x y]
 have e:=Int.emod_add_mul_ediv x y
 conv=>rhs; rw [← e]
 rw [Int.gcd_add_mul_left_right]
theorem Zyh:(2:Nat) ≤ sizeLine:=by decide
end L2
namespace L2
open PySem PySem.Spec PyProof.Rows
section
variable {X:Cx} {K:PySem.W.Frag} {pos:Pos}
end
end L2
namespace L2
open PySem PySem.Spec PyProof.Rows
theorem Zu2 (q:Rat):Rat.divInt q.num (q.den:Int) = q:=Rat.num_divInt_den q
end L2
namespace L2
open PySem PySem.Spec PyProof.Rows
section
variable {X:Cx}
end
end L2
namespace L2
open PySem PySem.Spec PyProof.Rows
theorem BQ.n {n:Nat} {q:Rat} (h:BQ n q):Bt n q.num:=h.1
theorem BQ.d {n:Nat} {q:Rat} (h:BQ n q):Bt n (q.den:Int):=h.2
theorem Ydq (q:Rat):(((q.den:Int)):Rat) ≠ 0:=by
 intro z
 exact Zsn q (Rat.intCast_eq_zero_iff.mp z)
theorem Ycu (q:Rat):((q.num:Int):Rat) = q * (((q.den:Int)):Rat):=by
 have h:=Zu2 q
 rw [Rat.divInt_eq_div] at h
 have d:=Ydq q
 conv=>rhs; lhs; rw [← h]
 grind
end L2
namespace L2
end L2
namespace L2
end L2
namespace L2
open PySem PySem.Spec PyProof.Rows
variable {G:PySem.W.Frag}
noncomputable def KS (G:PySem.W.Frag) (a:Addr) (ns:List Int):Prop:=∃ (o:Obj) (its:Array Value) (n:Nat),G.lookup a = some o∧o.cls = .type "list" ∧ o.dict = none∧o.data = .seq its n∧its.size ≤ sizeLine∧Vals (ns.map V.int) its.toList
theorem KS.sq {G:PySem.W.Frag} {H:Hp} {a:Addr} {ns:List Int} (h:KS G a ns):SqL G H a (ns.map V.int):=.inr h
noncomputable def exD (x:Str):PyData:=.dict [(.str x,.none)]
noncomputable def fnD (x:Str):PyData:=.dict [(.str x,.bool true)]
noncomputable def Zhc:PyData→Bool | .dict ((_,.bool _) :: _)=>true | _=>false
noncomputable def ClsAt (G:PySem.W.Frag) (x:Str) (C:Addr):Prop:=PySem.W.nsIn G mainGlobals x = some (some (.ref C))
structure Zfw (G:PySem.W.Frag) (C:Addr):Prop where
 ga:PySem.W.findIn G (.ref C) "__getattribute__" = some (some (.builtin "BaseException.__getattribute__"))
 gt:PySem.W.findIn G (.ref C) "__getattr__" = some none
 cl:PySem.W.findIn G (.ref C) "__class__" = some (some (.builtin "object.__class__"))
 isB:PySem.W.subIn G (.ref C) (.type "BaseException") = some true
 isO:PySem.W.subIn G (.ref C) (.type "object") = some true
 isC:(PySem.W.clsIn G C).isSome = true
 k1:PySem.W.kitOne G (.ref C) (.type "int") = some false
 k2:PySem.W.kitOne G (.ref C) (.type "bool") = some false
 k3:PySem.W.kitOne G (.ref C) (.type "str") = some false
 k4:PySem.W.kitOne G (.ref C) (.type "list") = some false
 k5:PySem.W.kitOne G (.ref C) (.type "tuple") = some false
noncomputable def ExO (C a:Addr) (h:Heap):Prop:=∃ o vs,h.get? a = some o∧o.cls = .ref C∧o.data = .fields vs
inductive ImO where
 | tup (xs:List V)
 | ext (φ:Heap→Prop)
noncomputable def ImO.ho:ImO→HO
 | .tup xs=>.tup xs
 | .ext φ=>.ext φ
inductive MuO where
 | lst (xs:List V)
 | dK (kvs:List (Key × V))
 | dT (kvs:List (List Key × V))
noncomputable def MuO.ho:MuO→HO
 | .lst xs=>.lst xs
 | .dK kvs=>.dK kvs
 | .dT kvs=>.dT kvs
noncomputable def Yam:Key→PyData
 | .inl i=>.int i
 | .inr x=>.str x
noncomputable def Ydl (ks:List Key):PyData:=.tuple (ks.map Yam)
noncomputable abbrev KY:=Sum Key (List Key)
noncomputable def kyD:KY→PyData
 | .inl k=>Yam k
 | .inr ks=>Ydl ks
noncomputable def MuO.dic (t:Bool) (ks:List KY) (xs:List V):MuO→Prop
 | .lst _=>False
 | .dK kvs=>t = false∧ks = kvs.map (fun p=>.inl p.1)∧xs = kvs.map (·.2)
 | .dT kvs=>t = true∧ks = kvs.map (fun p=>.inr p.1)∧xs = kvs.map (·.2)
noncomputable def dcD (t:Bool) (ks:List KY) (ds:List PyData):PyData:=.dict ((.none,.bool t) :: (ks.map kyD).zip ds)
theorem ImO.nm {H:Hp} {a:Addr} {x:ImO} {y:MuO} (h:H a = some x.ho) (h':H a = some y.ho):False:=by
 rw [h] at h'
 cases x <;> cases y <;> cases h'
theorem ImO.nl {H:Hp} {a:Addr} {x:ImO} {ys:List V} (h:H a = some x.ho) (h':H a = some (.lst ys)):False:=by
 rw [h] at h'
 cases x <;> cases h'
mutual
inductive Da (G:PySem.W.Frag) (H:Hp) (L:Addr→Prop):V→PyData→Prop where
 | non:Da G H L .non .none
 | bl (b:Bool):Da G H L (.bl b) (.bool b)
 | int (i:Int):Da G H L (.int i) (.int i)
 | str (x:Str):Da G H L (.str x) (.str x)
 | lst {a:Addr} {xs:List V} {ds:List PyData}:L a→Rd H a (.lst xs)→Das G H L xs ds→Da G H L (.ref a) (.list ds)
 | tup {a:Addr} {xs:List V} {ds:List PyData}:H a = some (.tup xs)→Das G H L xs ds→Da G H L (.ref a) (.tuple ds)
 | scr {a:Addr} {ns:List Int}:KS G a ns→Da G H L (.ref a) (.list (ns.map PyData.int))
 | exc {a C:Addr} {x:Str}:Zfw G C→ClsAt G x C→H a = some (.ext (ExO C a))→Da G H L (.ref a) (exD x)
 | fn {a:Addr} {x:Str}:ClsAt G x a→Da G H L (.ref a) (fnD x)
 | dic {a:Addr} {o:MuO} {t:Bool} {ks:List KY} {xs:List V} {ds:List PyData}:L a→Rd H a o.ho→o.dic t ks xs→Das G H L xs ds→Da G H L (.ref a) (dcD t ks ds)
inductive Das (G:PySem.W.Frag) (H:Hp) (L:Addr→Prop):List V→List PyData→Prop where
 | nil:Das G H L [] []
 | cons {x:V} {xs:List V} {d:PyData} {ds:List PyData}:Da G H L x d→Das G H L xs ds→Das G H L (x :: xs) (d :: ds)
end
section
variable {H H':Hp} {L L':Addr→Prop}
theorem Da.both {P:V→PyData→Prop} {Q:List V→List PyData→Prop} (c1:P .non .none) (c2:∀ b,P (.bl b) (.bool b)) (c3:∀ i,P (.int i) (.int i)) (c4:∀ x,P (.str x) (.str x))
  (c5:∀ {a:Addr} {xs:List V} {ds:List PyData},L a→Rd H a (.lst xs)→Q xs ds→P (.ref a) (.list ds)) (c6:∀ {a:Addr} {xs:List V} {ds:List PyData},H a = some (.tup xs)→Q xs ds→P (.ref a) (.tuple ds))
  (c7:∀ {a:Addr} {ns:List Int},KS G a ns→P (.ref a) (.list (ns.map PyData.int))) (c8:∀ {a C:Addr} {x:Str},Zfw G C→ClsAt G x C→H a = some (.ext (ExO C a))→P (.ref a) (exD x)) (c9:∀ {a:Addr} {x:Str},ClsAt G x a→P (.ref a) (fnD x))
  (c10:∀ {a:Addr} {o:MuO} {t:Bool} {ks:List KY} {xs:List V} {ds:List PyData},L a→Rd H a o.ho→o.dic t ks xs→Q xs ds→P (.ref a) (dcD t ks ds)) (n:Q [] []) (c:∀ {x:V} {xs:List V} {d:PyData} {ds:List PyData},P x d→Q xs ds→Q (x :: xs) (d :: ds)):(∀ {v d},Da G H L v d→P v d)∧∀ {xs ds},Das G H L xs ds→Q xs ds :=
 ⟨fun h=>Da.rec (motive_1:=fun v d _=>P v d) (motive_2:=fun xs ds _=>Q xs ds) c1 c2 c3 c4 (fun p e _ r=>c5 p e r) (fun e _ r=>c6 e r) (fun k=>c7 k) (fun k l m=>c8 k l m) (fun k=>c9 k) (fun p e k _ r=>c10 p e k r) n (fun _ _ p q=>c p q) h,
   fun h=>Das.rec (motive_1:=fun v d _=>P v d) (motive_2:=fun xs ds _=>Q xs ds) c1 c2 c3 c4 (fun p e _ r=>c5 p e r) (fun e _ r=>c6 e r) (fun k=>c7 k) (fun k l m=>c8 k l m) (fun k=>c9 k) (fun p e k _ r=>c10 p e k r) n (fun _ _ p q=>c p q) h⟩
theorem Das.ind {Q:List V→List PyData→Prop} (n:Q [] []) (c:∀ {x:V} {xs:List V} {d:PyData} {ds:List PyData},Da G H L x d→Das G H L xs ds→Q xs ds→Q (x :: xs) (d :: ds)):∀ {xs ds},Das G H L xs ds→Q xs ds:=fun h =>
 Das.rec (motive_1:=fun _ _ _=>True) (motive_2:=fun xs ds _=>Q xs ds) trivial (fun _=>trivial) (fun _=>trivial) (fun _=>trivial) (fun _ _ _ _=>trivial) (fun _ _ _=>trivial) (fun _=>trivial) (fun _ _ _=>trivial) (fun _=>trivial) (fun _ _ _ _ _=>trivial) n (fun p q _ r=>c p q r) h
theorem Da.frame2 (hl:∀ a (xs:MuO),L a→Rd H a xs.ho→L' a∧Rd H' a xs.ho) (ht:∀ a (xs:ImO),H a = some xs.ho→H' a = some xs.ho):(∀ {v:V} {d:PyData},Da G H L v d→Da G H' L' v d)∧∀ {xs:List V} {ds:List PyData},Das G H L xs ds→Das G H' L' xs ds :=
 Da.both .non .bl .int .str (fun {_ xs _} p e r=>.lst (hl _ (.lst xs) p e).1 (hl _ (.lst xs) p e).2 r) (fun {_ xs _} e r=>.tup (ht _ (.tup xs) e) r) .scr (fun c n e=>.exc c n (ht _ (.ext _) e)) .fn (fun p e k r=>.dic (hl _ _ p e).1 (hl _ _ p e).2 k r) .nil .cons
theorem Da.frame (hl:∀ a (xs:MuO),L a→Rd H a xs.ho→L' a∧Rd H' a xs.ho) (ht:∀ a (xs:ImO),H a = some xs.ho→H' a = some xs.ho) {v:V} {d:PyData} (h:Da G H L v d):Da G H' L' v d:=(Da.frame2 hl ht).1 h
theorem Das.frame (hl:∀ a (xs:MuO),L a→Rd H a xs.ho→L' a∧Rd H' a xs.ho) (ht:∀ a (xs:ImO),H a = some xs.ho→H' a = some xs.ho) {xs:List V} {ds:List PyData} (h:Das G H L xs ds):Das G H' L' xs ds:=(Da.frame2 hl ht).2 h
theorem Rd.same {a:Addr} {u:HO} (s:Same H H') (h:Rd H a u):Rd H' a u:=h.imp (s _ _) fun ⟨o,h⟩=>⟨o,s _ _ h⟩
theorem Rd.some {a:Addr} {u:HO} (h:Rd H a u):H a ≠ Option.none:=by
 rcases h with h | ⟨o,h⟩ <;> rw [h] <;> intro z <;> cases z
theorem Da.same (h:Same H H') {v:V} {d:PyData} (x:Da G H L v d):Da G H' L v d:=x.frame (fun a xs p e=>⟨p,e.same h⟩) fun a xs e=>h _ _ e
theorem Das.same (h:Same H H') {v:List V} {d:List PyData} (x:Das G H L v d):Das G H' L v d:=x.frame (fun a xs p e=>⟨p,e.same h⟩) fun a xs e=>h _ _ e
theorem Da.wide (h:∀ a,L a→H a ≠ none→L' a) {v:V} {d:PyData} (x:Da G H L v d):Da G H L' v d:=x.frame (fun a xs p e=>⟨h a p e.some,e⟩) fun a xs e=>e
theorem Das.wide (h:∀ a,L a→H a ≠ none→L' a) {v:List V} {d:List PyData} (x:Das G H L v d):Das G H L' v d:=x.frame (fun a xs p e=>⟨h a p e.some,e⟩) fun a xs e=>e
theorem Das.length {xs:List V} {ds:List PyData} (h:Das G H L xs ds):xs.length = ds.length:=Das.ind (Q:=fun xs ds=>xs.length = ds.length) rfl (fun _ _ r=>congrArg (· + 1) r) h
theorem Das.append {xs ys:List V} {ds es:List PyData} (h:Das G H L xs ds) (k:Das G H L ys es):Das G H L (xs ++ ys) (ds ++ es):=Das.ind (Q:=fun xs ds=>Das G H L (xs ++ ys) (ds ++ es)) k (fun h _ r=>.cons h r) h
theorem Das.get {xs:List V} {ds:List PyData} {i:Nat} {d:PyData} (h:Das G H L xs ds):ds[i]? = some d→∃ x,xs[i]? = some x∧Da G H L x d :=
 Das.ind (Q:=fun xs ds=>∀ i,ds[i]? = some d→∃ x,xs[i]? = some x∧Da G H L x d) (fun _ e=>(Option.some_ne_none _ (e.symm.trans List.getElem?_nil)).elim) (fun {x _ _ _} h _ r i=>Nat.casesOn i (fun e=>⟨x,rfl,Option.some.inj e ▸ h⟩) fun i e=>r i e) h i
theorem Das.get' {xs:List V} {ds:List PyData} {i:Nat} {x:V} (h:Das G H L xs ds):xs[i]? = some x→∃ d,ds[i]? = some d∧Da G H L x d :=
 Das.ind (Q:=fun xs ds=>∀ i,xs[i]? = some x→∃ d,ds[i]? = some d∧Da G H L x d) (fun _ e=>(Option.some_ne_none _ (e.symm.trans List.getElem?_nil)).elim) (fun {_ _ d _} h _ r i=>Nat.casesOn i (fun e=>⟨d,rfl,Option.some.inj e ▸ h⟩) fun i e=>r i e) h i
theorem Das.take {xs:List V} {ds:List PyData} (n:Nat) (h:Das G H L xs ds):Das G H L (xs.take n) (ds.take n) :=
 Das.ind (Q:=fun xs ds=>∀ n,Das G H L (xs.take n) (ds.take n)) (fun n=>by rw [List.take_nil,List.take_nil]; exact .nil) (fun h _ r n=>Nat.casesOn n .nil fun n=>.cons h (r n)) h n
theorem Das.drop {xs:List V} {ds:List PyData} (n:Nat) (h:Das G H L xs ds):Das G H L (xs.drop n) (ds.drop n) :=
 Das.ind (Q:=fun xs ds=>∀ n,Das G H L (xs.drop n) (ds.drop n)) (fun n=>by rw [List.drop_nil,List.drop_nil]; exact .nil) (fun h q r n=>Nat.casesOn n (.cons h q) fun n=>r n) h n
theorem Das.ints (ns:List Int):Das G H L (ns.map V.int) (ns.map PyData.int):=by
 induction ns with
 | nil=>exact .nil
 | cons n ns ih=>exact .cons (.int n) ih
theorem Das.int_inv {xs:List V} {ns:List Int} (h:Das G H L xs (ns.map PyData.int)):xs = ns.map V.int:=by
 induction ns generalizing xs with
 | nil=>cases h; rfl
 | cons n ns ih =>
  rw [List.map_cons] at h
  cases h with
  | cons h r=>cases h; rw [ih r]; rfl
end
theorem Zp2 {h:Heap} (ns:List Int) {us:List Value} (v:Vals (ns.map V.int) us):∃ as,ReadsAll h us (ns.map PyData.int) as:=by
 induction ns generalizing us with
 | nil=>cases v; exact ⟨_,.nil⟩
 | cons n ns ih =>
  rw [List.map_cons] at v
  cases v with
  | cons r rs =>
   obtain ⟨t,e⟩:=(show ∃ t,_ = Value.int n t from r)
   subst e
   obtain ⟨bs,k'⟩:=ih rs
   exact ⟨_,.cons (.int n t) k'⟩
section
variable {X:Cx} {pins:List (Addr × Obj)} {σ:St} {H:Hp} {s:Shared} {L L':Addr→Prop}
theorem Da.reads2 (hG:X.K = G) (I:Inv X pins σ H s):(∀ {v:V} {d:PyData},Da G H L v d→∀ u,RelV v u→d.canLay0 = true→∃ as,Reads s.heap u d as)∧∀ {xs:List V} {ds:List PyData},Das G H L xs ds→∀ us,Vals xs us→PyData.canLayAll0 ds = true→∃ as,ReadsAll s.heap us ds as:=by
 refine Da.both ?_ ?_ ?_ ?_ ?_ ?_ ?_ ?_ ?_ ?_ ?_ ?_
 ·intro u r _
  cases (show _ = Value.none from r)
  exact ⟨_,.none⟩
 ·intro b u r _
  cases (show _ = Value.bool b from r)
  exact ⟨_,.bool b⟩
 ·intro i u r _
  obtain ⟨t,e⟩:=(show ∃ t,_ = Value.int i t from r)
  subst e
  exact ⟨_,.int i t⟩
 ·intro x u r _
  obtain ⟨t,e⟩:=(show ∃ t,_ = Value.str x t from r)
  subst e
  exact ⟨_,.str x t⟩
 ·intro a xs ds _ e q u r hcl
  cases (show _ = Value.ref a from r)
  obtain ⟨_,its,n,vs,h1⟩:=(show ObjOk X.prog X.w H s.heap a (.lst xs) from e.ok I.hok)
  rw [PyData.canLay0] at hcl
  obtain ⟨as,k⟩:=q _ vs hcl
  exact ⟨_,Reads.list h1 rfl rfl k⟩
 ·intro a xs ds e q u r hcl
  cases (show _ = Value.ref a from r)
  obtain ⟨_,its,vs,o,ho,hc,n,hd⟩:=(show ObjOk X.prog X.w H s.heap a (.tup xs) from I.hok a _ e)
  rw [PyData.canLay0] at hcl
  obtain ⟨as,k⟩:=q _ vs hcl
  exact ⟨_,Reads.tuple ho hc hd k⟩
 ·intro a ns k u r _
  cases (show _ = Value.ref a from r)
  subst hG
  obtain ⟨its,vs,⟨o,n,ho,hc,hd,hs⟩,_⟩:=I.list (k.sq (H:=H))
  obtain ⟨as,q⟩:=Zp2 ns vs
  exact ⟨_,Reads.list ho hc hs q⟩
 ·intro a C x _ _ e u r hc
  rw [exD,PyData.canLay0] at hc
  cases hc
 ·intro a x _ u r hc
  rw [fnD,PyData.canLay0] at hc
  cases hc
 ·intro a o t ks xs ds _ _ _ _ u r hc
  rw [dcD,PyData.canLay0] at hc
  cases hc
 ·intro us v _
  cases v
  exact ⟨_,.nil⟩
 ·intro x xs d ds h q us v hc
  cases v with
  | cons r rs =>
   rw [PyData.canLayAll0,Bool.and_eq_true] at hc
   obtain ⟨as,k⟩:=h _ r hc.1
   obtain ⟨bs,k'⟩:=q _ rs hc.2
   exact ⟨_,.cons k k'⟩
theorem Da.reads (hG:X.K = G) (I:Inv X pins σ H s) {v:V} {d:PyData} {u:Value} (h:Da G H L v d) (r:RelV v u) (c:d.canLay0 = true):∃ as,Reads s.heap u d as:=(Da.reads2 hG I).1 h u r c
theorem Das.reads (hG:X.K = G) (I:Inv X pins σ H s) {xs:List V} {ds:List PyData} {us:List Value} (h:Das G H L xs ds) (r:Vals xs us) (c:PyData.canLayAll0 ds = true):∃ as,ReadsAll s.heap us ds as:=(Da.reads2 hG I).2 h us r c
end
inductive OT where
 | fz (d:PyData)
 | nd (ts:List OT)
 | tp (ts:List OT)
 | dc (t:Bool) (ks:List KY) (ds:List PyData)
mutual
noncomputable def OT.data:OT→PyData
 | .fz d=>d
 | .nd ts=>.list (OT.datas ts)
 | .tp ts=>.tuple (OT.datas ts)
 | .dc t ks ds=>dcD t ks ds
noncomputable def OT.datas:List OT→List PyData
 | []=>[]
 | t :: ts=>t.data :: OT.datas ts
end
theorem OT.datas_map:∀ (ts:List OT),OT.datas ts = ts.map OT.data
 | []=>rfl
 | t :: ts=>by rw [OT.datas,OT.datas_map ts]; rfl
@[simp] theorem OT.data_fz (d:PyData):(OT.fz d).data = d:=by rw [OT.data]
@[simp] theorem OT.data_nd (ts:List OT):(OT.nd ts).data = .list (ts.map OT.data):=by rw [OT.data,OT.datas_map]
@[simp] theorem OT.data_tp (ts:List OT):(OT.tp ts).data = .tuple (ts.map OT.data):=by rw [OT.data,OT.datas_map]
theorem OT.data_dc (t:Bool) (ks:List KY) (ds:List PyData):(OT.dc t ks ds).data = dcD t ks ds:=by rw [OT.data]
@[simp] theorem OT.map_fz (ds:List PyData):(ds.map OT.fz).map OT.data = ds:=by
 rw [List.map_map]
 exact (List.map_congr_left fun d _=>OT.data_fz d).trans (List.map_id _)
mutual
inductive Own (G:PySem.W.Frag) (H:Hp) (L:Addr→Prop):V→OT→List Addr→Prop where
 | fz {v:V} {d:PyData}:Da G H L v d→Own G H L v (.fz d) []
 | nd {a:Addr} {xs:List V} {ts:List OT} {bs:List Addr}:H a = some (.lst xs)→Owns G H L xs ts bs→Own G H L (.ref a) (.nd ts) (a :: bs)
 | tp {a:Addr} {xs:List V} {ts:List OT} {bs:List Addr}:H a = some (.tup xs)→Owns G H L xs ts bs→Own G H L (.ref a) (.tp ts) bs
 | dc {a:Addr} {o:MuO} {t:Bool} {ks:List KY} {xs:List V} {ds:List PyData}:H a = some o.ho→o.dic t ks xs→Das G H L xs ds→Own G H L (.ref a) (.dc t ks ds) [a]
inductive Owns (G:PySem.W.Frag) (H:Hp) (L:Addr→Prop):List V→List OT→List Addr→Prop where
 | nil:Owns G H L [] [] []
 | cons {x:V} {xs:List V} {t:OT} {ts:List OT} {as bs:List Addr}:Own G H L x t as→Owns G H L xs ts bs→Owns G H L (x :: xs) (t :: ts) (as ++ bs)
end
section
variable {H H':Hp} {L L':Addr→Prop}
theorem Own.both {P:V→OT→List Addr→Prop} {Q:List V→List OT→List Addr→Prop} (c1:∀ {v:V} {d:PyData},Da G H L v d→P v (.fz d) []) (c2:∀ {a:Addr} {xs:List V} {ts:List OT} {bs:List Addr},H a = some (.lst xs)→Q xs ts bs→P (.ref a) (.nd ts) (a :: bs))
  (c3:∀ {a:Addr} {xs:List V} {ts:List OT} {bs:List Addr},H a = some (.tup xs)→Q xs ts bs→P (.ref a) (.tp ts) bs) (c4:∀ {a:Addr} {o:MuO} {t:Bool} {ks:List KY} {xs:List V} {ds:List PyData},H a = some o.ho→o.dic t ks xs→Das G H L xs ds→P (.ref a) (.dc t ks ds) [a]) (n:Q [] [] []) (c:∀ {x:V} {xs:List V} {t:OT} {ts:List OT} {as bs:List Addr},P x t as→Q xs ts bs→Q (x :: xs) (t :: ts) (as ++ bs)) :
  (∀ {v t as},Own G H L v t as→P v t as)∧∀ {xs ts as},Owns G H L xs ts as→Q xs ts as :=
 ⟨fun h=>Own.rec (motive_1:=fun v t as _=>P v t as) (motive_2:=fun xs ts as _=>Q xs ts as) c1 (fun e _ r=>c2 e r) (fun e _ r=>c3 e r) (fun e k r=>c4 e k r) n (fun _ _ p q=>c p q) h,
   fun h=>Owns.rec (motive_1:=fun v t as _=>P v t as) (motive_2:=fun xs ts as _=>Q xs ts as) c1 (fun e _ r=>c2 e r) (fun e _ r=>c3 e r) (fun e k r=>c4 e k r) n (fun _ _ p q=>c p q) h⟩
theorem Own.frame2 (hl:∀ a (xs:MuO),L a→Rd H a xs.ho→L' a∧Rd H' a xs.ho) (ht:∀ a (xs:ImO),H a = some xs.ho→H' a = some xs.ho) :
  (∀ {v:V} {t:OT} {as:List Addr},Own G H L v t as→(∀ a ∈ as,∀ xs:MuO,H a = some xs.ho→H' a = some xs.ho)→Own G H' L' v t as)∧∀ {xs:List V} {ts:List OT} {as:List Addr},Owns G H L xs ts as→(∀ a ∈ as,∀ xs:MuO,H a = some xs.ho→H' a = some xs.ho)→Owns G H' L' xs ts as :=
 Own.both (fun h _=>.fz (h.frame hl ht)) (fun {_ xs _ _} e r ha=>.nd (ha _ (.head _) (.lst xs) e) (r fun a m=>ha a (.tail _ m))) (fun {_ xs _ _} e r ha=>.tp (ht _ (.tup xs) e) (r ha)) (fun e k r ha=>.dc (ha _ (.head _) _ e) k (r.frame hl ht)) (fun _=>.nil) (fun h r ha=>.cons (h fun a m=>ha a (List.mem_append_left _ m)) (r fun a m=>ha a (List.mem_append_right _ m)))
theorem Own.frame (hl:∀ a (xs:MuO),L a→Rd H a xs.ho→L' a∧Rd H' a xs.ho) (ht:∀ a (xs:ImO),H a = some xs.ho→H' a = some xs.ho) {v:V} {t:OT} {as:List Addr} (ha:∀ a ∈ as,∀ xs:MuO,H a = some xs.ho→H' a = some xs.ho) (h:Own G H L v t as):Own G H' L' v t as:=(Own.frame2 hl ht).1 h ha
theorem Owns.frame (hl:∀ a (xs:MuO),L a→Rd H a xs.ho→L' a∧Rd H' a xs.ho) (ht:∀ a (xs:ImO),H a = some xs.ho→H' a = some xs.ho) {xs:List V} {ts:List OT} {as:List Addr} (ha:∀ a ∈ as,∀ xs:MuO,H a = some xs.ho→H' a = some xs.ho) (h:Owns G H L xs ts as):Owns G H' L' xs ts as:=(Own.frame2 hl ht).2 h ha
theorem Own.same (h:Same H H') {v:V} {t:OT} {as:List Addr} (x:Own G H L v t as):Own G H' L v t as:=x.frame (fun a xs p e=>⟨p,e.same h⟩) (fun a xs e=>h _ _ e) fun a _ xs e=>h _ _ e
theorem Own.wide (h:∀ a,L a→H a ≠ none→L' a) {v:V} {t:OT} {as:List Addr} (x:Own G H L v t as):Own G H L' v t as:=x.frame (fun a xs p e=>⟨h a p e.some,e⟩) (fun a xs e=>e) fun a _ xs e=>e
theorem Owns.wide (h:∀ a,L a→H a ≠ none→L' a) {v:List V} {t:List OT} {as:List Addr} (x:Owns G H L v t as):Owns G H L' v t as:=x.frame (fun a xs p e=>⟨h a p e.some,e⟩) (fun a xs e=>e) fun a _ xs e=>e
theorem Owns.same (h:Same H H') {v:List V} {t:List OT} {as:List Addr} (x:Owns G H L v t as):Owns G H' L v t as:=x.frame (fun a xs p e=>⟨p,e.same h⟩) (fun a xs e=>h _ _ e) fun a _ xs e=>h _ _ e
theorem Own.da2 (h:∀ a,L a→H a ≠ none→L' a):(∀ {v:V} {t:OT} {as:List Addr},Own G H L v t as→(∀ a ∈ as,L' a)→Da G H L' v t.data)∧∀ {v:List V} {t:List OT} {as:List Addr},Owns G H L v t as→(∀ a ∈ as,L' a)→Das G H L' v (OT.datas t) :=
 Own.both (fun k _=>by rw [OT.data_fz]; exact k.wide h) (fun e r ha=>by rw [OT.data]; exact .lst (ha _ (.head _)) (.inl e) (r fun a m=>ha a (.tail _ m))) (fun e r ha=>by rw [OT.data]; exact .tup e (r ha)) (fun e k r ha=>by rw [OT.data]; exact .dic (ha _ (.head _)) (.inl e) k (r.wide h)) (fun _=>.nil) (fun k r ha=>.cons (k fun a m=>ha a (List.mem_append_left _ m)) (r fun a m=>ha a (List.mem_append_right _ m)))
theorem Own.da (h:∀ a,L a→H a ≠ none→L' a) {v:V} {t:OT} {as:List Addr} (ha:∀ a ∈ as,L' a) (k:Own G H L v t as):Da G H L' v t.data:=(Own.da2 h).1 k ha
theorem Owns.das (h:∀ a,L a→H a ≠ none→L' a) {v:List V} {t:List OT} {as:List Addr} (ha:∀ a ∈ as,L' a) (k:Owns G H L v t as):Das G H L' v (OT.datas t):=(Own.da2 h).2 k ha
theorem Own.some2:(∀ {v:V} {t:OT} {as:List Addr},Own G H L v t as→∀ a ∈ as,∃ xs:MuO,H a = some xs.ho)∧∀ {v:List V} {t:List OT} {as:List Addr},Owns G H L v t as→∀ a ∈ as,∃ xs:MuO,H a = some xs.ho :=
 Own.both (fun _ _ m=>nomatch m) (fun {_ xs _ _} e r a m=>(List.mem_cons.mp m).elim (fun q=>⟨.lst xs,q ▸ e⟩) (r a)) (fun _ r=>r) (fun {_ o _ _ _ _} e _ _ a m=>⟨o,List.mem_singleton.mp m ▸ e⟩) (fun _ m=>nomatch m) (fun k r a m=>(List.mem_append.mp m).elim (k a) (r a))
theorem Own.some {v:V} {t:OT} {as:List Addr} (h:Own G H L v t as):∀ a ∈ as,∃ xs:MuO,H a = some xs.ho:=Own.some2.1 h
theorem Owns.some {v:List V} {t:List OT} {as:List Addr} (h:Owns G H L v t as):∀ a ∈ as,∃ xs:MuO,H a = some xs.ho:=Own.some2.2 h
theorem Owns.length {xs:List V} {ts:List OT} {as:List Addr} (h:Owns G H L xs ts as):xs.length = ts.length:=(Own.both (P:=fun _ _ _=>True) (Q:=fun xs ts _=>xs.length = ts.length) (fun _=>trivial) (fun _ _=>trivial) (fun _ _=>trivial) (fun _ _ _=>trivial) rfl (fun _ r=>congrArg (· + 1) r)).2 h
theorem Das.owns {xs:List V} {ds:List PyData} (h:Das G H L xs ds):Owns G H L xs (ds.map OT.fz) []:=Das.ind (Q:=fun xs ds=>Owns G H L xs (ds.map OT.fz) []) .nil (fun h _ r=>.cons (.fz h) r) h
end
end L2
namespace L2
open PySem PySem.Spec PyProof.Rows
variable {G:PySem.W.Frag}
noncomputable abbrev Zh:=List (Option OT)
noncomputable abbrev Fp:=Nat→List Addr
set_option genInjectivity false in
structure MC (G:PySem.W.Frag) where
 H₀:Hp
 as₀:Addr→Prop
 L:Addr→Prop
 σ₀:St
noncomputable def Foot (fp:Fp) (a:Addr):Prop:=∃ i,a ∈ fp i
noncomputable def Lf (C:MC G) (fp:Fp) (ex:Addr→Prop) (a:Addr):Prop:=¬ Foot fp a∧¬ ex a∧(C.L a∨C.H₀ a = none)
structure Rel (C:MC G) (io:List Nat) (H:Hp) (σ:St) (δ:Zh) (fp:Fp) (ex:Addr→Prop):Prop where
 len:σ.length = δ.length
 own:∀ (i:Nat) (t:OT),δ[i]? = some (some t)→∃ v,σ[i]? = some (some v)∧Own G H (Lf C fp ex) v t (fp i)
 emp:∀ i:Nat,(∀ t,δ[i]? ≠ some (some t))→fp i = []
 nd:∀ i,(fp i).Nodup
 dj:∀ i j a,a ∈ fp i→a ∈ fp j→i = j
 dx:∀ i a,a ∈ fp i→¬ ex a
 xa:∀ a,ex a→H a ≠ none
 fr:∀ b o,C.H₀ b = some o→¬ C.as₀ b→H b = some o
 al:∀ b,H b = none→C.H₀ b = none
 new:∀ i a,a ∈ fp i→(i ∈ io∧C.as₀ a)∨C.H₀ a = none
 io:∀ i ∈ io,σ[i]? = C.σ₀[i]?
structure Stp (p:Bool) (H:Hp) (δ:Zh) (fp:Fp) (H':Hp) (δ':Zh) (fp':Fp):Prop where
 keep:∀ b o,H b = some o→(p = true∨¬ Foot fp b)→H' b = some o
 env:p = true→δ' = δ∧fp' = fp
 grow:∀ a,Foot fp' a→Foot fp a∨H a = none
 al:∀ b,H' b = none→H b = none
section
variable {C:MC G} {io:List Nat} {H H' H'':Hp} {σ:St} {δ δ' δ'':Zh} {fp fp' fp'':Fp} {ex ex':Addr→Prop} {p p' c:Bool} {v:V} {d:PyData} {r:OT} {new:List Addr}
theorem Rel.foot (R:Rel C io H σ δ fp ex) {a:Addr} (h:Foot fp a):∃ xs:MuO,H a = some xs.ho:=by
 obtain ⟨i,h⟩:=h
 by_cases q:∃ t,δ[i]? = some (some t)
 ·obtain ⟨t,q⟩:=q
  obtain ⟨v,_,o⟩:=R.own i t q
  exact o.some a h
 ·rw [R.emp i (fun t z=>q ⟨t,z⟩)] at h
  exact nomatch h
theorem Rel.footSome (R:Rel C io H σ δ fp ex) {a:Addr} (h:H a = none):¬ Foot fp a:=fun z=>by
 obtain ⟨xs,e⟩:=R.foot z
 rw [h] at e
 cases e
theorem Stp.refl (p:Bool) (H:Hp) (δ:Zh) (fp:Fp):Stp p H δ fp H δ fp:=⟨fun _ _ h _=>h,fun _=>⟨rfl,rfl⟩,fun _ h=>.inl h,fun _ h=>h⟩
theorem Stp.same (h:Same H H') (hn:∀ b,H' b = none→H b = none):Stp p H δ fp H' δ fp:=⟨fun _ _ q _=>h _ _ q,fun _=>⟨rfl,rfl⟩,fun _ h=>.inl h,hn⟩
theorem Same.al (h:Same H H'):∀ b,H' b = none→H b = none:=fun _ q=>h.free q
theorem Stp.trans (a:Stp p H δ fp H' δ' fp') (b:Stp p' H' δ' fp' H'' δ'' fp''):Stp (p && p') H δ fp H'' δ'' fp'' where
 keep:=fun x o e h=>by
  rcases h with h | h
  ·rw [Bool.and_eq_true] at h
   exact b.keep x o (a.keep x o e (.inl h.1)) (.inl h.2)
  ·refine b.keep x o (a.keep x o e (.inr h)) (.inr fun z=>?_)
   rcases a.grow x z with z | z
   ·exact h z
   ·rw [e] at z; cases z
 env:=fun h=>by
  rw [Bool.and_eq_true] at h
  obtain ⟨e1,e2⟩:=a.env h.1
  obtain ⟨e3,e4⟩:=b.env h.2
  exact ⟨e3.trans e1,e4.trans e2⟩
 grow:=fun x h=>by
  rcases b.grow x h with h | h
  ·exact a.grow x h
  ·exact .inr (a.al x h)
 al:=fun x h=>a.al x (b.al x h)
theorem Rel.frameL (R:Rel C io H σ δ fp ex) (S:Stp p H δ fp H' δ' fp') (hc:p = true∨c = true) (hx:∀ a,ex' a→ex a∨H a = none) :
  (∀ a (xs:MuO),(c = true→Lf C fp ex a)→Rd H a xs.ho→(c = true→Lf C fp' ex' a)∧Rd H' a xs.ho)∧(∀ a (xs:ImO),H a = some xs.ho→H' a = some xs.ho):=by
 have nf:∀ a,Foot fp a→∃ xs:MuO,H a = some xs.ho:=fun a h=>R.foot h
 refine ⟨fun a xs l q=>⟨fun hc'=>?_,?_⟩,fun a xs q=>S.keep a _ q (.inr fun z=>?_)⟩
 ·obtain ⟨l1,l2,l3⟩:=l hc'
  refine ⟨fun z=>?_,fun z=>?_,l3⟩
  ·rcases S.grow a z with z | z
   ·exact l1 z
   ·exact q.some z
  ·rcases hx a z with z | z
   ·exact l2 z
   ·exact q.some z
 ·have hk:p = true∨¬ Foot fp a:=by
   rcases hc with h | h
   ·exact .inl h
   ·exact .inr (l h).1
  rcases q with q | ⟨o,q⟩
  ·exact .inl (S.keep a _ q hk)
  ·exact .inr ⟨o,S.keep a _ q hk⟩
 ·obtain ⟨ys,e⟩:=nf a z
  exact ImO.nm q e
theorem Rel.own_step (R:Rel C io H σ δ fp ex) (S:Stp p H δ fp H' δ' fp') (hc:p = true∨c = true) (hx:∀ a,ex' a→ex a∨H a = none) (hn:∀ a ∈ new,ex a)
  (x:Own G H (fun a=>c = true→Lf C fp ex a) v r new):Own G H' (fun a=>c = true→Lf C fp' ex' a) v r new :=
 x.frame (R.frameL S hc hx).1 (R.frameL S hc hx).2 fun a m xs e=>S.keep a _ e (.inr fun ⟨i,z⟩=>R.dx i a z (hn a m))
theorem Rel.owns_step (R:Rel C io H σ δ fp ex) (S:Stp p H δ fp H' δ' fp') (hc:p = true∨c = true) (hx:∀ a,ex' a→ex a∨H a = none) (hn:∀ a ∈ new,ex a) {vs:List V} {rs:List OT}
  (x:Owns G H (fun a=>c = true→Lf C fp ex a) vs rs new):Owns G H' (fun a=>c = true→Lf C fp' ex' a) vs rs new :=
 x.frame (R.frameL S hc hx).1 (R.frameL S hc hx).2 fun a m xs e=>S.keep a _ e (.inr fun ⟨i,z⟩=>R.dx i a z (hn a m))
theorem Rel.drop (R:Rel C io H σ δ fp ex) (h:∀ a,ex' a→ex a):Rel C io H σ δ fp ex' :=
 ⟨R.len,fun i t e=>by
  obtain ⟨v,e1,o⟩:=R.own i t e
  exact ⟨v,e1,o.wide fun a l _=>⟨l.1,fun z=>l.2.1 (h a z),l.2.2⟩⟩,R.emp,R.nd,R.dj,fun i a m z=>R.dx i a m (h a z),fun a z=>R.xa a (h a z),R.fr,R.al,R.new,R.io⟩
theorem Rel.made (R:Rel C io H σ δ fp ex) (s:Same H H') (hn:∀ a ∈ new,H a = none∧H' a ≠ none):Rel C io H' σ δ fp (fun a=>ex a∨a ∈ new) :=
 ⟨R.len,fun i t e=>by
  obtain ⟨v,e1,o⟩:=R.own i t e
  refine ⟨v,e1,(o.wide fun a l q=>⟨l.1,fun z=>?_,l.2.2⟩).same s⟩
  rcases z with z | z
  ·exact l.2.1 z
  ·exact q (hn a z).1,R.emp,R.nd,R.dj,fun i a m z=>by
   rcases z with z | z
   ·exact R.dx i a m z
   ·exact R.footSome (hn a z).1 ⟨i,m⟩,fun a z=>by
   rcases z with z | z
   ·intro q; exact R.xa a z (s.free q)
   ·exact (hn a z).2,fun b o e n=>s _ _ (R.fr b o e n),fun b q=>R.al b (s.free q),R.new,R.io⟩
end
noncomputable abbrev MEt:=Zh→(OT→Zh→Prop)→Prop
noncomputable abbrev MAt:=Zh→(List OT→Zh→Prop)→Prop
noncomputable abbrev MTt:=Zh→(Bool→Zh→Prop)→Prop
noncomputable abbrev exu (ex:Addr→Prop) (new:List Addr):Addr→Prop:=fun a=>ex a∨a ∈ new
structure RE (C:MC G) (io:List Nat) (p c:Bool) (H:Hp) (σ:St) (δ:Zh) (fp:Fp) (ex:Addr→Prop) (H':Hp) (v:V) (r:OT) (δ':Zh) (fp':Fp) (new:List Addr):Prop where
 rel:Rel C io H' σ δ' fp' (exu ex new)
 stp:Stp p H δ fp H' δ' fp'
 own:Own G H' (fun a=>c = true→Lf C fp' (exu ex new) a) v r new
 nd:new.Nodup
 fresh:∀ a ∈ new,H a = none
structure RA (C:MC G) (io:List Nat) (p c:Bool) (H:Hp) (σ:St) (δ:Zh) (fp:Fp) (ex:Addr→Prop) (H':Hp) (v:List V) (r:List OT) (δ':Zh) (fp':Fp) (new:List Addr):Prop where
 rel:Rel C io H' σ δ' fp' (exu ex new)
 stp:Stp p H δ fp H' δ' fp'
 own:Owns G H' (fun a=>c = true→Lf C fp' (exu ex new) a) v r new
 nd:new.Nodup
 fresh:∀ a ∈ new,H a = none
noncomputable def SE (G:PySem.W.Frag) (io:List Nat) (p c:Bool) (t:TE) (m:MEt):Prop:=∀ (C:MC G) (H:Hp) (σ:St) (δ:Zh) (fp:Fp) (ex:Addr→Prop) (K:OT→Zh→Prop) (Q:VK),Rel C io H σ δ fp ex→m δ K →
 (∀ H' v r δ' fp' new,RE C io p c H σ δ fp ex H' v r δ' fp' new→K r δ'→Q v H')→t σ H Q
noncomputable def SA (G:PySem.W.Frag) (io:List Nat) (p c:Bool) (t:TA) (m:MAt):Prop:=∀ (C:MC G) (H:Hp) (σ:St) (δ:Zh) (fp:Fp) (ex:Addr→Prop) (K:List OT→Zh→Prop) (Q:List V→Hp→Prop),Rel C io H σ δ fp ex→m δ K →
 (∀ H' v r δ' fp' new,RA C io p c H σ δ fp ex H' v r δ' fp' new→K r δ'→Q v H')→t σ H Q
noncomputable def STt (G:PySem.W.Frag) (io:List Nat) (p:Bool) (t:TT) (m:MTt):Prop:=∀ (C:MC G) (H:Hp) (σ:St) (δ:Zh) (fp:Fp) (ex:Addr→Prop) (K:Bool→Zh→Prop) (Q:Bool→Hp→Prop),Rel C io H σ δ fp ex→m δ K →
 (∀ H' b δ' fp',Rel C io H' σ δ' fp' ex→Stp p H δ fp H' δ' fp'→K b δ'→Q b H')→t σ H Q
noncomputable def ME (X:Cx) (io:List Nat) (p c:Bool) (e:Expr) (m:MEt):Prop:=∃ t,PE X e t∧SE X.K io p c t m
noncomputable def MA (X:Cx) (io:List Nat) (p c:Bool) (e:List Expr) (m:MAt):Prop:=∃ t,PA X e t∧SA X.K io p c t m
noncomputable def MT (X:Cx) (io:List Nat) (p:Bool) (e:Expr) (m:MTt):Prop:=∃ t,PT X e t∧STt X.K io p t m
noncomputable def MW (X:Cx) (io:List Nat) (p:Bool) (e:Expr) (m:MTt):Prop:=∃ t,PW X e t∧STt X.K io p t m
section
variable {C:MC G} {io:List Nat} {H H' H'':Hp} {σ:St} {δ δ' δ'':Zh} {fp fp' fp'':Fp} {ex ex':Addr→Prop} {p p' c:Bool} {v:V} {d:PyData} {r:OT} {vs:List V} {rs:List OT} {new:List Addr}
theorem Rel.newOk (R:Rel C io H σ δ fp ex) {a:Addr} (h:H a = none):¬ Foot fp a∧¬ ex a∧C.H₀ a = none:=⟨R.footSome h,fun z=>R.xa a z h,R.al a h⟩
theorem RE.da (R:RE C io p c H σ δ fp ex H' v r δ' fp' new) (R0:Rel C io H σ δ fp ex):Da G H' (fun a=>c = true→Lf C fp' ex a) v r.data:=by
 refine R.own.da (fun a l _ h=>?_) (fun a m _=>?_)
 ·exact ⟨(l h).1,fun z=>(l h).2.1 (.inl z),(l h).2.2⟩
 ·refine ⟨fun qz9=>?_,(R0.newOk (R.fresh a m)).2.1,.inr (R0.newOk (R.fresh a m)).2.2⟩
  obtain ⟨i,z⟩:=qz9
  exact R.rel.dx i a z (.inr m)
theorem RA.das (R:RA C io p c H σ δ fp ex H' vs rs δ' fp' new) (R0:Rel C io H σ δ fp ex):Das G H' (fun a=>c = true→Lf C fp' ex a) vs (OT.datas rs):=by
 refine R.own.das (fun a l _ h=>?_) (fun a m _=>?_)
 ·exact ⟨(l h).1,fun z=>(l h).2.1 (.inl z),(l h).2.2⟩
 ·refine ⟨fun qz9=>?_,(R0.newOk (R.fresh a m)).2.1,.inr (R0.newOk (R.fresh a m)).2.2⟩
  obtain ⟨i,z⟩:=qz9
  exact R.rel.dx i a z (.inr m)
theorem RE.base (R:RE C io p c H σ δ fp ex H' v r δ' fp' new):Rel C io H' σ δ' fp' ex:=R.rel.drop fun a z=>.inl z
theorem RA.base (R:RA C io p c H σ δ fp ex H' vs rs δ' fp' new):Rel C io H' σ δ' fp' ex:=R.rel.drop fun a z=>.inl z
theorem Zc6 {a:Addr}:exu ex [] a ↔ ex a:=by simp [exu]
theorem RE.fz (R:Rel C io H' σ δ' fp' ex) (S:Stp p H δ fp H' δ' fp') (h:Da G H' (fun a=>c = true→Lf C fp' ex a) v d):RE C io p c H σ δ fp ex H' v (.fz d) δ' fp' [] :=
 ⟨R.drop fun a z=>Zc6.mp z,S,.fz (h.wide fun a l _ hc=>⟨(l hc).1,fun z=>(l hc).2.1 (Zc6.mp z),(l hc).2.2⟩),.nil,fun a m=>nomatch m⟩
theorem RE.tree {H1:Hp} (R0:Rel C io H σ δ fp ex) (R:Rel C io H1 σ δ' fp' ex) (S:Stp p H δ fp H1 δ' fp') (s:Same H1 H') (hn:∀ a ∈ new,H1 a = none) (nd:new.Nodup)
  (o:Own G H' (fun a=>((c = true→Lf C fp' ex a)∨H1 a = none)∧a ∉ new) v r new):RE C io p c H σ δ fp ex H' v r δ' fp' new:=by
 refine ⟨R.made s fun a m=>⟨hn a m,fun z=>?_⟩,?_,o.wide fun a l q hc=>?_,nd,fun a m=>S.al a (hn a m)⟩
 ·obtain ⟨xs,e⟩:=o.some a m
  rw [z] at e; cases e
 ·have:=S.trans (p':=true) (Stp.same (p:=true) (δ:=δ') (fp:=fp') s s.al)
  rwa [Bool.and_true] at this
 ·rcases l.1 with l1 | l1
  ·exact ⟨(l1 hc).1,fun z=>z.elim (l1 hc).2.1 l.2,(l1 hc).2.2⟩
  ·exact ⟨R.footSome l1,fun z=>z.elim (fun z=>R.xa a z l1) l.2,.inr (R.al a l1)⟩
end
inductive ScD:V→PyData→Prop where
 | non:ScD .non .none
 | bl (b:Bool):ScD (.bl b) (.bool b)
 | int (i:Int):ScD (.int i) (.int i)
 | str (x:Str):ScD (.str x) (.str x)
theorem ScD.da {H:Hp} {L:Addr→Prop} {v:V} {d:PyData} (h:ScD v d):Da G H L v d:=by
 cases h
 ·exact .non
 ·exact .bl _
 ·exact .int _
 ·exact .str _
section
variable {X:Cx} {io:List Nat} {p p' c c':Bool} {e a b:Expr} {m ma mb:MEt} {es:List Expr}
noncomputable def Z69 (i:Nat):MEt:=fun δ K=>match δ[i]? with | some (some (.fz d))=>K (.fz d) δ | _=>False
noncomputable def Z61 (i:Nat):MEt:=fun δ K=>match δ[i]? with | some (some t)=>K (.fz t.data) δ | _=>False
noncomputable def mC (d:PyData):MEt:=fun δ K=>K (.fz d) δ
theorem mv (i:Nat) {x:Str} {pos:Pos} (hN:X.N[i]? = some x:=by rfl) (hv:Vis X.env.scope x:=by first | exact Or.inl rfl | exact Or.inr (Or.inl rfl) | exact Or.inr (Or.inr rfl)) (hd:(x == ("__debug__" : Str)) = false:=by decide)
  (hcd:(x == ("__classdict__" : Str)) = false:=by decide):ME X io true true (.Name x pos) (Z69 i):=by
 refine ⟨_,pv i hN hv hd hcd,fun C H σ δ fp ex K Q R h k=>?_⟩
 unfold Z69 at h
 split at h
 ·rename_i d hd
  obtain ⟨v,e,o⟩:=R.own i _ hd
  refine ⟨v,e,k H v _ δ fp [] (.fz R (.refl _ _ _ _) ?_) h⟩
  generalize fp i = as at o
  cases o with
  | fz q=>exact q.wide fun a l _ _=>l
 ·exact h.elim
theorem mo (i:Nat) {x:Str} {pos:Pos} (hN:X.N[i]? = some x:=by rfl) (hv:Vis X.env.scope x:=by first | exact Or.inl rfl | exact Or.inr (Or.inl rfl) | exact Or.inr (Or.inr rfl)) (hd:(x == ("__debug__" : Str)) = false:=by decide)
  (hcd:(x == ("__classdict__" : Str)) = false:=by decide):ME X io true false (.Name x pos) (Z61 i):=by
 refine ⟨_,pv i hN hv hd hcd,fun C H σ δ fp ex K Q R h k=>?_⟩
 unfold Z61 at h
 split at h
 ·rename_i d hd
  obtain ⟨v,e,o⟩:=R.own i _ hd
  exact ⟨v,e,k H v _ δ fp [] (.fz R (.refl _ _ _ _) (o.da (fun a _ _ z=>(nomatch z)) fun a _ z=>(nomatch z))) h⟩
 ·exact h.elim
theorem Zju {t:V} {d:PyData} (h:PE X e (tC t)) (s:ScD t d):ME X io true true e (mC d) :=
 ⟨_,h,fun C H σ δ fp ex K Q R h k=>k H t _ δ fp [] (.fz R (.refl _ _ _ _) s.da) h⟩
theorem Z3d {i j pos}:ME X io true true (.Constant (.int i) j pos) (mC (.int i)):=Zju Z2q (.int i)
theorem Zjw {b j pos}:ME X io true true (.Constant (.bool b) j pos) (mC (.bool b)):=Zju Z73 (.bl b)
theorem Zoa {j pos}:ME X io true true (.Constant .none j pos) (mC .none):=Zju Z4i .non
theorem Zqw {x j pos}:ME X io true true (.Constant (.str x) j pos) (mC (.str x)):=Zju Z5i (.str x)
theorem SE.two {ta tb:TE} (ha:SE G io p c ta ma) (hb:SE G io p' c' tb mb) (hc:p' = true∨c = true) {C:MC G} {H:Hp} {σ:St} {δ:Zh} {fp:Fp} {ex:Addr→Prop} {K:OT→OT→Zh→Prop} {Q:V→V→Hp→Prop}
  (R:Rel C io H σ δ fp ex) (h:ma δ fun x δ1=>mb δ1 fun y δ2=>K x y δ2)
  (k:∀ H' x y u v δ' fp',Rel C io H' σ δ' fp' ex→Stp (p && p') H δ fp H' δ' fp'→Da G H' (fun a=>(c && c') = true→Lf C fp' ex a) x u.data→Da G H' (fun a=>(c && c') = true→Lf C fp' ex a) y v.data→K u v δ'→Q x y H') :
  ta σ H fun x H1=>tb σ H1 fun y H2=>Q x y H2:=by
 refine ha C H σ δ fp ex _ _ R h fun H1 x u δ1 fp1 new1 r1 h1=>?_
 refine hb C H1 σ δ1 fp1 (exu ex new1) _ _ r1.rel h1 fun H2 y v δ2 fp2 new2 r2 h2=>?_
 have o1:=r1.rel.own_step (ex':=exu (exu ex new1) new2) r2.stp (c:=c) hc (fun a z=>z.imp id fun z=>r2.fresh a z) (fun a m=>.inr m) r1.own
 have R2:Rel C io H2 σ δ2 fp2 ex:=r2.rel.drop fun a z=>.inl (.inl z)
 have q1:Da G H2 (fun a=>c = true→Lf C fp2 ex a) x u.data:=by
  refine o1.da (fun a l _ z=>?_) (fun a m z=>?_)
  ·exact ⟨(l z).1,fun w=>(l z).2.1 (.inl (.inl w)),(l z).2.2⟩
  ·have:=R.newOk (r1.fresh a m)
   refine ⟨fun qz9=>?_,this.2.1,.inr this.2.2⟩
   obtain ⟨i,w⟩:=qz9
   exact r2.rel.dx i a w (.inl (.inr m))
 have q2:=r2.da r1.rel
 refine k H2 x y u v δ2 fp2 R2 (r1.stp.trans r2.stp) (q1.wide fun a l _ z=>l (by rw [Bool.and_eq_true] at z; exact z.1)) (q2.wide fun a l _ z=>?_) h2
 have l:=l (by rw [Bool.and_eq_true] at z; exact z.2)
 exact ⟨l.1,fun w=>l.2.1 (.inl w),l.2.2⟩
noncomputable def P2s (G:PySem.W.Frag) (r:R2) (rp:PyData→PyData→(PyData→Prop)→Prop):Prop:=∀ (H:Hp) (L:Addr→Prop) (x y:V) (d e:PyData) (k:PyData→Prop) (Q:VK),Da G H L x d→Da G H L y e→rp d e k→(∀ v d',ScD v d'→k d'→Q v H)→r x y H Q
noncomputable def P2 (G:PySem.W.Frag) (r:R2) (rp:PyData→PyData→(OT→Prop)→Prop):Prop:=∀ (H:Hp) (L:Addr→Prop) (x y:V) (d e:PyData) (k:OT→Prop) (Q:VK),Da G H L x d→Da G H L y e→rp d e k →
 (∀ H' v o new,Same H H'→Own G H' (fun a=>(L a∨H a = none)∧a ∉ new) v o new→new.Nodup→(∀ a ∈ new,H a = none)→k o→Q v H')→r x y H Q
noncomputable def Zmm (rp:PyData→PyData→(PyData→Prop)→Prop) (ma mb:MEt):MEt:=fun δ K=>ma δ fun x δ1=>mb δ1 fun y δ2=>rp x.data y.data fun d=>K (.fz d) δ2
noncomputable def Z6s (rp:PyData→PyData→(OT→Prop)→Prop) (ma mb:MEt):MEt:=fun δ K=>ma δ fun x δ1=>mb δ1 fun y δ2=>rp x.data y.data fun d=>K d δ2
theorem Zz8 {r:R2} {rp} {ta tb:TE} (P:P2s G r rp) (ha:SE G io p c ta ma) (hb:SE G io p' c' tb mb) (hc:p' = true∨c = true):SE G io (p && p') true (tOp r ta tb) (Zmm rp ma mb):=by
 intro C H σ δ fp ex K Q R h k
 refine SE.two (K:=fun x y δ2=>rp x.data y.data fun d=>K (.fz d) δ2) (Q:=fun x y H2=>r x y H2 Q) ha hb hc R h fun H' x y u v δ' fp' R' S q1 q2 h'=>?_
 exact P H' _ x y _ _ _ _ q1 q2 h' fun w d' sc h''=>k H' w _ δ' fp' [] (.fz R' S sc.da) h''
theorem Yaj {r:R2} {rp} {ta tb:TE} (P:P2 G r rp) (ha:SE G io p c ta ma) (hb:SE G io p' c' tb mb) (hc:p' = true∨c = true):SE G io (p && p') (c && c') (tOp r ta tb) (Z6s rp ma mb):=by
 intro C H σ δ fp ex K Q R h k
 refine SE.two (K:=fun x y δ2=>rp x.data y.data fun d=>K d δ2) (Q:=fun x y H2=>r x y H2 Q) ha hb hc R h fun H' x y u v δ' fp' R' S q1 q2 h'=>?_
 exact P H' _ x y _ _ _ _ q1 q2 h' fun H2 w o new s ow nd hn h''=>k H2 w o δ' fp' new (RE.tree R R' S s hn nd ow) h''
theorem Zp5 {op:Operator} {r:R2} {rp} {pos:Pos} (ho:OpR X (binaryOp op) r) (P:P2s X.K r rp) (ha:ME X io p c a ma) (hb:ME X io p' c' b mb) (hc:p' = true∨c = true:=by first | exact Or.inl rfl | exact Or.inr rfl):ME X io (p && p') true (.BinOp a op b pos) (Zmm rp ma mb):=by
 obtain ⟨_,A,sa⟩:=ha
 obtain ⟨_,B,sb⟩:=hb
 exact ⟨_,Zzw ho A B,Zz8 P sa sb hc⟩
theorem Z6n {op:Operator} {r:R2} {rp} {pos:Pos} (ho:OpR X (binaryOp op) r) (P:P2 X.K r rp) (ha:ME X io p c a ma) (hb:ME X io p' c' b mb) (hc:p' = true∨c = true:=by first | exact Or.inl rfl | exact Or.inr rfl):ME X io (p && p') (c && c') (.BinOp a op b pos) (Z6s rp ma mb):=by
 obtain ⟨_,A,sa⟩:=ha
 obtain ⟨_,B,sb⟩:=hb
 exact ⟨_,Zzw ho A B,Yaj P sa sb hc⟩
theorem Zkx {op:CmpOp} {r:R2} {rp} {pos:Pos} (ho:OpR X (compareOp op) r) (P:P2s X.K r rp) (ha:ME X io p c a ma) (hb:ME X io p' c' b mb) (hc:p' = true∨c = true:=by first | exact Or.inl rfl | exact Or.inr rfl) (hm:behindInMarks op b = false):ME X io (p && p') true (.Compare a [op] [b] pos) (Zmm rp ma mb):=by
 obtain ⟨_,A,sa⟩:=ha
 obtain ⟨_,B,sb⟩:=hb
 exact ⟨_,Z1m ho A B hm,Zz8 P sa sb hc⟩
theorem Ycp {r:R2} {rp} {pos:Pos} (ho:IxR X r) (P:P2 X.K r rp) (ha:ME X io p c a ma) (hb:ME X io p' c' b mb) (hc:p' = true∨c = true:=by first | exact Or.inl rfl | exact Or.inr rfl) (hs:Zgq b):ME X io (p && p') (c && c') (.Subscript a b pos) (Z6s rp ma mb):=by
 obtain ⟨_,A,sa⟩:=ha
 obtain ⟨_,B,sb⟩:=hb
 exact ⟨_,Zzo ho A B hs,Yaj P sa sb hc⟩
noncomputable def kB (K:Bool→Zh→Prop):OT→Zh→Prop:=fun o δ=>match o with | .fz (.bool b)=>K b δ | _=>False
theorem Z71 {t:TE} (h:SE G io p c t m):STt G io p (Z52 t) (fun δ K=>m δ (kB K)):=by
 intro C H σ δ fp ex K Q R h' k
 refine h C H σ δ fp ex _ _ R h' fun H' v r δ' fp' new r1 h1=>?_
 cases r with
 | nd ts=>exact h1.elim
 | tp ts=>exact h1.elim
 | dc _ _ _=>exact h1.elim
 | fz d =>
  cases d with
  | bool b =>
   cases r1.own with
   | fz q =>
    cases q
    exact ⟨b,rfl,k H' b δ' fp' r1.base r1.stp h1⟩
  | _=>exact h1.elim
theorem Zbi {op:CmpOp} {r:R2} {rp} {pos:Pos} (ho:OpR X (compareOp op) r) (P:P2s X.K r rp) (ha:ME X io p c a ma) (hb:ME X io p' c' b mb) (hc:p' = true∨c = true:=by first | exact Or.inl rfl | exact Or.inr rfl) (hm:behindInMarks op b = false) :
  MT X io (p && p') (.Compare a [op] [b] pos) (fun δ K=>Zmm rp ma mb δ (kB K)):=by
 obtain ⟨_,A,sa⟩:=ha
 obtain ⟨_,B,sb⟩:=hb
 exact ⟨_,Zzn ho A B hm,Z71 (Zz8 P sa sb hc)⟩
end
end L2
namespace L2
open PySem PySem.Spec PyProof.Rows
variable {G:PySem.W.Frag}
section
variable {X:Cx} {io:List Nat} {p p' p'' c c':Bool} {e a b:Expr} {m ma mb:MEt} {es rest:List Expr} {ta tb:MTt} {pos:Pos}
noncomputable def Ya2 (t:MTt):MTt:=fun δ K=>t δ fun b δ'=>K (!b) δ'
noncomputable def mOr (t u:MTt):MTt:=fun δ K=>t δ fun b δ'=>if b = true then K true δ' else u δ' K
theorem Zxq (h:MT X io p a ta):MT X io p (.UnaryOp .Not a pos) (Ya2 ta):=by
 obtain ⟨_,A,sa⟩:=h
 exact ⟨_,Z4s A,fun C H σ δ fp ex K Q R h k=>sa C H σ δ fp ex _ _ R h fun H' b δ' fp' R' S h'=>k H' (!b) δ' fp' R' S h'⟩
theorem Zq5 (h:MT X io p a ta):MW X io p (.BoolOp .Or [a] pos) ta:=by
 obtain ⟨_,A,sa⟩:=h
 exact ⟨_,Z59 A,sa⟩
theorem Stp.andL {H H':Hp} {δ δ':Zh} {fp fp':Fp} (S:Stp p H δ fp H' δ' fp'):Stp (p && p') H δ fp H' δ' fp':=by
 have:=S.trans (Stp.refl p' H' δ' fp')
 exact this
theorem Zu1 (h:MT X io p a ta) (g:MW X io p' (.BoolOp .Or (b :: rest) pos) tb):MW X io (p && p') (.BoolOp .Or (a :: b :: rest) pos) (mOr ta tb):=by
 obtain ⟨_,A,sa⟩:=h
 obtain ⟨_,B,sb⟩:=g
 exact ⟨_,Z9c A B,fun C H σ δ fp ex K Q R h k=>sa C H σ δ fp ex _ _ R h fun H' b δ' fp' R' S h'=>by
  cases b with
  | true =>
   rw [if_pos rfl] at h' ⊢
   exact k H' true δ' fp' R' S.andL h'
  | false =>
   rw [if_neg Bool.false_ne_true] at h' ⊢
   exact sb C H' σ δ' fp' ex _ _ R' h' fun H2 b2 δ2 fp2 R2 S2 h2=>k H2 b2 δ2 fp2 R2 (S.trans S2) h2⟩
theorem MW.mt (h:MW X io p e ta):MT X io p e ta:=by
 obtain ⟨_,A,sa⟩:=h
 exact ⟨_,A.pt,sa⟩
noncomputable def Zvf:PyData→Option Bool
 | .none=>some false
 | .bool b=>some b
 | .int i=>some (i != 0)
 | .list ds=>some (!ds.isEmpty)
 | .tuple ds=>some (!ds.isEmpty)
 | _=>none
noncomputable def Ybl (m:MEt):MTt:=fun δ K=>m δ fun r δ'=>match Zvf r.data with | some b=>K b δ' | none=>False
theorem Das.isEmpty {H:Hp} {L:Addr→Prop} {xs:List V} {ds:List PyData} (h:Das G H L xs ds):xs.isEmpty = ds.isEmpty:=by cases h <;> rfl
theorem Zcw (ha:ME X io p c a ma) (he:∀ whole,isTrue a X.env whole = (do let v ← whole; standAt a.pos; holding [v] (truthy v))):MT X io p a (Ybl ma):=by
 obtain ⟨_,A,sa⟩:=ha
 exact ⟨_,Z0k rfl A he,fun C H σ δ fp ex K' Q R h k=>sa C H σ δ fp ex _ _ R h fun H' v r δ' fp' new r1 h1=>by
  have q:=r1.da R
  generalize r.data = d at q h1
  cases q with
  | non=>exact ⟨_,rfl,k H' _ δ' fp' r1.base r1.stp h1⟩
  | bl b=>exact ⟨_,rfl,k H' _ δ' fp' r1.base r1.stp h1⟩
  | int b=>exact ⟨_,rfl,k H' _ δ' fp' r1.base r1.stp h1⟩
  | str x=>exact h1.elim
  | lst _ e q=>exact ⟨_,.inl ⟨_,.inl e,rfl⟩,k H' _ δ' fp' r1.base r1.stp (by rw [q.isEmpty]; exact h1)⟩
  | tup e q=>exact ⟨_,.inr (.inl ⟨_,.inl (.inl e),rfl⟩),k H' _ δ' fp' r1.base r1.stp (by rw [q.isEmpty]; exact h1)⟩
  | scr q=>exact ⟨_,.inl ⟨_,q.sq,rfl⟩,k H' _ δ' fp' r1.base r1.stp (by simpa [Zvf] using h1)⟩
  | exc _ _ _=>exact h1.elim
  | fn _=>exact h1.elim
  | dic _ _ _ _=>exact h1.elim⟩
noncomputable def asB (d:PyData) (k:Bool→Prop):Prop:=match d with | .bool b=>k b | _=>False
noncomputable def Z32 (a b:MEt):MEt:=fun δ K=>a δ fun x δ1=>asB x.data fun c=>if c = true then b δ1 K else K (.fz (.bool false)) δ1
noncomputable def Z33 (a:MEt):MEt:=fun δ K=>a δ fun x δ1=>asB x.data fun c=>K (.fz (.bool (!c))) δ1
noncomputable def mIf (t:MTt) (a b:MEt):MEt:=fun δ K=>t δ fun c δ1=>if c = true then a δ1 K else b δ1 K
theorem Da.boolInv {H:Hp} {L:Addr→Prop} {v:V} {d:PyData} {k:Bool→Prop} (q:Da G H L v d) (h:asB d k):∃ b,v = .bl b∧k b:=by
 cases q with
 | bl b=>exact ⟨b,rfl,h⟩
 | _=>exact h.elim
theorem RE.step {C:MC G} {H H1 H2:Hp} {σ:St} {δ δ1 δ2:Zh} {fp fp1 fp2:Fp} {ex:Addr→Prop} {v:V} {r:OT} {new:List Addr} (S:Stp p H δ fp H1 δ1 fp1) (R:RE C io p' c H1 σ δ1 fp1 ex H2 v r δ2 fp2 new) :
  RE C io (p && p') c H σ δ fp ex H2 v r δ2 fp2 new:=⟨R.rel,S.trans R.stp,R.own,R.nd,fun a m=>S.al a (R.fresh a m)⟩
theorem Zrr {op} (h:ME X io p c a ma):ME X io p c (.BoolOp op [a] pos) ma:=by
 obtain ⟨_,A,sa⟩:=h
 exact ⟨_,Z3r A,sa⟩
theorem Zmt (ha:ME X io p c a ma) (hb:ME X io p' c' (.BoolOp .And (b :: rest) pos) mb):ME X io (p && p') c' (.BoolOp .And (a :: b :: rest) pos) (Z32 ma mb):=by
 obtain ⟨_,A,sa⟩:=ha
 obtain ⟨_,B,sb⟩:=hb
 exact ⟨_,Z3y A B,fun C H σ δ fp ex K Q R h k=>sa C H σ δ fp ex _ _ R h fun H' v r δ' fp' new r1 h1=>by
  obtain ⟨b,rfl,h1⟩:=(r1.da R).boolInv h1
  refine ⟨b,rfl,?_⟩
  cases b with
  | true =>
   rw [if_pos rfl] at h1 ⊢
   exact sb C H' σ δ' fp' ex _ _ r1.base h1 fun H2 w r2 δ2 fp2 new2 R2 h2=>k H2 w r2 δ2 fp2 new2 (R2.step r1.stp) h2
  | false =>
   rw [if_neg Bool.false_ne_true] at h1 ⊢
   exact k H' _ _ δ' fp' [] (RE.fz r1.base r1.stp.andL (.bl false)) h1⟩
theorem Z6h (ha:ME X io p c a ma):ME X io p true (.UnaryOp .Not a pos) (Z33 ma):=by
 obtain ⟨_,A,sa⟩:=ha
 exact ⟨_,Z4z A,fun C H σ δ fp ex K Q R h k=>sa C H σ δ fp ex _ _ R h fun H' v r δ' fp' new r1 h1=>by
  obtain ⟨b,rfl,h1⟩:=(r1.da R).boolInv h1
  exact ⟨b,rfl,k H' _ _ δ' fp' [] (RE.fz r1.base r1.stp (.bl _)) h1⟩⟩
theorem Stp.cast {p p':Bool} {H H':Hp} {δ δ':Zh} {fp fp':Fp} (h:p' = true→p = true) (S:Stp p H δ fp H' δ' fp'):Stp p' H δ fp H' δ' fp' :=
 ⟨fun b o e q=>S.keep b o e (q.imp h id),fun q=>S.env (h q),S.grow,S.al⟩
theorem RE.cast {C:MC G} {H H1:Hp} {σ:St} {δ δ1:Zh} {fp fp1:Fp} {ex:Addr→Prop} {v:V} {r:OT} {new:List Addr} (hp:p' = true→p = true) (hc:c' = true→c = true) (R:RE C io p c H σ δ fp ex H1 v r δ1 fp1 new) :
  RE C io p' c' H σ δ fp ex H1 v r δ1 fp1 new:=⟨R.rel,R.stp.cast hp,R.own.wide fun a l _ z=>l (hc z),R.nd,R.fresh⟩
theorem Ybw {t:Expr} (ht:MT X io p t ta) (ha:ME X io p' c a ma) (hb:ME X io p'' c' b mb):ME X io (p && (p' && p'')) (c && c') (.IfExp t a b pos) (mIf ta ma mb):=by
 obtain ⟨_,T,st⟩:=ht
 obtain ⟨_,A,sa⟩:=ha
 obtain ⟨_,B,sb⟩:=hb
 exact ⟨_,Zvd T A B,fun C H σ δ fp ex K Q R h k=>st C H σ δ fp ex _ _ R h fun H' b δ' fp' R' S h'=>by
  cases b with
  | true =>
   rw [if_pos rfl] at h' ⊢
   exact sa C H' σ δ' fp' ex _ _ R' h' fun H2 w r2 δ2 fp2 new2 R2 h2=>k H2 w r2 δ2 fp2 new2 ((R2.step S).cast (fun z=>by simp at z; simp [z]) (fun z=>by simp at z; exact z.1)) h2
  | false =>
   rw [if_neg Bool.false_ne_true] at h' ⊢
   exact sb C H' σ δ' fp' ex _ _ R' h' fun H2 w r2 δ2 fp2 new2 R2 h2=>k H2 w r2 δ2 fp2 new2 ((R2.step S).cast (fun z=>by simp at z; simp [z]) (fun z=>by simp at z; exact z.2)) h2⟩
end
section
variable {X:Cx} {io:List Nat} {p p' p'' c c':Bool} {e a b:Expr} {m ma mb:MEt} {es rest:List Expr} {mr:MAt} {pos:Pos}
noncomputable def Ybx:MAt:=fun δ K=>K [] δ
noncomputable def Z3p (m:MEt) (mr:MAt):MAt:=fun δ K=>m δ fun r δ1=>mr δ1 fun rs δ2=>K (r :: rs) δ2
theorem Zk4:MA X io true true [] Ybx:=⟨_,Zgu,fun C H σ δ fp ex K Q R h k=>k H [] [] δ fp [] ⟨R.drop fun a z=>Zc6.mp z,.refl _ _ _ _,.nil,.nil,fun a m=>nomatch m⟩ h⟩
theorem Z0m (ha:ME X io p c e m) (hr:MA X io p' c' es mr) (hc:p' = true∨c = true) (hs:starEach (e :: es) X.env = (false,eval e X.env) :: starEach es X.env:=by rfl):MA X io (p && p') (c && c') (e :: es) (Z3p m mr):=by
 obtain ⟨tA,A,sa⟩:=ha
 obtain ⟨tB,B,sb⟩:=hr
 refine ⟨_,Zc7 A B hs,fun C H σ δ fp ex K Q R h k=>?_⟩
 refine sa C H σ δ fp ex _ _ R h fun H1 x u δ1 fp1 new1 r1 h1=>?_
 refine sb C H1 σ δ1 fp1 (exu ex new1) _ _ r1.rel h1 fun H2 ys us δ2 fp2 new2 r2 h2=>?_
 have o1:=r1.rel.own_step (ex':=exu (exu ex new1) new2) r2.stp (c:=c) hc (fun a z=>z.imp id fun z=>r2.fresh a z) (fun a m=>.inr m) r1.own
 have eqx:∀ a,exu ex (new1 ++ new2) a→exu (exu ex new1) new2 a:=fun a z=>by
  rcases z with z | z
  ·exact .inl (.inl z)
  ·rcases List.mem_append.mp z with z | z
   ·exact .inl (.inr z)
   ·exact .inr z
 refine k H2 (x :: ys) (u :: us) δ2 fp2 (new1 ++ new2) ⟨r2.rel.drop eqx,r1.stp.trans r2.stp,.cons (o1.wide fun a l _ z=>?_) (r2.own.wide fun a l _ z=>?_),?_,?_⟩ h2
 ·have l:=l (by rw [Bool.and_eq_true] at z; exact z.1)
  exact ⟨l.1,fun w=>l.2.1 (eqx a w),l.2.2⟩
 ·have l:=l (by rw [Bool.and_eq_true] at z; exact z.2)
  exact ⟨l.1,fun w=>l.2.1 (eqx a w),l.2.2⟩
 ·refine List.nodup_append.mpr ⟨r1.nd,r2.nd,fun a m b m' z=>?_⟩
  subst z
  obtain ⟨xs,e⟩:=r1.own.some a m
  rw [r2.fresh a m'] at e
  cases e
 ·intro a m
  rcases List.mem_append.mp m with m | m
  ·exact r1.fresh a m
  ·exact r1.stp.al a (r2.fresh a m)
noncomputable def Z99 (m:MAt):MEt:=fun δ K=>m δ fun rs δ'=>rs.length ≤ sizeLine∧K (.fz (.tuple (OT.datas rs))) δ'
noncomputable def Yan (m:MAt):MEt:=fun δ K=>m δ fun rs δ'=>rs.length ≤ sizeLine∧K (.nd rs) δ'
theorem Z94 {x1} (h:MA X io p c es mr):ME X io p c (.Tuple es x1 pos) (Z99 mr):=by
 obtain ⟨tA,A,sa⟩:=h
 refine ⟨_,Z3l A,fun C H σ δ fp ex K Q R h k=>?_⟩
 refine sa C H σ δ fp ex _ _ R h fun H1 vs rs δ1 fp1 new1 r1 h1=>⟨by rw [r1.own.length]; exact h1.1,fun q hq=>?_⟩
 have s:=Yc hq (.tup vs)
 have R1:=r1.base
 have S:=r1.stp.trans (p':=true) (Stp.same (p:=true) (δ:=δ1) (fp:=fp1) s s.al)
 rw [Bool.and_true] at S
 refine k _ _ _ δ1 fp1 [] (.fz ?_ S (.tup Z7 ((r1.das R).same s))) h1.2
 exact (R1.made (new:=[]) s fun a m=>nomatch m).drop fun a z=>.inl z
theorem Z93 (h:MA X io p c es mr):ME X io p c (.List es pos) (Yan mr):=by
 obtain ⟨tA,A,sa⟩:=h
 refine ⟨_,Zxi A,fun C H σ δ fp ex K Q R h k=>?_⟩
 refine sa C H σ δ fp ex _ _ R h fun H1 vs rs δ1 fp1 new1 r1 h1=>⟨by rw [r1.own.length]; exact h1.1,fun q hq=>?_⟩
 have s:=Yc hq (.lst vs)
 have S:=r1.stp.trans (p':=true) (Stp.same (p:=true) (δ:=δ1) (fp:=fp1) s s.al)
 rw [Bool.and_true] at S
 have hqn:q ∉ new1:=fun m=>by
  obtain ⟨xs,e⟩:=r1.own.some q m
  rw [hq] at e; cases e
 have R2:=(r1.rel.made (new:=[q]) s fun a m=>by
  rcases List.mem_singleton.mp m with rfl
  exact ⟨hq,by rw [Z7]; intro z; cases z⟩)
 have eqx:∀ a,exu ex (q :: new1) a→exu (exu ex new1) [q] a:=fun a z=>by
  rcases z with z | z
  ·exact .inl (.inl z)
  ·rcases List.mem_cons.mp z with z | z
   ·exact .inr (List.mem_singleton.mpr z)
   ·exact .inl (.inr z)
 refine k _ _ _ δ1 fp1 (q :: new1) ⟨R2.drop eqx,S,.nd Z7 ((r1.own.wide fun a l w z=>?_).same s),List.nodup_cons.mpr ⟨hqn,r1.nd⟩,fun a m=>?_⟩ h1.2
 ·have l:=l z
  refine ⟨l.1,fun y=>?_,l.2.2⟩
  rcases eqx a y with y | y
  ·exact l.2.1 y
  ·rcases List.mem_singleton.mp y with rfl
   exact w hq
 ·rcases List.mem_cons.mp m with rfl | m
  ·exact r1.stp.al _ hq
  ·exact r1.fresh a m
end
end L2
namespace L2
open PySem PySem.Spec PyProof.Rows
variable {G:PySem.W.Frag}
noncomputable def spD (G:PySem.W.Frag) (S:List PyData→(OT→Prop)→Prop):Sp:=fun vs H Q _=>∃ L ds k,Das G H L vs ds∧S ds k ∧
 ∀ r v H' new,k r→Same H H'→Own G H' (fun a=>(L a∨H a = none)∧a ∉ new) v r new→new.Nodup→(∀ a ∈ new,H a = none)→Q v H'
section
variable {X:Cx} {io:List Nat} {p p' p'' c c':Bool} {e a b:Expr} {m ma mb:MEt} {es rest:List Expr} {mr:MAt} {pos:Pos}
variable {CX:CXT} {k:Nat} {f:Addr} {fd:FuncData} {ps:List Str} {E:XK} {x:Str} {pp:Pos}
noncomputable def Zun (S:List PyData→(OT→Prop)→Prop) (mr:MAt):MEt:=fun δ K=>mr δ fun rs δ1=>S (OT.datas rs) fun r=>K r δ1
theorem Z5l {S} {t:TA} (sa:SA G io p c t mr):SE G io p c (Zz9 (spD G S) [] E t) (Zun S mr):=by
 intro C H σ δ fp ex K Q R h kk
 refine sa C H σ δ fp ex _ _ R h fun H1 vs rs δ1 fp1 new1 r1 h1=>?_
 rw [List.append_nil]
 refine ⟨_,_,_,r1.das R,h1,fun r v H' new kr s o nd hn=>?_⟩
 exact kk H' v r δ1 fp1 new (RE.tree R r1.base r1.stp s hn nd o) kr
theorem Zxw {S} (F:FnOk X.prog X.w X.K X.mg X.base CX k f fd ps (spD X.K S)) (hr:Room k X.A) (hg:Gl X x) (hm:X.mg x = some (.ref f)) (hk:PySem.W.keepIn X.K (.ref f) = true) (hb:Binds X.K fd ps []) (hx:Ziw CX X E)
  (ha:MA X io p c (e :: es) mr) (hdb:(x == ("__debug__" : Str)) = false:=by decide) (he:starEach (e :: es) X.env = (false,eval e X.env) :: starEach es X.env:=by rfl) (hpl:(backTo pos (starEach es X.env)).any (·.1) = false:=by rfl) :
  ME X io p c (.Call (.Name x pp) (e :: es) [] pos) (Zun S mr):=by
 obtain ⟨_,A,sa⟩:=ha
 exact ⟨_,Zze F hr hg hm hk hb .nil hx A hdb he hpl,Z5l sa⟩
theorem Ybf (hg:Gl X x) (hm:X.mg x = some (.ref f)) (hc:ClsAt X.K x f) (hdb:(x == ("__debug__" : Str)) = false:=by decide):ME X io true true (.Name x pos) (mC (fnD x)) :=
 ⟨_,Z19 (v:=.ref f) hg hm rfl hdb,fun C H σ δ fp ex K Q R h k=>k H (.ref f) _ δ fp [] (.fz R (.refl _ _ _ _) (.fn hc)) h⟩
noncomputable def Z2p (i:Nat) (f:Addr) (sp:Sp) (E:XK) (t:TA):TE:=fun σ H Q=>σ[i]? = some (some (.ref f))∧Zz9 sp [] E t σ H Q
theorem Zuu {sp:Sp} {t:TA} {i:Nat} (F:FnOk X.prog X.w X.K X.mg X.base CX k f fd ps sp) (hr:Room k X.A) (hN:X.N[i]? = some x) (hv:Vis X.env.scope x) (hk:PySem.W.keepIn X.K (.ref f) = true) (hb:Binds X.K fd ps []) (hx:Ziw CX X E)
  (ha:PA X (e :: es) t) (hdb:(x == ("__debug__" : Str)) = false:=by decide) (hcd:(x == ("__classdict__" : Str)) = false:=by decide) (he:starEach (e :: es) X.env = (false,eval e X.env) :: starEach es X.env:=by rfl) (hpl:(backTo pos (starEach es X.env)).any (·.1) = false:=by rfl) :
  PE X (.Call (.Name x pp) (e :: es) [] pos) (Z2p i f sp E t):=by
 intro pins s σ H Q I h
 obtain ⟨e0,h⟩:=h
 refine wpAny_Call_Name_kw (thn (Zxz hN hv hdb hcd pins s σ H (fun v H'=>v = .ref f∧H' = H) I ⟨_,e0,rfl,rfl⟩) fun u s0 q=>?_)
 obtain ⟨v,H0,I0,r0,e1,e2⟩:=q
 subst e1 e2
 cases (show u = Value.ref f from r0)
 refine PySem.W.callWith_K (h₀:=X.base) I0.ok.mod.kin hk (thn (ha pos pins s0 σ H0 _ I0 h) fun us s1 q=>?_) he hpl
 obtain ⟨vs,H1,I1,r,q⟩:=q
 exact ⟨I1.kIn,Zyb F hr hb .nil hx I1 r q⟩
noncomputable def Zx3 (i:Nat) (y:Str) (S:List PyData→(OT→Prop)→Prop) (mr:MAt):MEt:=fun δ K=>δ[i]? = some (some (.fz (fnD y)))∧Zun S mr δ K
theorem Da.fnInv {H:Hp} {L:Addr→Prop} {v:V} {y:Str} {f:Addr} (q:Da G H L v (fnD y)) (hf:ClsAt G y f):v = .ref f:=by
 generalize ed:fnD y = d at q
 cases q with
 | fn h =>
  unfold fnD at ed
  injection ed with ed
  injection ed with ed _
  injection ed with ed _
  injection ed with ed
  subst ed
  have:=h.symm.trans hf
  injection this with this
  injection this with this
  injection this with this
  rw [this]
 | exc _ _ _=>unfold fnD exD at ed; cases ed
 | _=>unfold fnD at ed; cases ed
theorem Zsu {S} {i:Nat} {y:Str} (F:FnOk X.prog X.w X.K X.mg X.base CX k f fd ps (spD X.K S)) (hr:Room k X.A) (hc:ClsAt X.K y f) (hk:PySem.W.keepIn X.K (.ref f) = true) (hb:Binds X.K fd ps []) (hx:Ziw CX X E)
  (ha:MA X io p c (e :: es) mr) (hN:X.N[i]? = some x:=by rfl) (hv:Vis X.env.scope x:=by first | exact Or.inl rfl | exact Or.inr (Or.inl rfl) | exact Or.inr (Or.inr rfl)) (hdb:(x == ("__debug__" : Str)) = false:=by decide) (hcd:(x == ("__classdict__" : Str)) = false:=by decide)
  (he:starEach (e :: es) X.env = (false,eval e X.env) :: starEach es X.env:=by rfl) (hpl:(backTo pos (starEach es X.env)).any (·.1) = false:=by rfl):ME X io p c (.Call (.Name x pp) (e :: es) [] pos) (Zx3 i y S mr):=by
 obtain ⟨_,A,sa⟩:=ha
 refine ⟨_,Zuu F hr hN hv hk hb hx A hdb hcd he hpl,fun C H σ δ fp ex K Q R h kk=>?_⟩
 obtain ⟨h0,h⟩:=h
 obtain ⟨v,e1,o⟩:=R.own i _ h0
 generalize fp i = as at o
 cases o with
 | fz q =>
  rw [q.fnInv hc] at e1
  exact ⟨e1,Z5l sa C H σ δ fp ex K Q R h kk⟩
noncomputable def fpu (fp:Fp) (i:Nat) (as:List Addr):Fp:=fun j=>if j = i then as else fp j
theorem Yh {fp:Fp} {i:Nat} {as:List Addr}:fpu fp i as i = as:=if_pos rfl
theorem Wd {fp:Fp} {i j:Nat} {as:List Addr} (h:j ≠ i):fpu fp i as j = fp j:=if_neg h
theorem Foot.of_u {fp:Fp} {i:Nat} {as:List Addr} {a:Addr} (h:Foot (fpu fp i as) a):a ∈ as∨∃ j,j ≠ i∧a ∈ fp j:=by
 obtain ⟨j,h⟩:=h
 by_cases e:j = i
 ·subst e; rw [Yh] at h; exact .inl h
 ·rw [Wd e] at h; exact .inr ⟨j,e,h⟩
theorem Rel.change {C:MC G} {H H':Hp} {σ:St} {δ:Zh} {fp:Fp} {ex:Addr→Prop} {i:Nat} {t t':OT} {v:V} {as' new:List Addr} (R:Rel C io H σ δ fp ex) (hi:δ[i]? = some (some t)) (hv:σ[i]? = some (some v))
  (keep:∀ b o,H b = some o→b ∉ fp i→H' b = some o) (al:∀ b,H' b = none→H b = none) (o:Own G H' (Lf C (fpu fp i as') (exu ex new)) v t' as') (nd:as'.Nodup) (new':∀ a ∈ as',a ∈ fp i∨H a = none)
  (hn:∀ a ∈ new,H a = none∧H' a ≠ none∧a ∉ as') :
  Rel C io H' σ (δ.set i (some t')) (fpu fp i as') (exu ex new)∧Stp false H δ fp H' (δ.set i (some t')) (fpu fp i as'):=by
 have hil:i < δ.length:=(List.getElem?_eq_some_iff.mp hi).1
 have apart:∀ j a,j ≠ i→a ∈ fp j→a ∉ as':=fun j a e m z=>by
  rcases new' a z with z | z
  ·exact e (R.dj j i a m z)
  ·exact R.footSome z ⟨j,m⟩
 constructor
 ·refine ⟨by rw [List.length_set]; exact R.len,fun j t'' e=>?_,fun j h=>?_,fun j=>?_,fun j k a h1 h2=>?_,fun j a h z=>?_,fun a z w=>z.elim (fun z=>R.xa a z (al a w)) (fun z=>(hn a z).2.1 w),fun b ob e n=>?_,fun b z=>R.al b (al b z),fun j a h=>?_,R.io⟩
  ·by_cases ej:j = i
   ·subst ej
    rw [List.getElem?_set_self hil] at e
    cases e
    exact ⟨v,hv,by rw [Yh]; exact o⟩
   ·rw [List.getElem?_set_ne (Ne.symm ej)] at e
    obtain ⟨w,e1,o1⟩:=R.own j t'' e
    refine ⟨w,e1,?_⟩
    rw [Wd ej]
    refine o1.frame (fun a xs l q=>?_) (fun a xs q=>keep a _ q fun z=>?_) fun a m xs q=>keep a _ q fun z=>ej (R.dj j i a m z)
    ·have na:a ∉ fp i:=fun z=>l.1 ⟨i,z⟩
     refine ⟨⟨fun z=>?_,fun z=>z.elim l.2.1 fun z=>q.some (hn a z).1,l.2.2⟩,?_⟩
     ·rcases z.of_u with z | ⟨k,_,z⟩
      ·rcases new' a z with z | z
       ·exact na z
       ·exact q.some z
      ·exact l.1 ⟨k,z⟩
     ·rcases q with q | ⟨u,q⟩
      ·exact .inl (keep a _ q na)
      ·exact .inr ⟨u,keep a _ q na⟩
    ·obtain ⟨ys,e⟩:=R.foot ⟨i,z⟩
     exact ImO.nm q e
  ·by_cases ej:j = i
   ·subst ej
    exact absurd (List.getElem?_set_self hil) (h t')
   ·rw [Wd ej]
    refine R.emp j fun t'' z=>h t'' ?_
    rw [List.getElem?_set_ne (Ne.symm ej)]
    exact z
  ·by_cases ej:j = i
   ·subst ej; rw [Yh]; exact nd
   ·rw [Wd ej]; exact R.nd j
  ·by_cases ej:j = i
   ·subst ej
    rw [Yh] at h1
    by_cases ek:k = j
    ·exact ek.symm
    ·rw [Wd ek] at h2
     exact absurd h1 (apart k a ek h2)
   ·rw [Wd ej] at h1
    by_cases ek:k = i
    ·subst ek
     rw [Yh] at h2
     exact absurd h2 (apart j a ej h1)
    ·rw [Wd ek] at h2
     exact R.dj j k a h1 h2
  ·by_cases ej:j = i
   ·subst ej
    rw [Yh] at h
    rcases z with z | z
    ·rcases new' a h with w | w
     ·exact R.dx _ a w z
     ·exact R.xa a z w
    ·exact (hn a z).2.2 h
   ·rw [Wd ej] at h
    rcases z with z | z
    ·exact R.dx j a h z
    ·exact R.footSome (hn a z).1 ⟨j,h⟩
  ·refine keep b ob (R.fr b ob e n) fun z=>?_
   rcases R.new i b z with w | w
   ·exact n w.2
   ·rw [e] at w; cases w
  ·by_cases ej:j = i
   ·subst ej
    rw [Yh] at h
    rcases new' a h with w | w
    ·exact R.new _ a w
    ·exact .inr (R.al a w)
   ·rw [Wd ej] at h
    exact R.new j a h
 ·refine ⟨fun b ob e q=>keep b ob e fun z=>(q.resolve_left (by decide)) ⟨i,z⟩,fun z=>(nomatch z),fun a z=>?_,al⟩
  rcases z.of_u with z | ⟨j,_,z⟩
  ·exact (new' a z).imp (fun w=>⟨i,w⟩) id
  ·exact .inl ⟨j,z⟩
noncomputable def PNs (G:PySem.W.Frag) (r:List V→Hp→VK→Prop) (rp:List PyData→(PyData→Prop)→Prop):Prop:=∀ (H:Hp) (L:Addr→Prop) (xs:List V) (ds:List PyData) (k:PyData→Prop) (Q:VK),Das G H L xs ds→rp ds k→(∀ v d',ScD v d'→k d'→Q v H)→r xs H Q
noncomputable def PN (G:PySem.W.Frag) (r:List V→Hp→VK→Prop) (rp:List PyData→(OT→Prop)→Prop):Prop:=∀ (H:Hp) (L:Addr→Prop) (xs:List V) (ds:List PyData) (k:OT→Prop) (Q:VK),Das G H L xs ds→rp ds k →
 (∀ H' v o new,Same H H'→Own G H' (fun a=>(L a∨H a = none)∧a ∉ new) v o new→new.Nodup→(∀ a ∈ new,H a = none)→k o→Q v H')→r xs H Q
noncomputable def Z8h (rp:List PyData→(PyData→Prop)→Prop) (mr:MAt):MEt:=fun δ K=>mr δ fun rs δ1=>rp (OT.datas rs) fun d=>K (.fz d) δ1
noncomputable def mBl (rp:List PyData→(OT→Prop)→Prop) (mr:MAt):MEt:=fun δ K=>mr δ fun rs δ1=>rp (OT.datas rs) fun o=>K o δ1
theorem Yc9 {r rp} {t:TA} (P:PNs G r rp) (sa:SA G io p c t mr):SE G io p true (tCB r t) (Z8h rp mr):=fun C H σ δ fp ex K Q R h kk =>
 sa C H σ δ fp ex _ _ R h fun H1 vs rs δ1 fp1 new1 r1 h1=>P H1 _ vs _ _ _ (r1.das R) h1 fun v d' sc h2=>kk H1 v _ δ1 fp1 [] (.fz r1.base r1.stp sc.da) h2
theorem sBl {r rp} {t:TA} (P:PN G r rp) (sa:SA G io p c t mr):SE G io p c (tCB r t) (mBl rp mr):=fun C H σ δ fp ex K Q R h kk =>
 sa C H σ δ fp ex _ _ R h fun H1 vs rs δ1 fp1 new1 r1 h1=>P H1 _ vs _ _ _ (r1.das R) h1 fun H' v o new s ow nd hn h2=>kk H' v o δ1 fp1 new (RE.tree R r1.base r1.stp s hn nd ow) h2
variable {id T:String} {r:List V→Hp→VK→Prop}
theorem Zht {rp} (P:PNs X.K r rp) (hc:Zd9 X (.builtin id) r) (hg:Gl X x) (hm:X.mg x = none) (hv:bootBuiltins x = some (.builtin id)) (ha:MA X io p c (e :: es) mr) (hn:x ≠ "__name__" := by decide) (hdb:(x == ("__debug__" : Str)) = false:=by decide)
  (he:starEach (e :: es) X.env = (false,eval e X.env) :: starEach es X.env:=by rfl) (hpl:(backTo pos (starEach es X.env)).any (·.1) = false:=by rfl):ME X io p true (.Call (.Name x pp) (e :: es) [] pos) (Z8h rp mr):=by
 obtain ⟨_,A,sa⟩:=ha
 exact ⟨_,Zjo hc hg hm hv A hn hdb he hpl,Yc9 P sa⟩
theorem Z7k {rp} (P:PN X.K r rp) (hc:Zd9 X (.builtin id) r) (hg:Gl X x) (hm:X.mg x = none) (hv:bootBuiltins x = some (.builtin id)) (ha:MA X io p c (e :: es) mr) (hn:x ≠ "__name__" := by decide) (hdb:(x == ("__debug__" : Str)) = false:=by decide)
  (he:starEach (e :: es) X.env = (false,eval e X.env) :: starEach es X.env:=by rfl) (hpl:(backTo pos (starEach es X.env)).any (·.1) = false:=by rfl):ME X io p c (.Call (.Name x pp) (e :: es) [] pos) (mBl rp mr):=by
 obtain ⟨_,A,sa⟩:=ha
 exact ⟨_,Zjo hc hg hm hv A hn hdb he hpl,sBl P sa⟩
end
end L2
namespace L2
open PySem PySem.Spec PyProof.Rows
variable {G:PySem.W.Frag}
mutual
noncomputable def Zgh:PyData→Bool
 | .none=>true
 | .bool _=>true
 | .int _=>true
 | .str _=>true
 | .tuple ds=>Zss ds
 | .list _=>false
 | .dict _=>false
noncomputable def Zss:List PyData→Bool
 | []=>true
 | d :: ds=>Zgh d && Zss ds
end
set_option genInjectivity false in
structure Zhv where
 nx:Zh→Prop
 rt:OT→Zh→Prop
 bk:Zh→Prop:=fun _=>False
 ct:Zh→Prop:=fun _=>False
noncomputable abbrev MSt:=Zhv→Zh→Prop
noncomputable abbrev Kp (H:Hp) (fp:Fp) (H':Hp) (fp':Fp):Prop:=Stp false H [] fp H' [] fp'
theorem Stp.kp {p:Bool} {H H':Hp} {δ δ':Zh} {fp fp':Fp} (S:Stp p H δ fp H' δ' fp'):Kp H fp H' fp':=⟨fun b o e q=>S.keep b o e (.inr (q.resolve_left (by decide))),fun z=>(nomatch z),S.grow,S.al⟩
theorem Kp.trans {H H1 H2:Hp} {fp fp1 fp2:Fp} (a:Kp H fp H1 fp1) (b:Kp H1 fp1 H2 fp2):Kp H fp H2 fp2:=Stp.trans a b
theorem Kp.refl (H:Hp) (fp:Fp):Kp H fp H fp:=Stp.refl _ _ _ _
structure RelEnds (C:MC G) (io:List Nat) (ex:Addr→Prop) (H:Hp) (fp:Fp) (D:Zhv) (D':Ends):Prop where
 nx:∀ H' σ' δ' fp',Rel C io H' σ' δ' fp' ex→Kp H fp H' fp'→D.nx δ'→D'.nx σ' H'
 bk:∀ H' σ' δ' fp',Rel C io H' σ' δ' fp' ex→Kp H fp H' fp'→D.bk δ'→D'.bk σ' H'
 ct:∀ H' σ' δ' fp',Rel C io H' σ' δ' fp' ex→Kp H fp H' fp'→D.ct δ'→D'.ct σ' H'
 rt:∀ H' σ' v r δ' fp' new,Rel C io H' σ' δ' fp' (exu ex new)→Own G H' (Lf C fp' (exu ex new)) v r new→new.Nodup→(∀ a ∈ new,C.H₀ a = none)→D.rt r δ'→D'.rt v H'
theorem RelEnds.shift {C:MC G} {io:List Nat} {ex:Addr→Prop} {H H1:Hp} {fp fp1:Fp} {D:Zhv} {D':Ends} (E:RelEnds C io ex H fp D D') (k:Kp H fp H1 fp1):RelEnds C io ex H1 fp1 D D' :=
 ⟨fun H' σ' δ' fp' R q=>E.nx H' σ' δ' fp' R (k.trans q),fun H' σ' δ' fp' R q=>E.bk H' σ' δ' fp' R (k.trans q),fun H' σ' δ' fp' R q=>E.ct H' σ' δ' fp' R (k.trans q),E.rt⟩
noncomputable def SS (G:PySem.W.Frag) (io:List Nat) (t:TS) (m:MSt):Prop:=∀ (C:MC G) (H:Hp) (σ:St) (δ:Zh) (fp:Fp) (ex:Addr→Prop) (D:Zhv) (D':Ends),Rel C io H σ δ fp ex→m D δ→RelEnds C io ex H fp D D'→t D' σ H
noncomputable def MS (X:Cx) (io:List Nat) (st:Stmt) (m:MSt):Prop:=∃ t,PS X st t∧SS X.K io t m
noncomputable def MSs (X:Cx) (io:List Nat) (st:List Stmt) (m:MSt):Prop:=∃ t,PSs X st t∧SS X.K io t m
section
variable {X:Cx} {io:List Nat} {p p' p'' c c':Bool} {e a b:Expr} {m ma mb:MEt} {es rest:List Expr} {mr:MAt} {pos:Pos} {st:Stmt} {sts:List Stmt} {u w:MSt} {mt:MTt}
noncomputable def Z27:MSt:=fun D δ=>D.nx δ
noncomputable def Ycl (w:MSt) (D:Zhv) (δ:Zh):Prop:=w D δ
noncomputable def Z8f (u w:MSt):MSt:=fun D δ=>u { D with nx:=Ycl w D } δ
theorem Ze3:MSs X io [] Z27:=⟨_,Zy2,fun C H σ δ fp ex D D' R h E=>E.nx H σ δ fp R (.refl _ _) h⟩
theorem Zg (h:MS X io st u):MSs X io [st] u:=by
 obtain ⟨_,A,s⟩:=h
 exact ⟨_,Z1r A,s⟩
theorem Zdi (h:MS X io st u) (g:MSs X io sts w):MSs X io (st :: sts) (Z8f u w):=by
 obtain ⟨_,A,s⟩:=h
 obtain ⟨tb,B,s'⟩:=g
 exact ⟨_,Zuv A B,fun C H σ δ fp ex D D' R h E=>s C H σ δ fp ex _ _ R h ⟨fun H1 σ1 δ1 fp1 R1 k1 h1=>s' C H1 σ1 δ1 fp1 ex D D' R1 h1 (E.shift k1),E.bk,E.ct,E.rt⟩⟩
noncomputable def Z3s:MSt:=fun _ _=>False
theorem Zu4:MS X io st Z3s:=⟨_,Zwk,fun C H σ δ fp ex D D' R h E=>h.elim⟩
noncomputable def Z4k (m:MEt):MSt:=fun D δ=>m δ fun _ δ'=>D.nx δ'
theorem Zy0 (he:ME X io p c e m) (hs:swapsWith e none pos.line X.env = pure false:=by rfl):MS X io (.Expr e pos) (Z4k m):=by
 obtain ⟨_,A,s⟩:=he
 exact ⟨_,Znc A hs,fun C H σ δ fp ex D D' R h E=>s C H σ δ fp ex _ _ R h fun H' v r δ' fp' new r1 h1=>E.nx H' σ δ' fp' r1.base r1.stp.kp h1⟩
noncomputable def Yak (m:MEt):MSt:=fun D δ=>m δ fun r δ'=>D.rt r δ'
theorem Zgn (he:ME X io p true e m):MS X io (.Return (some e) pos) (Yak m):=by
 obtain ⟨_,A,s⟩:=he
 exact ⟨_,Zxk A,fun C H σ δ fp ex D D' R h E=>s C H σ δ fp ex _ _ R h fun H' v r δ' fp' new r1 h1=>E.rt H' σ v r δ' fp' new r1.rel (r1.own.wide fun a l _=>l rfl) r1.nd (fun a m=>(R.newOk (r1.fresh a m)).2.2) h1⟩
noncomputable def Zwl (i:Nat):MSt:=fun D δ=>match δ[i]? with | some (some t)=>D.rt t (δ.set i none) | _=>False
theorem Rel.take {C:MC G} {H:Hp} {σ:St} {δ:Zh} {fp:Fp} {ex:Addr→Prop} {i:Nat} {t:OT} (R:Rel C io H σ δ fp ex) (hi:δ[i]? = some (some t)):Rel C io H σ (δ.set i none) (fpu fp i []) (exu ex (fp i)):=by
 have hil:i < δ.length:=(List.getElem?_eq_some_iff.mp hi).1
 have get:∀ j (t':OT),(δ.set i none)[j]? = some (some t')→j ≠ i∧δ[j]? = some (some t'):=fun j t' e=>by
  by_cases ej:j = i
  ·subst ej; rw [List.getElem?_set_self hil] at e; cases e
  ·rw [List.getElem?_set_ne (Ne.symm ej)] at e; exact ⟨ej,e⟩
 have sub:∀ j a,a ∈ fpu fp i [] j→j ≠ i∧a ∈ fp j:=fun j a m=>by
  by_cases ej:j = i
  ·subst ej; rw [Yh] at m; exact nomatch m
  ·rw [Wd ej] at m; exact ⟨ej,m⟩
 have lw:∀ a,Lf C fp ex a→Lf C (fpu fp i []) (exu ex (fp i)) a:=fun a l=>⟨fun ⟨j,z⟩=>l.1 ⟨j,(sub j a z).2⟩,fun z=>z.elim l.2.1 fun z=>l.1 ⟨i,z⟩,l.2.2⟩
 refine ⟨by rw [List.length_set]; exact R.len,fun j t' e=>?_,fun j h=>?_,fun j=>?_,fun j k a h1 h2=>R.dj j k a (sub j a h1).2 (sub k a h2).2,fun j a h z=>?_,fun a z w=>?_,R.fr,R.al,fun j a h=>R.new j a (sub j a h).2,R.io⟩
 ·obtain ⟨ej,e⟩:=get j t' e
  obtain ⟨w,e1,o⟩:=R.own j t' e
  exact ⟨w,e1,by rw [Wd ej]; exact o.wide fun a l _=>lw a l⟩
 ·by_cases ej:j = i
  ·subst ej; rw [Yh]
  ·rw [Wd ej]
   exact R.emp j fun t' z=>h t' (by rw [List.getElem?_set_ne (Ne.symm ej)]; exact z)
 ·by_cases ej:j = i
  ·subst ej; rw [Yh]; exact .nil
  ·rw [Wd ej]; exact R.nd j
 ·obtain ⟨ej,h⟩:=sub j a h
  rcases z with z | z
  ·exact R.dx j a h z
  ·exact ej (R.dj j i a h z)
 ·rcases z with z | z
  ·exact R.xa a z w
  ·exact R.footSome w ⟨i,z⟩
theorem Zct (i:Nat) {x:Str} {px:Pos} (hio:i ∉ io:=by decide) (hN:X.N[i]? = some x:=by rfl) (hv:Vis X.env.scope x:=by first | exact Or.inl rfl | exact Or.inr (Or.inl rfl) | exact Or.inr (Or.inr rfl)) (hd:(x == ("__debug__" : Str)) = false:=by decide)
  (hcd:(x == ("__classdict__" : Str)) = false:=by decide):MS X io (.Return (some (.Name x px)) pos) (Zwl i):=by
 refine ⟨_,Zxk (pv i hN hv hd hcd),fun C H σ δ fp ex D D' R h E=>?_⟩
 unfold Zwl at h
 split at h
 case h_2=>exact h.elim
 rename_i t hi
 obtain ⟨v,e,o⟩:=R.own i t hi
 have lw:∀ a,Lf C fp ex a→H a ≠ none→Lf C (fpu fp i []) (exu ex (fp i)) a:=fun a l _=>⟨fun z=>by
  rcases z.of_u with z | ⟨j,_,z⟩
  ·exact nomatch z
  ·exact l.1 ⟨j,z⟩,fun z=>z.elim l.2.1 fun z=>l.1 ⟨i,z⟩,l.2.2⟩
 have hn:∀ a ∈ fp i,C.H₀ a = none:=fun a m=>by
  rcases R.new i a m with z | z
  ·exact absurd z.1 hio
  ·exact z
 exact ⟨v,e,E.rt H σ v t _ _ (fp i) (R.take hi) (o.wide lw) (R.nd i) hn h⟩
noncomputable def Ybs (t:MTt) (u w:MSt):MSt:=fun D δ=>t δ fun b δ'=>if b = true then u D δ' else w D δ'
theorem Zo8 {cnd:Expr} {ss ss':List Stmt} (hc:MT X io p cnd mt) (ha:MSs X io ss u) (hb:MSs X io ss' w):MS X io (.If cnd ss ss' pos) (Ybs mt u w):=by
 obtain ⟨_,T,s⟩:=hc
 obtain ⟨_,A,sa⟩:=ha
 obtain ⟨_,B,sb⟩:=hb
 exact ⟨_,Z89 T A B,fun C H σ δ fp ex D D' R h E=>s C H σ δ fp ex _ _ R h fun H' b δ' fp' R' S h'=>by
  cases b with
  | true =>
   rw [if_pos rfl] at h' ⊢
   exact sa C H' σ δ' fp' ex D D' R' h' (E.shift S.kp)
  | false =>
   rw [if_neg Bool.false_ne_true] at h' ⊢
   exact sb C H' σ δ' fp' ex D D' R' h' (E.shift S.kp)⟩
theorem Rel.put {C:MC G} {H:Hp} {σ:St} {δ:Zh} {fp:Fp} {ex:Addr→Prop} {i:Nat} {v:V} {r:OT} {new:List Addr} (R:Rel C io H σ δ fp (exu ex new)) (hio:i ∉ io) (o:Own G H (Lf C fp (exu ex new)) v r new) (nd:new.Nodup)
  (hn:∀ a ∈ new,C.H₀ a = none∧¬ ex a):∃ fp',Rel C io H (σ.set i (some v)) (δ.set i (some r)) fp' ex∧∀ a,Foot fp' a→Foot fp a∨a ∈ new:=by
 by_cases hil:i < δ.length
 case neg =>
  refine ⟨fp,?_,fun a h=>.inl h⟩
  have hl:=R.len
  rw [List.set_eq_of_length_le (show δ.length ≤ i by omega),List.set_eq_of_length_le (show σ.length ≤ i by omega)]
  exact R.drop fun a z=>.inl z
 have hsl:i < σ.length:=by rw [R.len]; exact hil
 have sub:∀ a,Foot (fpu fp i new) a→Foot fp a∨a ∈ new:=fun a z=>by
  rcases z.of_u with z | ⟨j,_,z⟩
  ·exact .inr z
  ·exact .inl ⟨j,z⟩
 have lw:∀ a,Lf C fp (exu ex new) a→Lf C (fpu fp i new) ex a:=fun a l=>⟨fun z=>(sub a z).elim l.1 fun z=>l.2.1 (.inr z),fun z=>l.2.1 (.inl z),l.2.2⟩
 refine ⟨fpu fp i new,⟨by rw [List.length_set,List.length_set]; exact R.len,fun j t' e=>?_,fun j h=>?_,fun j=>?_,fun j k a h1 h2=>?_,fun j a h z=>?_,fun a z=>R.xa a (.inl z),R.fr,R.al,fun j a h=>?_,fun j hj=>?_⟩,sub⟩
 ·by_cases ej:j = i
  ·subst ej
   rw [List.getElem?_set_self hil] at e
   cases e
   exact ⟨v,List.getElem?_set_self hsl,by rw [Yh]; exact o.wide fun a l _=>lw a l⟩
  ·rw [List.getElem?_set_ne (Ne.symm ej)] at e
   obtain ⟨w,e1,o1⟩:=R.own j t' e
   exact ⟨w,by rw [List.getElem?_set_ne (Ne.symm ej)]; exact e1,by rw [Wd ej]; exact o1.wide fun a l _=>lw a l⟩
 ·by_cases ej:j = i
  ·subst ej; exact absurd (List.getElem?_set_self hil) (h r)
  ·rw [Wd ej]
   exact R.emp j fun t' z=>h t' (by rw [List.getElem?_set_ne (Ne.symm ej)]; exact z)
 ·by_cases ej:j = i
  ·subst ej; rw [Yh]; exact nd
  ·rw [Wd ej]; exact R.nd j
 ·by_cases ej:j = i
  ·subst ej
   rw [Yh] at h1
   by_cases ek:k = j
   ·exact ek.symm
   ·rw [Wd ek] at h2
    exact absurd (.inr h1) (R.dx k a h2)
  ·rw [Wd ej] at h1
   by_cases ek:k = i
   ·subst ek
    rw [Yh] at h2
    exact absurd (.inr h2) (R.dx j a h1)
   ·rw [Wd ek] at h2
    exact R.dj j k a h1 h2
 ·by_cases ej:j = i
  ·subst ej
   rw [Yh] at h
   exact (hn a h).2 z
  ·rw [Wd ej] at h
   exact R.dx j a h (.inl z)
 ·by_cases ej:j = i
  ·subst ej
   rw [Yh] at h
   exact .inr (hn a h).1
  ·rw [Wd ej] at h
   exact R.new j a h
 ·have ej:j ≠ i:=fun z=>hio (z ▸ hj)
  rw [List.getElem?_set_ne (Ne.symm ej)]
  exact R.io j hj
theorem RE.put {C:MC G} {H H':Hp} {σ:St} {δ δ':Zh} {fp fp':Fp} {ex:Addr→Prop} {i:Nat} {v:V} {r:OT} {new:List Addr} (R:RE C io p true H σ δ fp ex H' v r δ' fp' new) (R0:Rel C io H σ δ fp ex) (hio:i ∉ io) :
  ∃ fp2,Rel C io H' (σ.set i (some v)) (δ'.set i (some r)) fp2 ex∧Kp H fp H' fp2:=by
 obtain ⟨fp2,R2,g⟩:=R.rel.put hio (R.own.wide fun a l _=>l rfl) R.nd fun a m=>⟨(R0.newOk (R.fresh a m)).2.2,(R0.newOk (R.fresh a m)).2.1⟩
 refine ⟨fp2,R2,fun b o e q=>R.stp.keep b o e (.inr (q.resolve_left (by decide))),fun z=>(nomatch z),fun a z=>?_,R.stp.al⟩
 rcases g a z with z | z
 ·exact R.stp.grow a z
 ·exact .inr (R.fresh a z)
theorem RE.fzc {C:MC G} {H H':Hp} {σ:St} {δ δ':Zh} {fp fp':Fp} {ex:Addr→Prop} {v:V} {r:OT} {new:List Addr} (R:RE C io p c H σ δ fp ex H' v r δ' fp' new) (R0:Rel C io H σ δ fp ex) :
  RE C io p c H σ δ fp ex H' v (.fz r.data) δ' fp' []:=.fz R.base R.stp (R.da R0)
noncomputable def Z2j (i:Nat) (m:MEt):MSt:=fun D δ=>m δ fun r δ'=>D.nx (δ'.set i (some (.fz r.data)))
noncomputable def Zlm (i:Nat) (m:MEt):MSt:=fun D δ=>m δ fun r δ'=>D.nx (δ'.set i (some r))
section
variable {i:Nat} {x:Str} {px:Pos}
theorem Yac {t:TE} (s:SE G io p true t m) (hio:i ∉ io):SS G io (Z4f t (Zs3 i)) (Z2j i m):=fun C H σ δ fp ex D D' R h E=>s C H σ δ fp ex _ _ R h fun H' v r δ' fp' new r1 h1=>by
 obtain ⟨fp2,R2,k2⟩:=(r1.fzc R).put R hio
 exact E.nx H' _ _ fp2 R2 k2 h1
theorem Z08 {t:TE} (s:SE G io p true t m) (hio:i ∉ io):SS G io (Z4f t (Zs3 i)) (Zlm i m):=fun C H σ δ fp ex D D' R h E=>s C H σ δ fp ex _ _ R h fun H' v r δ' fp' new r1 h1=>by
 obtain ⟨fp2,R2,k2⟩:=r1.put R hio
 exact E.nx H' _ _ fp2 R2 k2 h1
theorem Z6i (hN:X.N.Nodup) (hi:X.N[i]? = some x) (hx:Loc X.env.scope x) (he:ME X io p true e m) (hio:i ∉ io:=by decide) (hs:swapsWith e (some (.Name x px)) pos.line X.env = pure false:=by rfl) (hf:X.fn x = true∨X.env.scope.names.lookup x = some .local:=by first | exact .inl rfl | exact .inr rfl | assumption) :
  MS X io (.Assign [.Name x px] e pos) (Z2j i m):=by
 obtain ⟨_,A,s⟩:=he
 exact ⟨_,Zx0 hN hi hx A hs hf,Yac s hio⟩
theorem Z1w (hN:X.N.Nodup) (hi:X.N[i]? = some x) (hx:Loc X.env.scope x) (he:ME X io p true e m) (hio:i ∉ io:=by decide) (hs:swapsWith e (some (.Name x px)) pos.line X.env = pure false:=by rfl) (hf:X.fn x = true∨X.env.scope.names.lookup x = some .local:=by first | exact .inl rfl | exact .inr rfl | assumption) :
  MS X io (.Assign [.Name x px] e pos) (Zlm i m):=by
 obtain ⟨_,A,s⟩:=he
 exact ⟨_,Zx0 hN hi hx A hs hf,Z08 s hio⟩
end
noncomputable def Zxl (t:MTt) (u:MSt):MSt:=fun D δ=>∃ W:Nat→Zh→Prop,(∃ n,W n δ)∧∀ n δ,W n δ→t δ fun b δ'=>if b = true then ∃ N:Zh→Prop,(∀ δ',N δ'→∃ n',n' < n∧W n' δ')∧u { D with nx:=N,ct:=N,bk:=D.nx } δ' else D.nx δ'
theorem Zou {cnd:Expr} {ss:List Stmt} (hp:PassesOwn (model X.prog X.w) X.A X.env X.xe) (hc:MT X io p cnd mt) (ha:MSs X io ss u):MS X io (.While cnd ss [] pos) (Zxl mt u):=by
 obtain ⟨_,T,s⟩:=hc
 obtain ⟨_,A,sa⟩:=ha
 refine ⟨_,Zvw hp T A,fun C H σ δ fp ex D D' R h E=>?_⟩
 obtain ⟨W,⟨n0,w0⟩,turn⟩:=h
 refine ⟨fun n σ' H'=>∃ δ' fp',Rel C io H' σ' δ' fp' ex∧Kp H fp H' fp'∧W n δ',⟨n0,δ,fp,R,.refl _ _,w0⟩,?_⟩
 rintro n σ1 H1 ⟨δ1,fp1,R1,k1,w1⟩
 refine s C H1 σ1 δ1 fp1 ex _ _ R1 (turn n δ1 w1) fun H2 b δ2 fp2 R2 S2 h2=>?_
 have k2:=k1.trans S2.kp
 cases b with
 | true =>
  rw [if_pos rfl] at h2 ⊢
  obtain ⟨N,hN,h2⟩:=h2
  refine ⟨fun σ' H'=>∃ δ' fp',Rel C io H' σ' δ' fp' ex∧Kp H fp H' fp'∧N δ',fun σ' H' ⟨δ',fp',R',k',n'⟩=>?_,?_⟩
  ·obtain ⟨n1,hn1,w1⟩:=hN δ' n'
   exact ⟨n1,hn1,δ',fp',R',k',w1⟩
  ·refine sa C H2 σ1 δ2 fp2 ex _ _ R2 h2 ⟨fun H' σ' δ' fp' R' k' n'=>⟨δ',fp',R',k2.trans k',n'⟩,fun H' σ' δ' fp' R' k' n'=>E.nx H' σ' δ' fp' R' (k2.trans k') n',fun H' σ' δ' fp' R' k' n'=>⟨δ',fp',R',k2.trans k',n'⟩,E.rt⟩
 | false =>
  rw [if_neg Bool.false_ne_true] at h2 ⊢
  exact E.nx H2 σ1 δ2 fp2 R2 k2 h2
end
end L2
namespace L2
open PySem PySem.Spec PyProof.Rows
variable {G:PySem.W.Frag}
noncomputable def Zt7 (N:List Str) (ds:List PyData):Zh:=ds.map (fun d=>some (.fz d)) ++ List.replicate (N.length - ds.length) none
section
variable {H:Hp} {L:Addr→Prop} {vs:List V} {ds:List PyData} {N:List Str}
theorem Zrd {i:Nat} {t:OT} {n:Nat} (h:(ds.map (fun d=>some (.fz d)) ++ List.replicate n none:Zh)[i]? = some (some t)):∃ d,ds[i]? = some d∧t = .fz d:=by
 rw [List.getElem?_append] at h
 split at h
 ·rw [List.getElem?_map] at h
  cases e:ds[i]? with
  | none=>rw [e] at h; cases h
  | some d=>rw [e] at h; cases h; exact ⟨d,rfl,rfl⟩
 ·rw [List.getElem?_replicate] at h
  split at h
  ·cases h
  ·cases h
theorem Rel.entry (h:Das G H L vs ds):Rel (G:=G) ⟨H,fun _=>False,L,start N vs⟩ [] H (start N vs) (Zt7 N ds) (fun _=>[]) (fun _=>False):=by
 refine ⟨?_,fun i t e=>?_,fun _ _=>rfl,fun _=>.nil,fun i j a m=>(nomatch m),fun i a m=>(nomatch m),fun a z=>z.elim,fun b o e _=>e,fun b e=>e,fun i a m=>(nomatch m),fun i m=>nomatch m⟩
 ·unfold start Zt7
  simp [h.length]
 ·obtain ⟨d,e',rfl⟩:=Zrd e
  obtain ⟨x,e1,q⟩:=h.get e'
  refine ⟨x,?_,.fz (q.wide fun a l _=>⟨fun ⟨j,z⟩=>(nomatch z),fun z=>z,.inl l⟩)⟩
  unfold L2.start
  rw [List.getElem?_append_left (by rw [List.length_map]; exact (List.getElem?_eq_some_iff.mp e1).1),List.getElem?_map,e1]
  rfl
variable {P:Program} {w:World} {K:PySem.W.Frag} {mg:Str→Option Value} {base:Heap}
noncomputable def Zy7 (k:OT→Prop):Zhv:={ nx:=fun _=>k (.fz .none),rt:=fun r _=>k r }
theorem Fun.okD {x qual:Str} {st:Stmt} {f:Addr} {fd:FuncData} {N ps:List Str} {n:Nat} {S:List PyData→(OT→Prop)→Prop} (F:Fun K x qual st f fd) (Sc:Zq N ps (Zk st)) (len:∀ ds k,S ds k→ds.length = ps.length)
  (hbody:∀ (cdv:Value) (A:Around) (outer:List Env) (s:Shared) (H:Hp) (E:XK),Room n (A.deeper (envOfC qual (Zk st) s.heap.objs.size f cdv)) →
   ∃ m,MSs (Zya CX0 P w K mg base N qual (Zk st) f cdv A outer s H E).nox [] (Zb0 st) m∧∀ ds k,S ds k→m (Zy7 k) (Zt7 N ds)):FnOk P w K mg base CX0 (n + 1) f fd ps (spD K S):=by
 refine F.ok Sc (fun vs H Q E h=>?_) (fun cdv A outer s H vs Q E hr h=>?_)
 ·obtain ⟨L,ds,k,h1,h2,_⟩:=h
  rw [h1.length]
  exact len ds k h2
 ·obtain ⟨L,ds,k,h1,h2,h3⟩:=h
  obtain ⟨m,⟨t,A1,s1⟩,q⟩:=hbody cdv A outer s H E hr
  refine ⟨t,A1,s1 ⟨H,fun _=>False,L,start N vs⟩ H _ _ _ _ (Zy7 k) _ (Rel.entry h1) (q ds k h2) ⟨fun H' σ' δ' fp' R _ hk=>?_,fun _ _ _ _ _ _ z=>z.elim,fun _ _ _ _ _ _ z=>z.elim,fun H' σ' v r δ' fp' new R o nd hn hk=>?_⟩⟩
  ·exact h3 _ .non H' [] hk (fun b o e=>R.fr b o e id) (.fz .non) .nil fun a m=>nomatch m
  ·refine h3 r v H' new hk (fun b o e=>R.fr b o e id) (o.wide fun a l _=>⟨?_,fun z=>l.2.1 (.inr z)⟩) nd hn
   exact l.2.2
end
noncomputable abbrev MGt:=PyData→Zh→(Zh→Prop)→Prop
noncomputable abbrev Zug:=List PyData→Zh→(Zh→Prop)→Prop
noncomputable def SG (G:PySem.W.Frag) (io:List Nat) (c:Bool) (t:TG) (g:MGt):Prop:=∀ (C:MC G) (H:Hp) (σ:St) (δ:Zh) (fp:Fp) (ex:Addr→Prop) (v:V) (d:PyData) (k:Zh→Prop) (Q:St→Hp→Prop),Rel C io H σ δ fp ex→Da G H (fun a=>c = true→Lf C fp ex a) v d→g d δ k →
 (∀ σ' δ' fp',Rel C io H σ' δ' fp' ex→Kp H fp H fp'→k δ'→Q σ' H)→t v σ H Q
noncomputable def SGs (G:PySem.W.Frag) (io:List Nat) (c:Bool) (t:TGs) (g:Zug):Prop:=∀ (C:MC G) (H:Hp) (σ:St) (δ:Zh) (fp:Fp) (ex:Addr→Prop) (v:List V) (d:List PyData) (k:Zh→Prop) (Q:St→Hp→Prop),Rel C io H σ δ fp ex→Das G H (fun a=>c = true→Lf C fp ex a) v d→g d δ k →
 (∀ σ' δ' fp',Rel C io H σ' δ' fp' ex→Kp H fp H fp'→k δ'→Q σ' H)→t v σ H Q
noncomputable def MG (X:Cx) (io:List Nat) (c:Bool) (tg:Expr) (g:MGt):Prop:=∃ t,PG X tg t∧SG X.K io c t g
noncomputable def MGs (X:Cx) (io:List Nat) (c:Bool) (tg:List Expr) (g:Zug):Prop:=∃ t,PGs X tg t∧SGs X.K io c t g
section
variable {X:Cx} {io:List Nat} {c:Bool} {pos:Pos} {i:Nat} {x:Str}
noncomputable def dName (i:Nat):MGt:=fun d δ k=>k (δ.set i (some (.fz d)))
theorem Rel.putD {C:MC G} {H:Hp} {σ:St} {δ:Zh} {fp:Fp} {ex:Addr→Prop} {v:V} {d:PyData} (R:Rel C io H σ δ fp ex) (hio:i ∉ io) (q:Da G H (Lf C fp ex) v d) :
  ∃ fp',Rel C io H (σ.set i (some v)) (δ.set i (some (.fz d))) fp' ex∧Kp H fp H fp':=by
 obtain ⟨fp',R',g⟩:=(R.drop fun a z=>Zc6.mp z).put (new:=[]) hio (.fz (q.wide fun a l _=>⟨l.1,fun z=>l.2.1 (Zc6.mp z),l.2.2⟩)) .nil (fun a m=>nomatch m)
 exact ⟨fp',R',fun b o e _=>e,fun z=>(nomatch z),fun a z=>(g a z).imp id fun z=>(nomatch z),fun b e=>e⟩
theorem Zne (hN:X.N.Nodup) (hi:X.N[i]? = some x:=by rfl) (hx:Loc X.env.scope x:=by first | exact Or.inl rfl | exact Or.inr rfl) (hio:i ∉ io:=by decide) (hf:X.fn x = true∨X.env.scope.names.lookup x = some .local:=by first | exact .inl rfl | exact .inr rfl | assumption):MG X io true (.Name x pos) (dName i) :=
 ⟨_,Z0z hN hi hx hf,fun C H σ δ fp ex v d k Q R q h kk=>by
  obtain ⟨fp',R',k'⟩:=R.putD hio (q.wide fun a l _=>l rfl)
  exact kk _ _ fp' R' k' h⟩
noncomputable def Ya8:Zug:=fun ds δ k=>ds = []∧k δ
noncomputable def Z4x (g:MGt) (gs:Zug):Zug:=fun ds δ k=>match ds with | d :: r=>g d δ fun δ'=>gs r δ' k | []=>False
theorem Zmq:MGs X io c [] Ya8:=⟨_,Z14,fun C H σ δ fp ex v d k Q R q h kk=>by
 obtain ⟨rfl,h⟩:=h
 cases q
 exact ⟨rfl,kk σ δ fp R (.refl _ _) h⟩⟩
theorem Rel.kp_das {C:MC G} {H H':Hp} {σ:St} {δ:Zh} {fp fp':Fp} {ex:Addr→Prop} {vs:List V} {ds:List PyData} (R:Rel C io H σ δ fp ex) (S:Kp H fp H' fp') (h:Das G H (Lf C fp ex) vs ds):Das G H' (Lf C fp' ex) vs ds:=by
 have S':Stp false H δ fp H' δ fp':=⟨S.keep,fun z=>(nomatch z),S.grow,S.al⟩
 obtain ⟨f1,f2⟩:=R.frameL (c:=true) (ex':=ex) S' (.inr rfl) fun a z=>.inl z
 exact h.frame (fun a xs l q=>⟨(f1 a xs (fun _=>l) q).1 rfl,(f1 a xs (fun _=>l) q).2⟩) f2
theorem Za5 {e:Expr} {es:List Expr} {g:MGt} {gs:Zug} (h1:MG X io true e g) (h2:MGs X io true es gs)
  (hs:(assignEach (e :: es) X.env).map (·.2) = assign e X.env :: (assignEach es X.env).map (·.2):=by rfl):MGs X io true (e :: es) (Z4x g gs):=by
 obtain ⟨_,A,s⟩:=h1
 obtain ⟨_,B,s'⟩:=h2
 exact ⟨_,Zwi A B hs,fun C H σ δ fp ex v d k Q R q h kk=>by
  cases q with
  | nil=>exact h.elim
  | cons q qs =>
   refine ⟨_,_,rfl,s C H σ δ fp ex _ _ _ _ R q h fun σ1 δ1 fp1 R1 k1 h1=>?_⟩
   exact s' C H σ1 δ1 fp1 ex _ _ _ _ R1 ((R.kp_das k1 (qs.wide fun a l _=>l rfl)).wide fun a l _ _=>l) h1 fun σ2 δ2 fp2 R2 k2 h2=>kk σ2 δ2 fp2 R2 (k1.trans k2) h2⟩
noncomputable def dTup (n:Nat) (gs:Zug):MGt:=fun d δ k=>match d with | .tuple ds=>ds.length = n∧gs ds δ k | _=>False
theorem Ztt {es:List Expr} {k:Nat} {gs:Zug} {n:Nat} (hc:X.calm = true) (h:MGs X io c es gs)
  (hn:(assignEach es X.env).length = n:=by rfl) (hst:(assignEach es X.env).findIdx? (·.1) = none:=by rfl):MG X io c (.Tuple es k pos) (dTup n gs):=by
 obtain ⟨_,A,s⟩:=h
 exact ⟨_,Z4q hc A hn hst,fun C H σ δ fp ex v d k Q R q h kk=>by
  cases q with
  | tup e qs=>exact ⟨_,_,rfl,.inl (.inl e),by rw [qs.length]; exact h.1,s C H σ δ fp ex _ _ _ _ R qs h.2 kk⟩
  | _=>exact h.elim⟩
end
end L2
namespace L2
open PySem PySem.Spec PyProof.Rows
variable {G:PySem.W.Frag}
noncomputable def IterOk (C:MC G) (fp:Fp) (ex:Addr→Prop) (H1:Hp) (c:Bool) (J:It) (ds:List PyData):Prop:=∀ H':Hp,(∀ b o,H1 b = some o→(c = false∨¬ Foot fp b)→H' b = some o)→∀ i:Nat,
 (∀ d,ds[i]? = some d→J.go i H'∧∀ x H'',J.yld i H' x H''→Same H' H''∧Da G H'' (fun a=>c = true→(Lf C fp ex a∧H1 a ≠ none)) x d)∧(ds[i]? = none→J.stop i H')
noncomputable abbrev MIt:=Zh→(List PyData→Zh→Prop)→Prop
noncomputable def SI (G:PySem.W.Frag) (io:List Nat) (p c:Bool) (t:TI) (m:MIt):Prop:=∀ (C:MC G) (H:Hp) (σ:St) (δ:Zh) (fp:Fp) (ex:Addr→Prop) (K:List PyData→Zh→Prop) (Q:It→Hp→Prop),Rel C io H σ δ fp ex→m δ K →
 (∀ J H1 ds δ1 fp1,Rel C io H1 σ δ1 fp1 ex→Stp p H δ fp H1 δ1 fp1→IterOk C fp1 ex H1 c J ds→K ds δ1→Q J H1)→t σ H Q
noncomputable def MI (X:Cx) (io:List Nat) (p c:Bool) (tg iter:Expr) (m:MIt):Prop:=∃ t,PI X tg iter t∧SI X.K io p c t m
section
variable {X:Cx} {io:List Nat} {p c:Bool} {e a b tg:Expr} {m:MEt} {mr:MAt} {K:PySem.W.Frag}
noncomputable def iL (m:MEt):MIt:=fun δ K=>m δ fun r δ'=>match r.data with | .list ds=>K ds δ' | _=>False
theorem Rel.kept {C:MC G} {H H':Hp} {σ:St} {δ:Zh} {fp:Fp} {ex:Addr→Prop} (R:Rel C io H σ δ fp ex) (kp:∀ b o,H b = some o→(c = false∨¬ Foot fp b)→H' b = some o) :
  (∀ a (xs:MuO),(c = true→Lf C fp ex a)→Rd H a xs.ho→(c = true→(Lf C fp ex a∧H a ≠ none))∧Rd H' a xs.ho)∧(∀ a (xs:ImO),H a = some xs.ho→H' a = some xs.ho):=by
 refine ⟨fun a xs l q=>⟨fun hc=>⟨l hc,q.some⟩,?_⟩,fun a xs q=>kp a _ q (.inr fun z=>?_)⟩
 ·have hk:c = false∨¬ Foot fp a:=by
   cases c with
   | false=>exact .inl rfl
   | true=>exact .inr (l rfl).1
  rcases q with q | ⟨o,q⟩
  ·exact .inl (kp a _ q hk)
  ·exact .inr ⟨o,kp a _ q hk⟩
 ·obtain ⟨ys,e⟩:=R.foot z
  exact ImO.nm q e
theorem Zzz (h:ME X io p c e m):MI X io p c tg e (iL m):=by
 obtain ⟨_,A,s⟩:=h
 exact ⟨_,Zwe rfl A,fun C H σ δ fp ex K' Q R h kk=>s C H σ δ fp ex _ _ R h fun H1 v r δ1 fp1 new r1 h1=>by
  have q:=r1.da R
  generalize r.data = d at q h1
  cases q with
  | lst l e qs =>
   refine ⟨_,rfl,⟨_,.inl e⟩,kk _ H1 _ δ1 fp1 r1.base r1.stp (fun H' kp i=>?_) h1⟩
   obtain ⟨f1,f2⟩:=r1.base.kept kp
   have e':=(f1 _ (.lst _) l e).2
   have qs':=qs.frame f1 f2
   refine ⟨fun d hd=>?_,fun hd=>?_⟩
   ·obtain ⟨x,hx,qx⟩:=qs'.get hd
    refine ⟨⟨_,x,.inl e',hx⟩,fun y H'' hy=>?_⟩
    obtain ⟨rfl,hy⟩:=hy
    have:=hy _ (.inl e')
    rw [hx] at this
    cases this
    exact ⟨Same.refl _,qx⟩
   ·exact ⟨_,.inl e',by rw [qs'.length]; exact List.getElem?_eq_none_iff.mp hd⟩
  | scr ks =>
   refine ⟨_,rfl,⟨_,ks.sq⟩,kk _ H1 _ δ1 fp1 r1.base r1.stp (fun H' kp i=>?_) h1⟩
   refine ⟨fun d hd=>?_,fun hd=>?_⟩
   ·obtain ⟨x,hx,qx⟩:=(Das.ints (G:=X.K) (H:=H') (L:=fun a=>c = true→(Lf C fp1 ex a∧H1 a ≠ none)) _).get hd
    refine ⟨⟨_,x,ks.sq,hx⟩,fun y H'' hy=>?_⟩
    obtain ⟨rfl,hy⟩:=hy
    have:=hy _ ks.sq
    rw [hx] at this
    cases this
    exact ⟨Same.refl _,qx⟩
   ·refine ⟨_,ks.sq,?_⟩
    have:=List.getElem?_eq_none_iff.mp hd
    simpa using this
  | _=>exact h1.elim⟩
noncomputable def Ze0 (lo:Int) (n:Nat):List PyData:=(List.range n).map fun (i:Nat)=>PyData.int (lo + (i:Int))
@[simp] theorem Y8 (lo:Int) (n:Nat):(Ze0 lo n).length = n:=by simp [Ze0]
theorem Jv {lo:Int} {n i:Nat} {d:PyData} (h:(Ze0 lo n)[i]? = some d):i < n∧d = .int (lo + i):=by
 have hi:i < n:=by
  have:=(List.getElem?_eq_some_iff.mp h).1
  simpa using this
 unfold Ze0 at h
 rw [List.getElem?_map,List.getElem?_range hi] at h
 cases h
 exact ⟨hi,rfl⟩
theorem Zoj {C:MC G} {fp:Fp} {ex:Addr→Prop} {H1:Hp} {lo:Int} {n:Nat}:IterOk C fp ex H1 true (Itr lo n) (Ze0 lo n):=fun H' _ i=>by
 refine ⟨fun d hd=>?_,fun hd=>?_⟩
 ·obtain ⟨hi,rfl⟩:=Jv hd
  refine ⟨hi,fun x H'' hy=>?_⟩
  obtain ⟨rfl,rfl⟩:=hy
  exact ⟨Same.refl _,.int _⟩
 ·have:=List.getElem?_eq_none_iff.mp hd
  show n ≤ i
  simpa using this
noncomputable def iR1 (mr:MAt):MIt:=fun δ K=>mr δ fun rs δ'=>match OT.datas rs with | [.int j]=>(-(2 ^ 62) ≤ j∧j < 2 ^ 62)∧K (Ze0 0 j.toNat) δ' | _=>False
noncomputable def iR2 (mr:MAt):MIt:=fun δ K=>mr δ fun rs δ'=>match OT.datas rs with | [.int i,.int j]=>(-(2 ^ 62) ≤ i∧i < 2 ^ 62∧-(2 ^ 62) ≤ j∧j < 2 ^ 62)∧K (Ze0 i (j - i).toNat) δ' | _=>False
theorem Yr {p' pos:Pos} (hg:Gl X "range") (hm:X.mg "range" = none) (ha:MA X io p c [a] mr) (hs:starEach [a] X.env = [(false,eval a X.env)]:=by rfl):MI X io p true tg (.Call (.Name "range" p') [a] [] pos) (iR1 mr):=by
 obtain ⟨_,A,s⟩:=ha
 exact ⟨_,Zsl hg hm A hs,fun C H σ δ fp ex K' Q R h kk=>s C H σ δ fp ex _ _ R h fun H1 vs rs δ1 fp1 new r1 h1=>by
  have q:=r1.das R
  generalize OT.datas rs = d at q h1
  split at h1
  case h_2=>exact h1.elim
  cases q with
  | cons q1 q2 =>
   cases q1
   cases q2
   exact ⟨_,rfl,h1.1.1,h1.1.2,kk _ H1 _ δ1 fp1 r1.base r1.stp Zoj h1.2⟩⟩
theorem Zem {p' pos:Pos} (hg:Gl X "range") (hm:X.mg "range" = none) (ha:MA X io p c [a,b] mr) (hs:starEach [a,b] X.env = [(false,eval a X.env),(false,eval b X.env)]:=by rfl) (hs2:starEach [b] X.env = [(false,eval b X.env)]:=by rfl):MI X io p true tg (.Call (.Name "range" p') [a,b] [] pos) (iR2 mr):=by
 obtain ⟨_,A,s⟩:=ha
 exact ⟨_,Zsd hg hm A hs hs2,fun C H σ δ fp ex K' Q R h kk=>s C H σ δ fp ex _ _ R h fun H1 vs rs δ1 fp1 new r1 h1=>by
  have q:=r1.das R
  generalize OT.datas rs = d at q h1
  split at h1
  case h_2=>exact h1.elim
  cases q with
  | cons q1 q2 =>
   cases q1
   cases q2 with
   | cons q2 q3 =>
    cases q2
    cases q3
    exact ⟨_,_,rfl,h1.1,kk _ H1 _ δ1 fp1 r1.base r1.stp Zoj h1.2⟩⟩
theorem IterOk.at {C:MC G} {fp fp':Fp} {ex:Addr→Prop} {H1 H' H'':Hp} {J:It} {ds:List PyData} {x:V} {d:PyData} (g:∀ a,Foot fp' a→Foot fp a∨H1 a = none) (h:Da G H'' (fun a=>true = true→(Lf C fp ex a∧H1 a ≠ none)) x d):Da G H'' (fun a=>true = true→Lf C fp' ex a) x d :=
 h.wide fun a l _ z=>⟨fun w=>(g a w).elim (l z).1.1 (l z).2,(l z).1.2.1,(l z).1.2.2⟩
noncomputable def Z7z (ds:List PyData) (g:MGt) (u:MSt) (D:Zhv) (δ1:Zh):Prop:=∃ I:Nat→Zh→Prop,I 0 δ1∧(∀ (i:Nat) (d:PyData) (δ':Zh),ds[i]? = some d→I i δ'→g d δ' fun δ2=>u { D with nx:=I (i + 1),ct:=I (i + 1),bk:=D.nx } δ2)∧∀ δ',I ds.length δ'→D.nx δ'
noncomputable def Ycc (mi:MIt) (g:MGt) (u:MSt):MSt:=fun D δ=>mi δ fun ds δ1=>Z7z ds g u D δ1
theorem Rel.mk0 {C:MC G} {H H':Hp} {σ:St} {δ:Zh} {fp:Fp} {ex:Addr→Prop} (R:Rel C io H σ δ fp ex) (s:Same H H'):Rel C io H' σ δ fp ex:=(R.made (new:=[]) s fun a m=>nomatch m).drop fun a z=>.inl z
theorem Zx7 {iter:Expr} {body:List Stmt} {mi:MIt} {g:MGt} {u:MSt} {pos:Pos} (hp:PassesOwn (model X.prog X.w) X.A X.env X.xe) (hc:X.calm = true) (hi:MI X io p true tg iter mi) (hg:MG X io true tg g) (hb:MSs X io body u)
  (hs:∀ x,foldedSetIterable iter X.env x = pure x:=by intro _; rfl):MS X io (.For tg iter body [] pos) (Ycc mi g u):=by
 obtain ⟨_,A,s⟩:=hi
 obtain ⟨_,G,sg⟩:=hg
 obtain ⟨_,B,sb⟩:=hb
 refine ⟨_,Z5q hp hc A G B hs,fun C H σ δ fp ex D D' R h E=>s C H σ δ fp ex _ _ R h fun J H1 ds δ1 fp1 R1 S1 it h1=>?_⟩
 obtain ⟨I,h0,turn,fin⟩:=h1
 refine ⟨fun i n σ' H'=>n = ds.length - i∧i ≤ ds.length∧∃ δ' fp',Rel C io H' σ' δ' fp' ex∧Kp H1 fp1 H' fp'∧I i δ',⟨ds.length,rfl,Nat.zero_le _,δ1,fp1,R1,.refl _ _,h0⟩,?_⟩
 rintro i n σ2 H2 ⟨rfl,hle,δ2,fp2,R2,k2,i2⟩
 have itk:=it H2 (fun b o e q=>k2.keep b o e (.inr (q.resolve_left (by decide)))) i
 by_cases hlt:i < ds.length
 ·have hd:ds[i]? = some ds[i]:=List.getElem?_eq_getElem hlt
  obtain ⟨go,yl⟩:=itk.1 _ hd
  refine .inr ⟨go,fun σ' H'=>∃ δ' fp',Rel C io H' σ' δ' fp' ex∧Kp H1 fp1 H' fp'∧I (i + 1) δ',fun σ' H' ⟨δ',fp',R',k',i'⟩=>⟨ds.length - (i + 1),by omega,rfl,hlt,δ',fp',R',k',i'⟩,fun x H3 hy=>?_⟩
  obtain ⟨s3,q3⟩:=yl x H3 hy
  have R3:=R2.mk0 s3
  have k3:Kp H1 fp1 H3 fp2:=k2.trans ⟨fun b o e _=>s3 _ _ e,fun z=>(nomatch z),fun a z=>.inl z,s3.al⟩
  refine sg C H3 σ2 δ2 fp2 ex x _ _ _ R3 (IterOk.at (H':=H2) (J:=J) (ds:=ds) k2.grow q3) (turn i _ δ2 hd i2) fun σ4 δ4 fp4 R4 k4 h4=>?_
  have k5:=k3.trans k4
  refine sb C H3 σ4 δ4 fp4 ex _ _ R4 h4 ⟨fun H' σ' δ' fp' R' k' n'=>⟨δ',fp',R',k5.trans k',n'⟩,fun H' σ' δ' fp' R' k' n'=>E.nx H' σ' δ' fp' R' (S1.kp.trans (k5.trans k')) n',fun H' σ' δ' fp' R' k' n'=>⟨δ',fp',R',k5.trans k',n'⟩,E.rt⟩
 ·have e:i = ds.length:=by omega
  subst e
  exact .inl ⟨itk.2 (by simp),E.nx H2 σ2 δ2 fp2 R2 (S1.kp.trans k2) (fin δ2 i2)⟩
end
noncomputable def gM (G:PySem.W.Frag) (io:List Nat) (c:Bool) (g:MGt):TG:=fun v σ H Q=>∃ (C:MC G) (δ:Zh) (fp:Fp) (ex:Addr→Prop) (d:PyData) (k:Zh→Prop),Rel C io H σ δ fp ex∧Da G H (fun a=>c = true→Lf C fp ex a) v d∧g d δ k ∧
 ∀ σ' δ' fp',Rel C io H σ' δ' fp' ex→Kp H fp H fp'→k δ'→Q σ' H
noncomputable def tM (G:PySem.W.Frag) (io:List Nat) (p c:Bool) (m:MEt):TE:=fun σ H Q=>∃ (C:MC G) (δ:Zh) (fp:Fp) (ex:Addr→Prop) (K:OT→Zh→Prop),Rel C io H σ δ fp ex∧m δ K∧∀ H' v r δ' fp' new,RE C io p c H σ δ fp ex H' v r δ' fp' new→K r δ'→Q v H'
noncomputable def ttM (G:PySem.W.Frag) (io:List Nat) (p:Bool) (m:MTt):TT:=fun σ H Q=>∃ (C:MC G) (δ:Zh) (fp:Fp) (ex:Addr→Prop) (K:Bool→Zh→Prop),Rel C io H σ δ fp ex∧m δ K∧∀ H' b δ' fp',Rel C io H' σ δ' fp' ex→Stp p H δ fp H' δ' fp'→K b δ'→Q b H'
noncomputable def MIfs (X:Cx) (io:List Nat) (p:Bool) (ifs:List Expr) (m:MTt):Prop:=∃ t,Z1u X ifs t∧STt X.K io p t m
section
variable {X:Cx} {io:List Nat} {p c:Bool} {e tg:Expr} {m:MEt} {mt:MTt} {g:MGt} {ifs:List Expr}
theorem MG.canon (h:MG X io c tg g):PG X tg (gM X.K io c g):=by
 obtain ⟨t,A,s⟩:=h
 rintro pins sh σ H v u Q I r ⟨C,δ,fp,ex,d,k,R,q,h,kk⟩
 exact A pins sh σ H v u Q I r (s C H σ δ fp ex v d k Q R q h kk)
theorem ME.canon (h:ME X io p c e m):PE X e (tM X.K io p c m):=by
 obtain ⟨t,A,s⟩:=h
 rintro pins sh σ H Q I ⟨C,δ,fp,ex,K,R,h,kk⟩
 exact A pins sh σ H Q I (s C H σ δ fp ex K Q R h kk)
theorem MIfs.canon (h:MIfs X io p ifs mt):Z1u X ifs (ttM X.K io p mt):=by
 obtain ⟨t,A,s⟩:=h
 rintro pins sh σ H Q I ⟨C,δ,fp,ex,K,R,h,kk⟩
 exact A pins sh σ H Q I (s C H σ δ fp ex K Q R h kk)
noncomputable def Z5o:MTt:=fun δ K=>K true δ
theorem J4:MIfs X io true [] Z5o:=⟨_,Z0s,fun C H σ δ fp ex K Q R h kk=>kk H true δ fp R (.refl _ _ _ _) h⟩
theorem Zj0 {cnd:Expr} (h:MT X io p cnd mt):MIfs X io p [cnd] mt:=by
 obtain ⟨_,A,s⟩:=h
 exact ⟨_,Z11 A,s⟩
end
end L2
namespace L2
open PySem PySem.Spec PyProof.Rows
variable {G:PySem.W.Frag}
noncomputable def blk (n:Nat) (caps:List Nat) (δ:Zh):Zh:=List.replicate n none ++ caps.map fun i=>(δ[i]?).getD none
noncomputable def Jq (n:Nat) (caps:List Nat) (fp:Fp):Fp:=fun k=>if k < n then [] else match caps[k - n]? with | some i=>fp i | none=>[]
noncomputable def Jx (n:Nat) (caps:List Nat):List Nat:=(List.range caps.length).map (· + n)
noncomputable def Zym (C:MC G) (H1:Hp) (fp:Fp) (σ0:St):MC G:=⟨H1,Foot fp,fun a=>(C.L a∨C.H₀ a = none)∧¬ Foot fp a,σ0⟩
noncomputable def Zgf (ex:Addr→Prop) (D:Addr) (fp fpb:Fp) (a:Addr):Prop:=ex a∨a = D∨(Foot fp a∧¬ Foot fpb a)
section
variable {C:MC G} {io:List Nat} {H1 H':Hp} {σ:St} {δ:Zh} {fp:Fp} {ex:Addr→Prop} {own:List Str} {caps:List Nat} {D:Addr} {n:Nat}
theorem Zdh {k:Nat} {a:Addr} (h:a ∈ Jq n caps fp k):∃ i,n ≤ k∧caps[k - n]? = some i∧a ∈ fp i:=by
 unfold Jq at h
 split at h
 ·exact nomatch h
 ·split at h
  ·rename_i i e
   exact ⟨i,by omega,e,h⟩
  ·exact nomatch h
theorem Zvb {j i:Nat} (h:caps[j]? = some i):Jq n caps fp (n + j) = fp i:=by
 unfold Jq
 rw [if_neg (by omega),show n + j - n = j by omega,h]
theorem Z43 {k:Nat} {t:OT} (h:(blk n caps δ)[k]? = some (some t)):∃ i,n ≤ k∧caps[k - n]? = some i∧δ[i]? = some (some t):=by
 unfold blk at h
 rw [List.getElem?_append] at h
 split at h
 ·rw [List.getElem?_replicate] at h
  split at h <;> cases h
 ·rename_i hk
  rw [List.length_replicate] at hk h
  rw [List.getElem?_map] at h
  cases e:caps[k - n]? with
  | none=>rw [e] at h; cases h
  | some i =>
   rw [e] at h
   refine ⟨i,by omega,rfl,?_⟩
   simp only [Option.map_some] at h
   cases e2:δ[i]? with
   | none=>rw [e2] at h; cases h
   | some o =>
    rw [e2] at h
    simpa using h
theorem Rel.block (R:Rel C io H1 σ δ fp ex) (nd:caps.Nodup) (hD:H1 D = none) :
  Rel (Zym C H1 fp (J7 own caps σ)) (Jx own.length caps) (upd H1 D (.lst [])) (J7 own caps σ) (blk own.length caps δ) (Jq own.length caps fp) (Zgf ex D fp (Jq own.length caps fp)):=by
 have s:=Yc hD (.lst [])
 have sub:∀ a,Foot (Jq own.length caps fp) a→Foot fp a:=fun a q91=>by
  obtain ⟨k,z⟩:=q91
  obtain ⟨i,_,_,z⟩:=Zdh z
  exact ⟨i,z⟩
 have neD:∀ a,H1 a ≠ none→a ≠ D:=fun a h z=>h (z ▸ hD)
 refine ⟨by unfold J7 blk; simp,fun k t e=>?_,fun k h=>?_,fun k=>?_,fun k l a h1 h2=>?_,fun k a h z=>?_,fun a z=>?_,fun b o e _=>s _ _ e,fun b e=>s.free e,fun k a h=>?_,fun k _=>rfl⟩
 ·obtain ⟨i,hk,e1,e2⟩:=Z43 e
  obtain ⟨v,e3,o⟩:=R.own i t e2
  refine ⟨v,?_,?_⟩
  ·unfold J7
   rw [List.getElem?_append_right (by simpa using hk),List.length_map,List.getElem?_map,e1]
   simp [e3]
  ·have ef:Jq own.length caps fp k = fp i:=by
    have:=Zvb (n:=own.length) (fp:=fp) e1
    rwa [show own.length + (k - own.length) = k by omega] at this
   rw [ef]
   refine (o.wide fun a l q=>⟨fun z=>l.1 (sub a z),fun z=>?_,.inl ⟨l.2.2,l.1⟩⟩).same s
   rcases z with z | z | z
   ·exact l.2.1 z
   ·exact neD a q z
   ·exact l.1 z.1
 ·unfold Jq
  split
  ·rfl
  ·split
   ·rename_i i e1
    refine R.emp i fun t z=>h t ?_
    unfold blk
    rw [List.getElem?_append_right (by rw [List.length_replicate]; omega),List.length_replicate,List.getElem?_map,e1]
    simp [z]
   ·rfl
 ·unfold Jq
  split
  ·exact .nil
  ·split
   ·exact R.nd _
   ·exact .nil
 ·obtain ⟨i,hk,e1,m1⟩:=Zdh h1
  obtain ⟨j,hl,e2,m2⟩:=Zdh h2
  have:=R.dj i j a m1 m2
  subst this
  have hlt:=(List.getElem?_eq_some_iff.mp e1).1
  have:=(List.getElem?_inj hlt nd).mp (e1.trans e2.symm)
  omega
 ·obtain ⟨i,hk,e1,m⟩:=Zdh h
  rcases z with z | z | z
  ·exact R.dx i a m z
  ·exact R.footSome (z ▸ hD) ⟨i,m⟩
  ·exact z.2 ⟨k,h⟩
 ·rcases z with z | z | z
  ·intro q; exact R.xa a z (s.free q)
  ·subst z; rw [Z7]; intro q; cases q
  ·obtain ⟨xs,e⟩:=R.foot z.1
   rw [s _ _ e]; intro q; cases q
 ·obtain ⟨i,hk,e1,m⟩:=Zdh h
  refine .inl ⟨?_,⟨i,m⟩⟩
  have:=(List.getElem?_eq_some_iff.mp e1).1
  exact List.mem_map.mpr ⟨k - own.length,by simpa using this,by omega⟩
theorem Z6j {σ0:St} {fp':Fp} {ex':Addr→Prop} {a:Addr} (hx:∀ a,ex a→ex' a) (l:Lf (Zym C H1 fp σ0) fp' ex' a):Lf C fp ex a∨H1 a = none:=by
 obtain ⟨l1,l2,l3⟩:=l
 rcases l3 with l3 | l3
 ·exact .inl ⟨l3.2,fun z=>l2 (hx a z),l3.1⟩
 ·exact .inr l3
theorem Rel.poke (R:Rel C io H' σ δ fp ex) {xs ys:List V} (hx:ex D) (hD:H' D = some (.lst xs)) (h0:C.H₀ D = none):Rel C io (upd H' D (.lst ys)) σ δ fp ex:=by
 have nf:¬ Foot fp D:=fun ⟨i,z⟩=>R.dx i D z hx
 have kp:∀ b o,b ≠ D→H' b = some o→upd H' D (.lst ys) b = some o:=fun b o n e=>by rw [Zy n]; exact e
 refine ⟨R.len,fun i t e=>?_,R.emp,R.nd,R.dj,R.dx,fun a z=>?_,fun b o e n=>?_,fun b e=>?_,R.new,R.io⟩
 ·obtain ⟨v,e1,o⟩:=R.own i t e
  refine ⟨v,e1,o.frame (fun a zs l q=>⟨l,?_⟩) (fun a zs q=>kp a _ (fun z=>?_) q) fun a m zs q=>kp a _ (fun z=>nf ⟨i,z ▸ m⟩) q⟩
  ·have na:a ≠ D:=fun z=>l.2.1 (z ▸ hx)
   rcases q with q | ⟨u,q⟩
   ·exact .inl (kp a _ na q)
   ·exact .inr ⟨u,kp a _ na q⟩
  ·exact ImO.nl q (z ▸ hD)
 ·by_cases e:a = D
  ·subst e; rw [Z7]; intro q; cases q
  ·rw [Zy e]; exact R.xa a z
 ·refine kp b o (fun z=>?_) (R.fr b o e n)
  rw [z,h0] at e; cases e
 ·refine R.al b ?_
  by_cases q:b = D
  ·subst q; rw [Z7] at e; cases e
  ·rwa [Zy q] at e
theorem Owns.poke {L:Addr→Prop} {xs ys zs:List V} {rs:List OT} {as:List Addr} (o:Owns G H' L zs rs as) (hD:H' D = Option.some (HO.lst xs)) (hL:¬ L D) (hn:D ∉ as):Owns G (upd H' D (.lst ys)) L zs rs as:=by
 refine o.frame (fun a zs l q=>⟨l,?_⟩) (fun a zs q=>?_) fun a m zs q=>?_
 ·have na:a ≠ D:=fun z=>hL (z ▸ l)
  rcases q with q | ⟨u,q⟩
  ·exact .inl (by rw [Zy na]; exact q)
  ·exact .inr ⟨u,by rw [Zy na]; exact q⟩
 ·rw [Zy (fun z=>ImO.nl q (z ▸ hD))]; exact q
 ·have na:a ≠ D:=fun z=>hn (by rw [← z]; exact m)
  rw [Zy na]; exact q
theorem Owns.snoc {L:Addr→Prop} {xs:List V} {rs:List OT} {as bs:List Addr} {x:V} {r:OT} (h:Owns G H' L xs rs as) (k:Own G H' L x r bs):Owns G H' L (xs ++ [x]) (rs ++ [r]) (as ++ bs) :=
 Owns.rec (motive_1:=fun _ _ _ _=>True) (motive_2:=fun xs rs as _=>Owns G H' L (xs ++ [x]) (rs ++ [r]) (as ++ bs)) (fun _=>trivial) (fun _ _ _=>trivial) (fun _ _ _=>trivial) (fun _ _ _=>trivial) (by have:=Owns.cons k .nil; rwa [List.append_nil] at this) (fun k _ _ ih=>by rw [List.append_assoc]; exact .cons k ih) h
end
structure Zx9 (C:MC G) (H1:Hp) (fp1:Fp) (ex:Addr→Prop) (n:Nat) (caps:List Nat) (σ0:St) (D:Addr) (pb:Bool) (H':Hp) (σ':St) (δ':Zh) (fp':Fp) (ys:List V) (rs:List OT) (new:List Addr):Prop where
 keep:∀ b o,H1 b = some o→(pb = true∨¬ Foot (Jq n caps fp1) b)→H' b = some o
 al:∀ b,H' b = none→H1 b = none
 dat:H' D = some (.lst ys)
 rel:Rel (Zym C H1 fp1 σ0) (Jx n caps) H' σ' δ' fp' (exu (Zgf ex D fp1 (Jq n caps fp1)) new)
 grow:∀ a,Foot fp' a→Foot (Jq n caps fp1) a∨H1 a = none
 own:Owns G H' (fun a=>true = true→Lf (Zym C H1 fp1 σ0) fp' (exu (Zgf ex D fp1 (Jq n caps fp1)) new) a) ys rs new
 nd:new.Nodup
 fresh:∀ a ∈ new,H1 a = none∧a ≠ D
section
variable {io:List Nat} {p c pt pe ci:Bool} {g:MGt} {mt:MTt} {me:MEt} {own:List Str} {caps:List Nat}
theorem Zsa {C:MC G} {H1:Hp} {σ:St} {δ1:Zh} {fp1:Fp} {ex:Addr→Prop} {J:It} {ds:List PyData} {D:Addr} {Qf:Hp→Prop} (I:Nat→List OT→Zh→Prop) (R1:Rel C io H1 σ δ1 fp1 ex)
  (it:∀ H':Hp,(∀ b o,H1 b = some o→((pt && pe) = true∨¬ Foot (Jq own.length caps fp1) b)→H' b = some o)→∀ i:Nat,(∀ d,ds[i]? = some d→J.go i H'∧∀ x H'',J.yld i H' x H''→Same H' H''∧Da G H'' (fun a=>ci = true→(Lf C fp1 ex a∧H1 a ≠ none)) x d)∧(ds[i]? = none→J.stop i H'))
  (nd:caps.Nodup) (hD:H1 D = none) (hz:ds.length ≤ sizeLine) (h0:I 0 [] (blk own.length caps δ1))
  (turn:∀ (i:Nat) (d:PyData) (rs:List OT) (δ':Zh),ds[i]? = some d→I i rs δ'→g d δ' fun δ2=>mt δ2 fun b δ3=>if b = true then me δ3 fun r δ4=>I (i + 1) (rs ++ [r]) δ4 else I (i + 1) rs δ3)
  (fin:∀ H' σ' δ' fp' ys rs new,Zx9 C H1 fp1 ex own.length caps (J7 own caps σ) D (pt && pe) H' σ' δ' fp' ys rs new→I ds.length rs δ'→Qf H') :
  Zzx J (gM G (Jx own.length caps) ci g) (ttM G (Jx own.length caps) pt mt) (tM G (Jx own.length caps) pe true me) (J7 own caps σ) D Qf H1:=by
 have hx:Zgf ex D fp1 (Jq own.length caps fp1) D:=.inr (.inl rfl)
 refine ⟨fun i n σ' H'=>n = ds.length - i∧i ≤ ds.length∧∃ rs ys new δ' fp',Zx9 C H1 fp1 ex own.length caps (J7 own caps σ) D (pt && pe) H' σ' δ' fp' ys rs new∧ys.length ≤ i∧I i rs δ',⟨ds.length,rfl,Nat.zero_le _,[],[],[],_,_,⟨fun b o e _=>Yc hD _ _ _ e,(Yc hD _).al,Z7,?_,fun a z=>.inl z,.nil,.nil,fun a m=>(nomatch m)⟩,Nat.le_refl _,h0⟩,?_⟩
 ·exact (R1.block nd hD).drop fun a z=>Zc6.mp z
 rintro i n σ2 H2 ⟨rfl,hle,rs,ys,new,δ2,fp2,B,hl,i2⟩
 have subB:∀ b,Foot (Jq own.length caps fp1) b→Foot fp1 b:=fun b q92=>by
  obtain ⟨k,z⟩:=q92
  obtain ⟨i,_,_,z⟩:=Zdh z
  exact ⟨i,z⟩
 have itk:=it H2 B.keep i
 by_cases hlt:i < ds.length
 case neg =>
  have e:i = ds.length:=by omega
  subst e
  exact .inl ⟨itk.2 (by simp),fin H2 σ2 δ2 fp2 ys rs new B i2⟩
 have hd:ds[i]? = some ds[i]:=List.getElem?_eq_getElem hlt
 obtain ⟨go,yl⟩:=itk.1 _ hd
 refine .inr ⟨go,fun x H3 hy=>?_⟩
 obtain ⟨s3,q3⟩:=yl x H3 hy
 have R3:=B.rel.mk0 s3
 have D3:H3 D = some (.lst ys):=s3 _ _ B.dat
 -- the item,clean in the block
 have q3':Da G H3 (fun a=>ci = true→Lf (Zym C H1 fp1 (J7 own caps σ)) fp2 (exu (Zgf ex D fp1 (Jq own.length caps fp1)) new) a) x ds[i]:=by
  refine q3.wide fun a l _ z=>?_
  obtain ⟨⟨l1,l2,l3⟩,l4⟩:=l z
  refine ⟨fun w=>?_,fun w=>?_,.inl ⟨l3,l1⟩⟩
  ·rcases B.grow a w with w | w
   ·exact l1 (subB a w)
   ·exact l4 w
  ·rcases w with (w | w | w) | w
   ·exact l2 w
   ·subst w; exact l4 hD
   ·exact l1 w.1
   ·exact l4 (B.fresh a w).1
 refine ⟨_,δ2,fp2,_,_,_,R3,q3',turn i _ rs δ2 hd i2,fun σ4 δ4 fp4 R4 k4 h4=>?_⟩
 refine ⟨_,δ4,fp4,_,_,R4,h4,fun H5 b δ5 fp5 R5 S5 h5=>?_⟩
 -- the state behind the test
 have keep5:∀ b o,H1 b = some o→((pt && pe) = true∨¬ Foot (Jq own.length caps fp1) b)→H5 b = some o:=fun b o e q=>by
  refine S5.keep b o (s3 _ _ (B.keep b o e q)) ?_
  rcases q with q | q
  ·rw [Bool.and_eq_true] at q; exact .inl q.1
  ·refine .inr fun z=>?_
   rcases k4.grow b z with z | z
   ·rcases B.grow b z with z | z
    ·exact q z
    ·rw [e] at z; cases z
   ·rw [s3 _ _ (B.keep b o e (.inr q))] at z; cases z
 have al5:∀ b,H5 b = none→H1 b = none:=fun b e=>B.al b (s3.al b (S5.al b e))
 have grow4:∀ a,Foot fp4 a→Foot (Jq own.length caps fp1) a∨H1 a = none:=fun a z=>by
  rcases k4.grow a z with z | z
  ·exact B.grow a z
  ·exact .inr (B.al a (s3.al a z))
 have grow5:∀ a,Foot fp5 a→Foot (Jq own.length caps fp1) a∨H1 a = none:=fun a z=>by
  rcases S5.grow a z with z | z
  ·exact grow4 a z
  ·exact .inr (B.al a (s3.al a z))
 have D5:H5 D = some (.lst ys):=S5.keep D _ D3 (.inr fun ⟨k,z⟩=>R4.dx k D z (.inl hx))
 have own3:=B.own.same s3
 -- the items so far behind the target and the test
 have own4:Owns G H3 (fun a=>true = true→Lf (Zym C H1 fp1 (J7 own caps σ)) fp4 (exu (Zgf ex D fp1 (Jq own.length caps fp1)) new) a) ys rs new:=by
  refine own3.wide fun a l q z=>?_
  obtain ⟨l1,l2,l3⟩:=l z
  exact ⟨fun w=>(k4.grow a w).elim l1 q,l2,l3⟩
 have own5:=R4.owns_step (ex':=exu (Zgf ex D fp1 (Jq own.length caps fp1)) new) S5 (c:=true) (.inr rfl) (fun a z=>.inl z) (fun a m=>.inr m) own4
 dsimp only at h5 ⊢
 cases b with
 | false =>
  rw [if_neg Bool.false_ne_true] at h5 ⊢
  exact ⟨ds.length - (i + 1),by omega,rfl,hlt,rs,ys,new,δ5,fp5,⟨keep5,al5,D5,R5,grow5,own5,B.nd,B.fresh⟩,by omega,h5⟩
 | true =>
  rw [if_pos rfl] at h5 ⊢
  refine ⟨_,δ5,fp5,_,_,R5,h5,fun H6 v r δ6 fp6 nr r6 h6=>?_⟩
  have D6:H6 D = some (.lst ys):=r6.stp.keep D _ D5 (.inr fun ⟨k,z⟩=>R5.dx k D z (.inl hx))
  have hDnr:D ∉ nr:=fun z=>by
   have:=r6.fresh D z
   rw [D5] at this; cases this
  have own6:=R5.owns_step (ex':=exu (exu (Zgf ex D fp1 (Jq own.length caps fp1)) new) nr) r6.stp (c:=true) (.inr rfl) (fun a z=>z.imp id fun z=>r6.fresh a z) (fun a m=>.inr m) own5
  have eqx:∀ a,exu (Zgf ex D fp1 (Jq own.length caps fp1)) (new ++ nr) a→exu (exu (Zgf ex D fp1 (Jq own.length caps fp1)) new) nr a:=fun a z=>by
   rcases z with z | z
   ·exact .inl (.inl z)
   ·rcases List.mem_append.mp z with z | z
    ·exact .inl (.inr z)
    ·exact .inr z
  have lw:∀ a,(true = true→Lf (Zym C H1 fp1 (J7 own caps σ)) fp6 (exu (exu (Zgf ex D fp1 (Jq own.length caps fp1)) new) nr) a)→H6 a ≠ none→(true = true→Lf (Zym C H1 fp1 (J7 own caps σ)) fp6 (exu (Zgf ex D fp1 (Jq own.length caps fp1)) (new ++ nr)) a) :=
   fun a l _ z=>⟨(l z).1,fun w=>(l z).2.1 (eqx a w),(l z).2.2⟩
  have ownA:=(own6.snoc r6.own).wide lw
  refine ⟨ys,D6,by omega,ds.length - (i + 1),by omega,rfl,hlt,rs ++ [r],ys ++ [v],new ++ nr,δ6,fp6,⟨fun b o e q=>?_,fun b e=>?_,Z7,?_,fun a z=>?_,?_,?_,fun a m=>?_⟩,by rw [List.length_append]; show ys.length + 1 ≤ i + 1; omega,h6⟩
  ·have nD:b ≠ D:=fun z=>by rw [z,hD] at e; cases e
   rw [Zy nD]
   refine r6.stp.keep b o (keep5 b o e q) ?_
   rcases q with q | q
   ·rw [Bool.and_eq_true] at q; exact .inl q.2
   ·refine .inr fun z=>?_
    rcases grow5 b z with z | z
    ·exact q z
    ·rw [e] at z; cases z
  ·by_cases q:b = D
   ·subst q; rw [Z7] at e; cases e
   ·rw [Zy q] at e
    exact al5 b (r6.stp.al b e)
  ·exact (r6.rel.drop eqx).poke (.inl hx) D6 hD
  ·rcases r6.stp.grow a z with z | z
   ·exact grow5 a z
   ·exact .inr (al5 a z)
  ·exact ownA.poke D6 (fun z=>(z rfl).2.1 (.inl hx)) (fun m=>by
    rcases List.mem_append.mp m with m | m
    ·exact (B.fresh D m).2 rfl
    ·exact hDnr m)
  ·refine List.nodup_append.mpr ⟨B.nd,r6.nd,fun a m b m' z=>?_⟩
   subst z
   obtain ⟨xs,e⟩:=own5.some a m
   rw [r6.fresh a m'] at e; cases e
  ·rcases List.mem_append.mp m with m | m
   ·exact B.fresh a m
   ·exact ⟨al5 a (r6.fresh a m),fun z=>hDnr (z ▸ m)⟩
end
end L2
namespace L2
open PySem PySem.Spec PyProof.Rows
variable {G:PySem.W.Frag}
section
variable {X:Cx} {io:List Nat} {p p' c pt pe ci:Bool} {g:MGt} {mt:MTt} {me m:MEt} {mi:MIt} {own:List Str} {caps:List Nat} {e:Expr}
noncomputable def Z20 (n:Nat) (caps:List Nat) (ds:List PyData) (g:MGt) (mt:MTt) (me:MEt) (δ1:Zh) (K:OT→Zh→Prop):Prop:=ds.length ≤ sizeLine∧∃ I:Nat→List OT→Zh→Prop,I 0 [] (blk n caps δ1) ∧
 (∀ (i:Nat) (d:PyData) (rs:List OT) (δ':Zh),ds[i]? = some d→I i rs δ'→g d δ' fun δ2=>mt δ2 fun b δ3=>if b = true then me δ3 fun r δ4=>I (i + 1) (rs ++ [r]) δ4 else I (i + 1) rs δ3) ∧
 ∀ rs δ',I ds.length rs δ'→K (.nd rs) δ1
noncomputable def Zfe (n:Nat) (caps:List Nat) (mi:MIt) (g:MGt) (mt:MTt) (me:MEt):MEt:=fun δ K=>mi δ fun ds δ1=>Z20 n caps ds g mt me δ1 K
theorem Zwt {wi:TI} (si:SI G io p ci wi mi) (nd:caps.Nodup) (hp:(pt && pe) = true) :
  SE G io p true (Z2b own caps wi (gM G (Jx own.length caps) ci g) (ttM G (Jx own.length caps) pt mt) (tM G (Jx own.length caps) pe true me)) (Zfe own.length caps mi g mt me):=by
 intro C H σ δ fp ex K Q R h k
 refine si C H σ δ fp ex _ _ R h fun J H1 ds δ1 fp1 R1 S1 it h1 D hD=>?_
 obtain ⟨hz,I,h0,turn,fin⟩:=h1
 refine Zsa I R1 (fun H' kp=>it H' fun b o e _=>kp b o e (.inl hp)) nd hD hz h0 turn fun H' σ' δ' fp' ys rs new B i'=>?_
 have s:Same H1 H':=fun b o e=>B.keep b o e (.inl hp)
 refine k H' (.ref D) (.nd rs) δ1 fp1 (D :: new) (RE.tree R R1 S1 s (fun a m=>?_) (List.nodup_cons.mpr ⟨fun m=>(B.fresh D m).2 rfl,B.nd⟩) (.nd B.dat (B.own.wide fun a l _=>?_))) (fin rs δ' i')
 ·rcases List.mem_cons.mp m with rfl | m
  ·exact hD
  ·exact (B.fresh a m).1
 ·refine ⟨?_,fun m=>?_⟩
  ·rcases Z6j (fun a z=>.inl (.inl z)) (l rfl) with z | z
   ·exact .inl fun _=>z
   ·exact .inr z
  ·rcases List.mem_cons.mp m with z | z
   ·exact (l rfl).2.1 (.inl (.inr (.inl z)))
   ·exact (l rfl).2.1 (.inr z)
variable {N':List Str} {sc:Scope} {tg elt iter:Expr} {ifs:List Expr} {pos:Pos}
theorem Z4h (S:CompScope X own caps N' sc) (hc:X.calm = true) (nd:caps.Nodup) (hi:MI X io p ci tg iter mi)
  (hg:∀ C cells s₂ H₂ fp,MG (Yv X N' sc C cells s₂ H₂ fp) (Jx own.length caps) ci tg g) (ht:∀ C cells s₂ H₂ fp,MIfs (Yv X N' sc C cells s₂ H₂ fp) (Jx own.length caps) pt ifs mt) (he:∀ C cells s₂ H₂ fp,ME (Yv X N' sc C cells s₂ H₂ fp) (Jx own.length caps) pe true elt me)
  (hp:(pt && pe) = true:=by rfl) (hs:∀ x,foldedSetIterable iter X.env x = pure x:=by intro _; rfl):ME X io p true (.ListComp elt [⟨tg,iter,ifs,0⟩] sc pos) (Zfe own.length caps mi g mt me):=by
 obtain ⟨_,A,si⟩:=hi
 exact ⟨_,Zz7 S hc A (fun C cells s₂ H₂ fp=>(hg C cells s₂ H₂ fp).canon) (fun C cells s₂ H₂ fp=>(ht C cells s₂ H₂ fp).canon) (fun C cells s₂ H₂ fp=>(he C cells s₂ H₂ fp).canon) hs,Zwt si nd hp⟩
section
variable {i:Nat} {y:Str} {py spos:Pos}
theorem Zbf (own':Bool) (hN:X.N.Nodup) (hy:X.N[i]? = some y) (hx:Loc X.env.scope y) (S:CompScope X own caps N' sc) (hc:X.calm = true) (nd:caps.Nodup) (hi:MI X io p ci tg iter mi)
  (hg:∀ C cells s₂ H₂ fp,MG (Yv X N' sc C cells s₂ H₂ fp) (Jx own.length caps) ci tg g) (ht:∀ C cells s₂ H₂ fp,MIfs (Yv X N' sc C cells s₂ H₂ fp) (Jx own.length caps) pt ifs mt) (he:∀ C cells s₂ H₂ fp,ME (Yv X N' sc C cells s₂ H₂ fp) (Jx own.length caps) pe true elt me)
  (hp:(pt && pe) = true:=by rfl) (hio:i ∉ io:=by decide)
  (hsw:swapsWith (.ListComp elt [⟨tg,iter,ifs,0⟩] sc pos) (some (.Name y py)) spos.line X.env = pure true:=by rfl)
  (hs:∀ x,foldedSetIterable iter X.env x = pure x:=by intro _; rfl) (hf:X.fn y = true∨X.env.scope.names.lookup y = some .local:=by first | exact .inl rfl | exact .inr rfl | assumption) :
  MS X io (.Assign [.Name y py] (.ListComp elt [⟨tg,iter,ifs,0⟩] sc pos) spos) (if own' = true then Zlm i (Zfe own.length caps mi g mt me) else Z2j i (Zfe own.length caps mi g mt me)):=by
 obtain ⟨_,A,si⟩:=hi
 refine ⟨_,Zim (g:=gM X.K (Jx own.length caps) ci g) (tt:=ttM X.K (Jx own.length caps) pt mt) (te:=tM X.K (Jx own.length caps) pe true me) hN hy hx S hc A (fun C cells s₂ H₂ fp=>(hg C cells s₂ H₂ fp).canon) (fun C cells s₂ H₂ fp=>(ht C cells s₂ H₂ fp).canon) (fun C cells s₂ H₂ fp=>(he C cells s₂ H₂ fp).canon) hsw hs hf,?_⟩
 cases own'
 ·exact Yac (Zwt si nd hp) hio
 ·exact Z08 (Zwt si nd hp) hio
end
end
end L2
namespace L2
open PySem PySem.Spec PyProof.Rows
variable {G:PySem.W.Frag}
section
variable {X:Cx} {pins:List (Addr × Obj)} {σ:St} {H:Hp} {s:Shared} {l:Addr} {xs:List V}
noncomputable def Z2u (K:PySem.W.Frag):R2:=fun x y H Q=>∃ l b xs zs,x = .ref l∧y = .ref b∧SqL K H l xs∧SqL K H b zs∧xs.length + zs.length ≤ sizeLine∧∀ p,H p = none→Q (.ref p) (upd H p (.lst (xs ++ zs)))
theorem Inv.lstQ {K:PySem.W.Frag} (hK:X.K = K) (I:Inv X pins σ H s) (hH:SqL K H l xs):∃ (its:List Value) (n:Nat),Vals xs its∧xs.length = its.length∧∃ o,s.heap.get? l = some o∧o.cls = .type "list" ∧ o.dict = none∧o.data = .seq its.toArray n:=by
 subst hK
 obtain ⟨its,r,⟨o,n,e,h1,h2,h3⟩,_⟩:=I.list hH
 exact ⟨its,n,r,r.length,o,e,h1,h2,h3⟩
theorem Zjg {K:PySem.W.Frag} (hK:X.K = K):OpR X (binaryOp .Add) (Z2u K):=by
 intro pins s σ H x y v u Q I rx ry h
 obtain ⟨l,b,xs,zs,rfl,rfl,hH,hB,hz,q⟩:=h
 cases rx
 cases ry
 obtain ⟨its,n,r,hl,⟨cls,dd,data,sl⟩,ho,hc,_,hd⟩:=I.lstQ hK hH
 obtain ⟨its2,n2,r2,hl2,⟨cls2,dd2,data2,sl2⟩,ho2,hc2,_,hd2⟩:=I.lstQ hK hB
 simp only at hc hd hc2 hd2
 subst hc hd hc2 hd2
 have ea:its.toArray ++ its2.toArray = (its ++ its2).toArray:=by simp
 refine concat_meets ⟨_,ho,rfl⟩ ⟨_,ho2,rfl⟩ noFill_list_add seq_list_add PySem.F.slot_list_add PySem.F.entry_list_add (PySem.F.args_list_add_2 _ _) (list_addW l b its.toArray its2.toArray n n2 dd dd2 sl sl2 (by simp only [List.size_toArray]; omega)) ⟨ho,ho2,?_⟩
 rw [ea]
 exact ⟨.ref _,_,I.lnew (t':=s.toks) (r.append r2) (by rw [List.length_append]; omega),rfl,q _ I.fresh⟩
end
noncomputable def asI (d:PyData) (k:Int→Prop):Prop:=match d with | .int i=>k i | _=>False
noncomputable def asL (d:PyData) (k:List PyData→Prop):Prop:=match d with | .list ds=>k ds | _=>False
section
variable {H:Hp} {L:Addr→Prop} {v:V} {d:PyData}
theorem Da.intInv {k:Int→Prop} (q:Da G H L v d) (h:asI d k):∃ i,v = .int i∧k i:=by
 cases q with
 | int b=>exact ⟨b,rfl,h⟩
 | _=>exact h.elim
theorem Da.lstInv {k:List PyData→Prop} (q:Da G H L v d) (h:asL d k):∃ a xs ds,v = .ref a∧SqL G H a xs∧Das G H L xs ds∧k ds:=by
 cases q with
 | lst l e r=>exact ⟨_,_,_,rfl,.inl e,r,h⟩
 | scr s=>exact ⟨_,_,_,rfl,s.sq,.ints _,h⟩
 | _=>exact h.elim
end
noncomputable def d2I (C:Int→Int→Prop) (g:Int→Int→PyData):PyData→PyData→(PyData→Prop)→Prop:=fun d e k=>asI d fun i=>asI e fun j=>C i j∧k (g i j)
noncomputable def Zuj (g:Int→Int→PyData):PyData→PyData→(PyData→Prop)→Prop:=fun d e k=>asI d fun i=>asI e fun j=>k (g i j)
theorem Z2m {C:Int→Int→Prop} {f:Int→Int→Int}:P2s G (rI C fun i j=>.int (f i j)) (d2I C fun i j=>.int (f i j)):=fun H L x y d e k Q hx hy h kk=>by
 obtain ⟨i,rfl,h⟩:=hx.intInv h
 obtain ⟨j,rfl,h⟩:=hy.intInv h
 exact ⟨i,j,rfl,rfl,h.1,kk _ _ (.int _) h.2⟩
structure MulOk (i j:Int):Prop where
 ok:IntMulOk i j
structure Ybj (i j:Int):Prop where
 ok:DivOk i j
structure Yae (i j:Int):Prop where
 ok:Z6r i j
theorem Z42 {f:Int→Int→Int}:P2s G (rI IntMulOk fun i j=>.int (f i j)) (d2I MulOk fun i j=>.int (f i j)):=fun H L x y d e k Q hx hy h kk=>by
 obtain ⟨i,rfl,h⟩:=hx.intInv h
 obtain ⟨j,rfl,h⟩:=hy.intInv h
 exact ⟨i,j,rfl,rfl,h.1.ok,kk _ _ (.int _) h.2⟩
theorem Z4w {f:Int→Int→Int}:P2s G (rI DivOk fun i j=>.int (f i j)) (d2I Ybj fun i j=>.int (f i j)):=fun H L x y d e k Q hx hy h kk=>by
 obtain ⟨i,rfl,h⟩:=hx.intInv h
 obtain ⟨j,rfl,h⟩:=hy.intInv h
 exact ⟨i,j,rfl,rfl,h.1.ok,kk _ _ (.int _) h.2⟩
theorem Z36 {f:Int→Int→Int}:P2s G (rI Z6r fun i j=>.int (f i j)) (d2I Yae fun i j=>.int (f i j)):=fun H L x y d e k Q hx hy h kk=>by
 obtain ⟨i,rfl,h⟩:=hx.intInv h
 obtain ⟨j,rfl,h⟩:=hy.intInv h
 exact ⟨i,j,rfl,rfl,h.1.ok,kk _ _ (.int _) h.2⟩
theorem Zs9 {f:Int→Int→Int}:P2s G (rI0 fun i j=>.int (f i j)) (Zuj fun i j=>.int (f i j)):=fun H L x y d e k Q hx hy h kk=>by
 obtain ⟨i,rfl,h⟩:=hx.intInv h
 obtain ⟨j,rfl,h⟩:=hy.intInv h
 exact ⟨i,j,rfl,rfl,kk _ _ (.int _) h⟩
theorem Zf0 {f:Int→Int→Bool}:P2s G (rI0 fun i j=>.bl (f i j)) (Zuj fun i j=>.bool (f i j)):=fun H L x y d e k Q hx hy h kk=>by
 obtain ⟨i,rfl,h⟩:=hx.intInv h
 obtain ⟨j,rfl,h⟩:=hy.intInv h
 exact ⟨i,j,rfl,rfl,kk _ _ (.bl _) h⟩
section
variable {X:Cx}
noncomputable def Yba (K:PySem.W.Frag):R2:=fun x y H Q=>∃ (L L':Addr→Prop) (d e:PyData),Da K H L x d∧Da K H L' y e∧Shp d∧Shp e∧Q (.bl (PyData.eqv d e)) H
noncomputable def Ybk (K:PySem.W.Frag):R2:=fun x y H Q=>∃ (L L':Addr→Prop) (d e:PyData),Da K H L x d∧Da K H L' y e∧Shp d∧Shp e∧Q (.bl (!PyData.eqv d e)) H
theorem Zr0 (hu:X.A.units + 64 < cLine):OpR X (compareOp .Eq) (Yba X.K):=by
 intro pins s σ H x y v u Q I rx ry h
 obtain ⟨L,L',d,e,h1,h2,s1,s2,q⟩:=h
 obtain ⟨as,k1⟩:=h1.reads rfl I rx (SeqAt.canLay_of_shaped s1)
 obtain ⟨bs,k2⟩:=h2.reads rfl I ry (SeqAt.canLay_of_shaped s2)
 exact eq_dataH k1 k2 s1 s2 hu ⟨.bl _,H,I,rfl,q⟩
theorem Znk (hu:X.A.units + 64 < cLine):OpR X (compareOp .NotEq) (Ybk X.K):=by
 intro pins s σ H x y v u Q I rx ry h
 obtain ⟨L,L',d,e,h1,h2,s1,s2,q⟩:=h
 obtain ⟨as,k1⟩:=h1.reads rfl I rx (SeqAt.canLay_of_shaped s1)
 obtain ⟨bs,k2⟩:=h2.reads rfl I ry (SeqAt.canLay_of_shaped s2)
 exact ne_dataH k1 k2 s1 s2 hu ⟨.bl _,H,I,rfl,q⟩
end
structure Z2x (d:PyData):Prop where
 ok:Shp d
noncomputable def dEq:PyData→PyData→(PyData→Prop)→Prop:=fun d e k=>Z2x d∧Z2x e∧k (.bool (PyData.eqv d e))
noncomputable def dNe:PyData→PyData→(PyData→Prop)→Prop:=fun d e k=>Z2x d∧Z2x e∧k (.bool (!PyData.eqv d e))
theorem Zza:P2s G (Yba G) dEq:=fun H L x y d e k Q hx hy h kk=>⟨L,L,d,e,hx,hy,h.1.ok,h.2.1.ok,kk _ _ (.bl _) h.2.2⟩
theorem Zvo:P2s G (Ybk G) dNe:=fun H L x y d e k Q hx hy h kk=>⟨L,L,d,e,hx,hy,h.1.ok,h.2.1.ok,kk _ _ (.bl _) h.2.2⟩
noncomputable def Zfm:PyData→Bool
 | .none=>true
 | _=>false
theorem Da.isNone {H:Hp} {L:Addr→Prop} {v:V} {d:PyData} (h:Da G H L v d):decide (v = .non) = Zfm d:=by
 cases h <;> rfl
noncomputable def Z3h:PyData→PyData→(PyData→Prop)→Prop:=fun d e k=>e = .none∧k (.bool (!Zfm d))
theorem Zrx:P2s G (fun x y H Q=>y = .non∧Q (.bl (!decide (x = .non))) H) Z3h:=fun H L x y d e k Q hx hy h kk=>by
 obtain ⟨rfl,h⟩:=h
 cases hy
 exact ⟨rfl,by rw [hx.isNone]; exact kk _ _ (.bl _) h⟩
noncomputable def scD:PyData→Bool
 | .none=>true
 | .bool _=>true
 | .int _=>true
 | .str _=>true
 | _=>false
noncomputable def eqS:PyData→PyData→Bool
 | .none,.none=>true
 | .bool a,.bool b=>a == b
 | .bool a,.int b=>(if a then 1 else 0) == b
 | .int a,.bool b=>a == (if b then 1 else 0)
 | .int a,.int b=>a == b
 | .str a,.str b=>a == b
 | _,_=>false
noncomputable def memS (d:PyData) (ds:List PyData):Bool:=ds.any fun e=>eqS e d
theorem Da.toSc {H:Hp} {L:Addr→Prop} {v:V} {d:PyData} (h:Da G H L v d) (s:scD d = true):ScD v d:=by
 cases h with
 | non=>exact .non
 | bl b=>exact .bl b
 | int i=>exact .int i
 | str x=>exact .str x
 | _=>cases s
theorem Da.sc {H:Hp} {L:Addr→Prop} {v:V} {d:PyData} (h:Da G H L v d) (s:scD d = true):Zhk v = true:=by
 cases h.toSc s <;> rfl
theorem Das.sc {H:Hp} {L:Addr→Prop} {vs:List V} {ds:List PyData} (h:Das G H L vs ds):ds.all scD = true→vs.all Zhk = true :=
 Das.ind (Q:=fun vs ds=>ds.all scD = true→vs.all Zhk = true) (fun _=>rfl) (fun h _ r s=>by
  rw [List.all_cons,Bool.and_eq_true] at s
  rw [List.all_cons,h.sc s.1,r s.2]; rfl) h
theorem Da.eqS {H:Hp} {L:Addr→Prop} {v u:V} {d e:PyData} (h:Da G H L v d) (g:Da G H L u e) (s:scD d = true) (t:scD e = true):eqV v u = L2.eqS d e:=by
 cases h.toSc s <;> cases g.toSc t <;> rfl
theorem Das.memS {H:Hp} {L:Addr→Prop} {v:V} {d:PyData} (h:Da G H L v d) (s:scD d = true) {vs:List V} {ds:List PyData} (g:Das G H L vs ds):ds.all scD = true→inV v vs = L2.memS d ds :=
 Das.ind (Q:=fun vs ds=>ds.all scD = true→inV v vs = L2.memS d ds) (fun _=>rfl) (fun g _ r t=>by
  rw [List.all_cons,Bool.and_eq_true] at t
  have:=r t.2
  unfold inV L2.memS at *
  rw [List.any_cons,List.any_cons,this,g.eqS h t.1 s]) g
noncomputable def dIn (neg:Bool):PyData→PyData→(PyData→Prop)→Prop:=fun d e k=>scD d = true∧match e with
 | .list ds=>ds.all scD = true∧k (.bool (if neg then !memS d ds else memS d ds))
 | .tuple ds=>ds.all scD = true∧k (.bool (if neg then !memS d ds else memS d ds))
 | _=>False
theorem Zv4 {neg:Bool}:P2s G (rIn G neg) (dIn neg):=fun H L x y d e k Q hx hy h kk=>by
 obtain ⟨s,h⟩:=h
 cases hy with
 | lst l e r=>exact ⟨_,_,rfl,.inl (.inl e),hx.sc s,r.sc h.1,by rw [Das.memS hx s r h.1]; exact kk _ _ (.bl _) h.2⟩
 | tup e r=>exact ⟨_,_,rfl,.inr (.inl (.inl e)),hx.sc s,r.sc h.1,by rw [Das.memS hx s r h.1]; exact kk _ _ (.bl _) h.2⟩
 | scr ks=>exact ⟨_,_,rfl,.inl ks.sq,hx.sc s,(Das.ints (G:=G) (H:=H) (L:=L) _).sc h.1,by rw [Das.memS hx s (Das.ints (G:=G) (H:=H) (L:=L) _) h.1]; exact kk _ _ (.bl _) h.2⟩
 | _=>exact h.elim
noncomputable def ixD (d e:PyData):Option PyData:=match d,e with
 | .list ds,.int i=>atI ds i
 | .tuple ds,.int i=>atI ds i
 | _,_=>none
noncomputable def dIx:PyData→PyData→(OT→Prop)→Prop:=fun d e k=>match ixD d e with | some x=>k (.fz x) | none=>False
theorem Das.atI {H:Hp} {L:Addr→Prop} {xs:List V} {ds:List PyData} {i:Int} {d:PyData} (h:Das G H L xs ds) (e:L2.atI ds i = some d):∃ x,L2.atI xs i = some x∧Da G H L x d:=by
 unfold L2.atI at *
 rw [h.length]
 cases q:ixN ds.length i with
 | none=>rw [q] at e; cases e
 | some j =>
  rw [q] at e
  exact h.get e
theorem Z8n:P2 G (rIx G) dIx:=fun H L x y d e k Q hx hy h kk=>by
 unfold dIx at h
 split at h
 case h_2=>exact h.elim
 rename_i z ez
 have fin:∀ v,Da G H L v z→Q v H:=fun v q=>kk H v (.fz z) [] (Same.refl _) (.fz (q.wide fun a l _=>⟨.inl l,fun m=>nomatch m⟩)) .nil (fun a m=>nomatch m) h
 cases hx with
 | lst l e1 r =>
  cases hy with
  | int i =>
   obtain ⟨v,e2,q⟩:=r.atI (show L2.atI _ i = some z from ez)
   exact .inl ⟨_,_,i,v,rfl,rfl,.inl e1,e2,fin v q⟩
  | _=>cases ez
 | tup e1 r =>
  cases hy with
  | int i =>
   obtain ⟨v,e2,q⟩:=r.atI (show L2.atI _ i = some z from ez)
   exact .inr (.inl ⟨_,_,i,v,rfl,rfl,.inl (.inl e1),e2,fin v q⟩)
  | _=>cases ez
 | scr ks =>
  cases hy with
  | int i =>
   obtain ⟨v,e2,q⟩:=(Das.ints (G:=G) (H:=H) (L:=L) _).atI (show L2.atI _ i = some z from ez)
   exact .inl ⟨_,_,i,v,rfl,rfl,ks.sq,e2,fin v q⟩
  | _=>cases ez
 | _=>cases ez
theorem Own.list {H:Hp} {L:Addr→Prop} {p:Addr} {xs:List V} {ds:List PyData} (hp:H p = none) (h:Das G H L xs ds):Own G (upd H p (.lst xs)) (fun a=>(L a∨H a = none)∧a ∉ [p]) (.ref p) (.nd (ds.map OT.fz)) [p] :=
 .nd Z7 (((h.wide fun a l q=>⟨.inl l,fun m=>q (by rw [List.mem_singleton.mp m]; exact hp)⟩).same (Yc hp _)).owns)
theorem Zfs {H:Hp} {p:Addr} (hp:H p = none):∀ a ∈ [p],H a = none:=fun a m=>by rw [List.mem_singleton.mp m]; exact hp
theorem Zih (p:Addr):[p].Nodup:=List.nodup_cons.mpr ⟨fun m=>(nomatch m),.nil⟩
noncomputable def dCat:PyData→PyData→(OT→Prop)→Prop:=fun d e k=>asL d fun ds=>asL e fun es=>ds.length + es.length ≤ sizeLine∧k (.nd ((ds ++ es).map OT.fz))
theorem Zni:P2 G (Z2u G) dCat:=fun H L x y d e k Q hx hy h kk=>by
 obtain ⟨a,xs,ds,rfl,e1,r1,h⟩:=hx.lstInv h
 obtain ⟨b,ys,es,rfl,e2,r2,h⟩:=hy.lstInv h
 exact ⟨a,b,xs,ys,rfl,rfl,e1,e2,by rw [r1.length,r2.length]; exact h.1,fun p hp=>kk _ _ _ [p] (Yc hp _) (Own.list hp (r1.append r2)) (Zih p) (Zfs hp) h.2⟩
noncomputable def n1 (k:PyData→Prop) (ds:List PyData):Prop:=match ds with | [d]=>k d | _=>False
noncomputable def n2 (k:PyData→PyData→Prop) (ds:List PyData):Prop:=match ds with | [d,e]=>k d e | _=>False
theorem Das.one {H:Hp} {L:Addr→Prop} {vs:List V} {ds:List PyData} {k:PyData→Prop} (q:Das G H L vs ds) (h:n1 k ds):∃ v d,vs = [v]∧ds = [d]∧Da G H L v d∧k d:=by
 cases q with
 | nil=>exact h.elim
 | cons q r =>
  cases r with
  | nil=>exact ⟨_,_,rfl,rfl,q,h⟩
  | cons _ _=>exact h.elim
theorem Das.two {H:Hp} {L:Addr→Prop} {vs:List V} {ds:List PyData} {k:PyData→PyData→Prop} (q:Das G H L vs ds) (h:n2 k ds):∃ v u d e,vs = [v,u]∧ds = [d,e]∧Da G H L v d∧Da G H L u e∧k d e:=by
 cases q with
 | nil=>exact h.elim
 | cons q r =>
  cases r with
  | nil=>exact h.elim
  | cons q' r' =>
   cases r' with
   | nil=>exact ⟨_,_,_,_,rfl,rfl,q,q',h⟩
   | cons _ _=>exact h.elim
noncomputable def Zwp:PyData→Option Nat
 | .list ds=>some ds.length
 | .tuple ds=>some ds.length
 | _=>none
noncomputable def Yap:List PyData→(PyData→Prop)→Prop:=fun ds k=>n1 (fun d=>match Zwp d with | some n=>k (.int n) | none=>False) ds
theorem Zto:PNs G (Yb9 G) Yap:=fun H L xs ds k Q hx h kk=>by
 obtain ⟨v,d,rfl,rfl,q,h⟩:=hx.one h
 cases q with
 | lst l e r=>exact ⟨_,_,rfl,.inl (.inl e),by rw [r.length]; exact kk _ _ (.int _) h⟩
 | tup e r=>exact ⟨_,_,rfl,.inr (.inl (.inl e)),by rw [r.length]; exact kk _ _ (.int _) h⟩
 | scr ks=>exact ⟨_,_,rfl,.inl ks.sq,by rw [(Das.ints (G:=G) (H:=H) (L:=L) _).length]; exact kk _ _ (.int _) h⟩
 | _=>exact h.elim
noncomputable def Yaw:List PyData→(PyData→Prop)→Prop:=fun ds k=>n1 (fun d=>asI d fun i=>k (.int (if i < 0 then -i else i))) ds
theorem Zqs:PNs G (fun xs H Q=>∃ i,xs = [.int i]∧Q (.int (if i < 0 then -i else i)) H) Yaw:=fun H L xs ds k Q hx h kk=>by
 obtain ⟨v,d,rfl,rfl,q,h⟩:=hx.one h
 obtain ⟨i,rfl,h⟩:=q.intInv h
 exact ⟨i,rfl,kk _ _ (.int _) h⟩
noncomputable def Ybh:List PyData→(PyData→Prop)→Prop:=fun ds k=>n2 (fun d e=>asI d fun i=>asI e fun j=>k (.int (if j < i then j else i))) ds
theorem Zs5:PNs G (fun xs H Q=>∃ i j,xs = [.int i,.int j]∧Q (.int (if j < i then j else i)) H) Ybh:=fun H L xs ds k Q hx h kk=>by
 obtain ⟨v,u,d,e,rfl,rfl,q,q',h⟩:=hx.two h
 obtain ⟨i,rfl,h⟩:=q.intInv h
 obtain ⟨j,rfl,h⟩:=q'.intInv h
 exact ⟨i,j,rfl,kk _ _ (.int _) h⟩
noncomputable def Zx2:PyData→Option (List PyData)
 | .list ds=>some ds
 | .tuple ds=>some ds
 | _=>none
section
variable {X:Cx} {io:List Nat} {p c:Bool} {a:Expr} {ma:MEt} {pos:Pos}
noncomputable def Yaz (m:MEt):MEt:=fun δ K=>m δ fun r δ'=>asI r.data fun i=>K (.fz (.int (-i))) δ'
theorem Zvh (ha:ME X io p c a ma):ME X io p true (.UnaryOp .USub a pos) (Yaz ma):=by
 obtain ⟨_,A,s⟩:=ha
 exact ⟨_,Z7q Z3q A,fun C H σ δ fp ex K Q R h k=>s C H σ δ fp ex _ _ R h fun H' v r δ' fp' new r1 h1=>by
  obtain ⟨i,rfl,h1⟩:=(r1.da R).intInv h1
  exact ⟨i,rfl,k H' _ _ δ' fp' [] (.fz r1.base r1.stp (.int _)) h1⟩⟩
noncomputable def Zof (T:String):PyData→Bool
 | .none=>false
 | .bool _=>T == "bool" || T == "int"
 | .int _=>T == "int"
 | .str _=>T == "str"
 | .list _=>T == "list"
 | .tuple _=>T == "tuple"
 | .dict _=>false
noncomputable def Ybu (T:String) (m:MEt):MEt:=fun δ K=>m δ fun r δ'=>Zhc r.data = false∧K (.fz (.bool (Zof T r.data))) δ'
end
end L2
namespace L2
open PySem PySem.Spec PyProof.Rows
section
variable {prog:Program} {w:World} {A:Around} {E:Value→Shared→Prop} {h:Heap} {g:Array GenState} {d:Drawn} {t:Nat} {os:OsState} {a C:Addr} {o:Obj} {K:PySem.W.Frag}
theorem Z0y (M:Model) (hx:h.get? a = some o) (hc:o.cls = .ref C):PySem.W.Looks M h (typeOf (.ref a)) (.ref C):=hc ▸ (PySem.W.Looks.ld hx).andThen .now
theorem Zup {R:Result→Shared→Prop} (X:K.In h) (Z:Zfw K C) (hx:h.get? a = some o) (hc:o.cls = .ref C) (hq:R (.ok (.ret (.ref C))) ⟨h,g,d,t,os⟩) :
  codeAny (model prog w) A (.call (.builtin "getset_descriptor.__get__") ⟨[.builtin "object.__class__", .ref a,.ref C],[]⟩) R ⟨h,g,d,t,os⟩:=by
 have L1:PySem.W.Looks (model prog w) h (isSubtype (.ref C) (.type (".".intercalate ("object.__class__".cutAt '.').dropLast))) true:=by
  rw [F.owner_object_class]
  exact PySem.W.looks_subIn X Z.isO
 have T5:(⟨h,g,d,t,os⟩:Shared).TypeIs (.builtin "object.__class__") "getset_descriptor" := F.typeOf_object_class
 refine codeAny_call_builtin F.slot_gs_get.plain F.entry_gs_get (F.slot_gs_get.check _ _ _ _ _ _ _ _ T5 (F.args_gs_get _ _ _) ?_)
 repeat (any_goals (first | assumption | (with_reducible refine wpAny_loadPart_at hx ?_; rw [hc]) | (with_reducible refine wpAny_bind (PySem.W.Looks.at L1 ?_)) | (with_reducible refine PySem.W.Looks.at L1 ?_) | wp_step))
 refine ⟨Code.quiet_builtin _ (by decide +kernel),codeAny_builtin F.entry_object_class ?_⟩
 repeat (any_goals (first | assumption | (with_reducible refine wpAny_loadPart_at hx ?_; rw [hc]) | wp_step))
theorem Zpd {tk:Tok} {Q:Fin→Shared→Prop} (X:K.In h) (Z:Zfw K C) (hx:h.get? a = some o) (hc:o.cls = .ref C) (hq:Q (.done (.ret (.ref C))) ⟨h,g,d,t,os⟩) :
  wpAny (model prog w) A (Builtin.«object.__getattribute__» ⟨[.ref a,.str "__class__" tk],[]⟩) Q E ⟨h,g,d,t,os⟩:=by
 have T5:(⟨h,g,d,t,os⟩:Shared).TypeIs (.builtin "object.__class__") "getset_descriptor" := F.typeOf_object_class
 have g5:=F.typeOf_object_class
 have g6:=F.slot_gs_get.lookup
 have g7:=F.slot_gs_set.lookup
 have L4:=PySem.W.looks_findIn (M:=model prog w) X Z.cl
 repeat (any_goals (first | assumption | (with_reducible refine wpAny_loadPart_at hx ?_; rw [hc]) | (with_reducible refine wpAny_bind (PySem.W.Looks.at L4 ?_)) | (with_reducible refine PySem.W.Looks.at L4 ?_) | wp_step))
 refine Zup X Z hx hc ?_
 repeat (any_goals (first | assumption | wp_step))
theorem Zp7 {M:Model} {nameV:Value} {Q:Unit→Shared→Prop} (X:K.In h) (Z:Zfw K C) (hx:h.get? a = some o) (hc:o.cls = .ref C) (hq:Q () ⟨h,g,d,t,os⟩) :
  wpAny M A (checkBuiltinCall "BaseException.__getattribute__" ⟨[.ref a,nameV],[]⟩) Q E ⟨h,g,d,t,os⟩:=by
 have e1:builtinKind "BaseException.__getattribute__" = some .slot:=by decide +kernel
 have e2:splitId "BaseException.__getattribute__" = some ("BaseException", "__getattribute__"):=by decide +kernel
 have L1:=PySem.W.looks_subIn (M:=M) X Z.isB
 have e3:=F.args_bexc_ga (.ref a) nameV
 simp only [checkBuiltinCall,e1,e2]
 refine wpAny_bind ?_
 unfold isInstance
 repeat (first | (with_reducible refine wpAny_loadPart_at hx ?_; rw [hc]) | (with_reducible refine wpAny_bind (PySem.W.Looks.at L1 ?_)) | (with_reducible refine PySem.W.Looks.at L1 ?_) | wp_step)
 exact hq
theorem Zso {tk:Tok} {R:Result→Shared→Prop} (X:K.In h) (Z:Zfw K C) (hx:h.get? a = some o) (hc:o.cls = .ref C) (hq:R (.ok (.ret (.ref C))) ⟨h,g,d,t,os⟩) :
  codeAny (model prog w) A (.call (.builtin "BaseException.__getattribute__") ⟨[.ref a,.str "__class__" tk],[]⟩) R ⟨h,g,d,t,os⟩ :=
 codeAny_call_builtin F.excAttr_ValueError.ga.plain F.entry_bexc_ga (Zp7 X Z hx hc (Zpd X Z hx hc hq))
theorem Zz5 {tk:Tok} {fill expr:Bool} {Q:Value→Shared→Prop} (X:K.In h) (Z:Zfw K C) (hx:h.get? a = some o) (hc:o.cls = .ref C) (hq:Q (.ref C) ⟨h,g,d,t,os⟩) :
  wpAny (model prog w) A (getAttrBy (.ref a) (.str "__class__" tk) fill expr) Q E ⟨h,g,d,t,os⟩:=by
 have f3:=F.excAttr_ValueError.ga.bind (.ref a)
 have y0:(expr && onTheHeap (Value.builtin "BaseException.__getattribute__")) = false:=by cases expr <;> rfl
 have y2:(Value.builtin "BaseException.__getattribute__" == Value.builtin "object.__getattribute__") = false:=by decide +kernel
 have y1:(onTheHeap (Value.ref C) && Value.builtin "BaseException.__getattribute__" == Value.builtin "object.__getattribute__") = false:=by rw [y2]; rfl
 have L2:=PySem.W.looks_findIn (M:=model prog w) X Z.ga
 have L3:=PySem.W.looks_findIn (M:=model prog w) X Z.gt
 repeat (any_goals (first | assumption | (with_reducible refine wpAny_loadPart_at hx ?_; rw [hc]) | (with_reducible refine PySem.W.Looks.at L2 ?_) | (with_reducible refine PySem.W.Looks.at L3 ?_) | (with_reducible refine wpAny_bind (PySem.W.Looks.at L2 ?_)) | (with_reducible refine wpAny_bind (PySem.W.Looks.at L3 ?_)) | wp_step))
 refine Zso X Z hx hc ?_
 repeat (any_goals (first | assumption | wp_step))
theorem Zqg {Q:Option Value→Shared→Prop} (X:K.In h) (Z:Zfw K C) (hx:h.get? a = some o) (hc:o.cls = .ref C) (hq:Q (some (.ref C)) ⟨h,g,d,t + 1,os⟩) :
  wpAny (model prog w) A (getAttr? (.ref a) "__class__") Q E ⟨h,g,d,t,os⟩:=by
 unfold getAttr? getAttrBy?
 repeat (any_goals (first | assumption | with_reducible apply Zz5 X Z hx hc | wp_step))
end
theorem Zuw {K:PySem.W.Frag} {a C:Addr} (Z:Zfw K C):PySem.W.KitX K (.ref a) (.ref C) (fun h=>∃ o,h.get? a = some o∧o.cls = .ref C) where
 ty:=fun M h _ p=>let ⟨_,hx,hc⟩:=p; Z0y M hx hc
 it:=fun M h X _=>by
  have z:=Z.isC
  unfold PySem.W.clsIn at z
  split at z
  ·rename_i ho
   intro A' Q' E' s' k q
   unfold isType loadHead
   exact wpAny_bind (wpAny_loadPart (k _ _ (X _ _ ho)) (wpAny_pure q))
  ·cases z
 ne:=fun h tp dd its n sl X htp=>by
  have z:=Z.isC
  refine Bool.eq_false_iff.mpr fun q=>?_
  have e:C = tp:=Value.ref.inj (beq_iff_eq.mp q)
  subst e
  unfold PySem.W.clsIn at z
  split at z
  ·rename_i ho
   have z:=(X _ _ ho).symm.trans htp
   cases z
  ·cases z
 ca:=fun {_ _ _ _ _ s} X p k=>by
  obtain ⟨h,g,d,t,os⟩:=s
  obtain ⟨_,hx,hc⟩:=p
  exact Zqg X Z hx hc k
end L2
namespace L2
open PySem PySem.Spec PyProof.Rows
variable {G:PySem.W.Frag}
noncomputable def tyD:PyData→String
 | .none => "NoneType"
 | .bool _ => "bool"
 | .int _ => "int"
 | .str _ => "str"
 | .list _ => "list"
 | .tuple _ => "tuple"
 | .dict _ => "dict"
theorem Zxo {K:PySem.W.Frag} {T:String} {d:PyData} (h:T = "int" ∨ T = "bool" ∨ T = "str" ∨ T = "list" ∨ T = "tuple") (hd:∀ kvs,d ≠ .dict kvs):PySem.W.kitOne K (.type (tyD d)) (.type T) = some (Zof T d):=by
 rcases h with rfl | rfl | rfl | rfl | rfl <;> cases d <;> first | rfl | (exact absurd rfl (hd _)) | (unfold PySem.W.kitOne PySem.W.kitCls; rfl) | (simp only [tyD,Zof]; decide +kernel)
noncomputable def Z9i (G:PySem.W.Frag):List V→Hp→VK→Prop:=fun xs H Q=>∃ (x:V) (T:String) (L:Addr→Prop) (d:PyData),xs = [x,.ty T]∧Da G H L x d∧Zhc d = false∧(T = "int" ∨ T = "bool" ∨ T = "str" ∨ T = "list" ∨ T = "tuple")∧Q (.bl (Zof T d)) H
theorem Ztq {X:Cx} (hK:X.K = G):Zd9 X (.builtin "isinstance") (Z9i G):=by
 subst hK
 intro pins s σ H xs us Q I r h
 obtain ⟨x,T,L,d,rfl,q,hf,hT,h⟩:=h
 obtain ⟨u,w',rfl,r1,r2⟩:=vals2 r
 cases (show w' = Value.type T from r2)
 have fin:∀ tk:Nat,EP X pins σ Q (.bool (Zof T d)) { s with toks:=tk }:=fun tk=>⟨.bl _,H,I.tok tk,rfl,h⟩
 cases q with
 | non=>exact Zas I r1 .non (Zxo (d:=.none) hT fun _ z=>by cases z) fin
 | bl b=>exact Zas I r1 (.bl b) (Zxo (d:=.bool b) hT fun _ z=>by cases z) fin
 | int b=>exact Zas I r1 (.int b) (Zxo (d:=.int b) hT fun _ z=>by cases z) fin
 | str b=>exact Zas I r1 (.str b) (Zxo (d:=.str b) hT fun _ z=>by cases z) fin
 | lst l e qs =>
  rename_i ds
  rcases e with e | ⟨o,e⟩
  ·exact Zas I r1 (.lst e) (Zxo (d:=.list ds) hT fun _ z=>by cases z) fin
  ·exact Zas I r1 (.frz e) (Zxo (d:=.list ds) hT fun _ z=>by cases z) fin
 | tup e qs =>
  rename_i ds
  exact Zas I r1 (.tup e) (Zxo (d:=.tuple ds) hT fun _ z=>by cases z) fin
 | scr ks =>
  rename_i a ns
  cases (show u = Value.ref a from r1)
  obtain ⟨its,vs,⟨o,n,ho,hc,hd,hs⟩,_⟩:=I.list (ks.sq (H:=H))
  exact PySem.W.kia_one PySem.W.kitx_list I.kIn ⟨o,ho,hc⟩ (Zxo (d:=.list (ns.map PyData.int)) hT fun _ z=>by cases z) (fun z=>nomatch z) fin
 | exc Z hn e =>
  rename_i a C x
  cases (show u = Value.ref a from r1)
  obtain ⟨⟨o,vs,ho,hc,_⟩,_,_⟩:=(show ObjOk X.prog X.w H s.heap a (.ext (ExO C a)) from I.hok a _ e)
  refine PySem.W.kia_one (Zuw Z) I.kIn ⟨o,ho,hc⟩ (b:=Zof T (exD x)) ?_ (fun z=>nomatch z) fin
  rcases hT with rfl | rfl | rfl | rfl | rfl
  ·exact Z.k1
  ·exact Z.k2
  ·exact Z.k3
  ·exact Z.k4
  ·exact Z.k5
 | fn _=>cases hf
 | dic _ _ _ _=>unfold dcD Zhc at hf; cases hf
section
variable {X:Cx} {io:List Nat} {p c p' c':Bool} {a b e:Expr} {ma m:MEt} {pos pp p2:Pos} {K:PySem.W.Frag}
theorem Zgg {T:Str} {T':String} (hT:T' = "int" ∨ T' = "bool" ∨ T' = "str" ∨ T' = "list" ∨ T' = "tuple") (hg:Gl X "isinstance") (hm:X.mg "isinstance" = none) (hv:bootBuiltins "isinstance" = some (.builtin "isinstance"))
  (hg2:Gl X T) (hm2:X.mg T = none) (hv2:bootBuiltins T = some (.type T')) (ha:ME X io p c a ma) (hn:T ≠ "__name__" := by decide) (hd:(T == ("__debug__" : Str)) = false:=by decide)
  (he:starEach [a,.Name T p2] X.env = (false,eval a X.env) :: starEach [.Name T p2] X.env:=by rfl) (he2:starEach [.Name T p2] X.env = (false,eval (.Name T p2) X.env) :: starEach [] X.env:=by rfl) (hpl:(backTo pos (starEach [.Name T p2] X.env)).any (·.1) = false:=by rfl) :
  ME X io p true (.Call (.Name "isinstance" pp) [a,.Name T p2] [] pos) (Ybu T' ma):=by
 obtain ⟨_,A,s⟩:=ha
 refine ⟨_,Zjo (Ztq rfl) hg hm hv (Zc7 A (Zc7 (Zzi (v:=.ty T') hg2 hm2 hv2 rfl hn hd) Zgu he2) he) (by decide) (by decide) he hpl,?_⟩
 intro C H σ δ fp ex K' Q R h k
 refine s C H σ δ fp ex _ _ R h fun H' v r δ' fp' new r1 h1=>?_
 exact ⟨v,T',_,_,rfl,r1.da R,h1.1,hT,k H' _ _ δ' fp' [] (.fz r1.base r1.stp (.bl _)) h1.2⟩
noncomputable abbrev MOt:=Zh→(Option Int→Zh→Prop)→Prop
noncomputable def MO (X:Cx) (io:List Nat) (p:Bool) (e:Option Expr) (m:MOt):Prop:=∃ t,PO X e t∧∀ (C:MC X.K) (H:Hp) (σ:St) (δ:Zh) (fp:Fp) (ex:Addr→Prop) (K:Option Int→Zh→Prop) (Q:Option Int→Hp→Prop),Rel C io H σ δ fp ex→m δ K →
 (∀ H' b δ' fp',Rel C io H' σ δ' fp' ex→Stp p H δ fp H' δ' fp'→K b δ'→Q b H')→t σ H Q
noncomputable def Zub:MOt:=fun δ K=>K none δ
noncomputable def Z4l (m:MEt):MOt:=fun δ K=>m δ fun r δ'=>asI r.data fun i=>K (some i) δ'
theorem Zq6:MO X io true none Zub:=⟨_,Zzp,fun C H σ δ fp ex K Q R h k=>k H none δ fp R (.refl _ _ _ _) h⟩
theorem Zqk (h:ME X io p c e m):MO X io p (some e) (Z4l m):=by
 obtain ⟨_,A,s⟩:=h
 exact ⟨_,Zz6 A,fun C H σ δ fp ex K Q R h k=>s C H σ δ fp ex _ _ R h fun H' v r δ' fp' new r1 h1=>by
  obtain ⟨i,rfl,h1⟩:=(r1.da R).intInv h1
  exact ⟨i,rfl,k H' _ δ' fp' r1.base r1.stp h1⟩⟩
noncomputable def cutD (ds:List PyData) (lo hi:Option Int):List PyData:=(ds.drop (HT.sIx ds.length 0 lo)).take (HT.sIx ds.length ds.length hi - HT.sIx ds.length 0 lo)
theorem Das.cut {H:Hp} {L:Addr→Prop} {xs:List V} {ds:List PyData} (h:Das G H L xs ds) (lo hi:Option Int):Das G H L (Z2k xs lo hi) (cutD ds lo hi):=by
 unfold Z2k cutD
 rw [h.length]
 exact (h.drop _).take _
noncomputable def mSl (m:MEt) (ml mh:MOt):MEt:=fun δ K=>m δ fun r δ1=>ml δ1 fun lo δ2=>mh δ2 fun hi δ3=>asL r.data fun ds=>K (.nd ((cutD ds lo hi).map OT.fz)) δ3
theorem Z3f {lo hi:Option Expr} {ml mh:MOt} (ha:ME X io true c a ma) (hl:MO X io true lo ml) (hh:MO X io true hi mh):ME X io true c (.Subscript a (.Slice lo hi none p2) pos) (mSl ma ml mh):=by
 obtain ⟨_,A,s⟩:=ha
 obtain ⟨_,B,sl⟩:=hl
 obtain ⟨_,D,sh⟩:=hh
 refine ⟨_,Zuz (Zur rfl) A B D,?_⟩
 intro C H σ δ fp ex K' Q R h k
 refine s C H σ δ fp ex _ _ R h fun H1 v r δ1 fp1 new r1 h1=>?_
 refine sl C H1 σ δ1 fp1 ex _ _ r1.base h1 fun H2 l δ2 fp2 R2 S2 h2=>?_
 refine sh C H2 σ δ2 fp2 ex _ _ R2 h2 fun H3 u δ3 fp3 R3 S3 h3=>?_
 have s2:Same H1 H2:=fun b o e=>S2.keep b o e (.inl rfl)
 have s3:Same H2 H3:=fun b o e=>S3.keep b o e (.inl rfl)
 obtain ⟨e1,e2⟩:=r1.stp.env rfl
 obtain ⟨e3,e4⟩:=S2.env rfl
 obtain ⟨e5,e6⟩:=S3.env rfl
 have q:=((r1.da R).same s2).same s3
 obtain ⟨a',xs,ds,rfl,e,qs,h3⟩:=q.lstInv h3
 refine ⟨a',xs,rfl,e,fun p hp=>?_⟩
 have S:=(r1.stp.trans S2).trans S3
 refine k _ _ _ δ3 fp3 [p] (RE.tree R R3 S (Yc hp _) (Zfs hp) (Zih p) (Own.list hp ((qs.cut l u).wide fun a l _=>?_))) h3
 rw [e6,e4]
 exact l
theorem Owns.set {H:Hp} {L:Addr→Prop} {x:V} {r:OT} (hr:Own G H L x r []):∀ {xs:List V} {ts:List OT} {as:List Addr} (j:Nat),Owns G H L xs ts as→∃ bs,Owns G H L (xs.set j x) (ts.set j r) bs∧bs.Sublist as
 | _,_,_,_,.nil=>⟨[],.nil,.refl _⟩
 | _,_,_,0,.cons k t=>⟨_,.cons hr t,by simp⟩
 | _,_,_,j + 1,.cons (as:=as) k t=>by
  obtain ⟨bs,o,s⟩:=Owns.set hr j t
  exact ⟨as ++ bs,.cons k o,List.Sublist.append_left s as⟩
theorem Owns.get {H:Hp} {L:Addr→Prop}:∀ {xs:List V} {ts:List OT} {as:List Addr} {j:Nat} {t:OT},Owns G H L xs ts as→ts[j]? = Option.some t→∃ x bs,xs[j]? = Option.some x∧Own G H L x t bs∧bs.Sublist as
 | _,_,_,_,_,.nil,e=>by simp at e
 | _,_,_,0,_,.cons k _,e=>by simp at e; subst e; exact ⟨_,_,rfl,k,List.sublist_append_left _ _⟩
 | _,_,_,j + 1,t,.cons _ r,e=>by
  obtain ⟨x,bs,h1,h2,h3⟩:=Owns.get (j:=j) (t:=t) r (by simpa using e)
  exact ⟨x,bs,by simpa using h1,h2,h3.trans (List.sublist_append_right _ _)⟩
theorem Rel.top {C:MC G} {H:Hp} {σ:St} {δ:Zh} {fp:Fp} {ex:Addr→Prop} {i:Nat} {ts ts':List OT} {a':Addr} {xs ys:List V} {bs bs':List Addr} (R:Rel C io H σ δ fp ex) (hi:δ[i]? = some (some (.nd ts))) (hv:σ[i]? = some (some (.ref a')))
  (hf:fp i = a' :: bs) (hx:H a' = some (.lst xs)) (o:Owns G H (Lf C fp ex) ys ts' bs') (hs:bs'.Sublist bs) :
  Rel C io (upd H a' (.lst ys)) σ (δ.set i (some (.nd ts'))) (fpu fp i (a' :: bs')) ex∧Stp false H δ fp (upd H a' (.lst ys)) (δ.set i (some (.nd ts'))) (fpu fp i (a' :: bs')):=by
 have nd:=R.nd i
 rw [hf] at nd
 have hn:=List.nodup_cons.mp nd
 have hm:a' ∈ fp i:=by rw [hf]; exact .head _
 have ne':∀ a,¬ Foot fp a→a ≠ a':=fun a h z=>h ⟨i,by rw [z]; exact hm⟩
 have kp:∀ b o,H b = some o→b ≠ a'→upd H a' (.lst ys) b = some o:=fun b o e n=>by rw [Zy n]; exact e
 have sub:∀ a,a ∈ a' :: bs'→a ∈ fp i:=fun a m=>by
  rw [hf]
  rcases List.mem_cons.mp m with rfl | m
  ·exact .head _
  ·exact .tail _ (hs.subset m)
 have o':Owns G (upd H a' (.lst ys)) (Lf C (fpu fp i (a' :: bs')) (exu ex [])) ys ts' bs':=by
  have f0:∀ a,¬ Foot fp a→¬ Foot (fpu fp i (a' :: bs')) a:=fun a h z=>by
   rcases z.of_u with z | ⟨j,_,z⟩
   ·exact h ⟨i,sub a z⟩
   ·exact h ⟨j,z⟩
  have f1:∀ a (zs:MuO),Lf C fp ex a→Rd H a zs.ho→Lf C (fpu fp i (a' :: bs')) (exu ex []) a∧Rd (upd H a' (.lst ys)) a zs.ho:=fun a zs l q=>by
   refine ⟨⟨f0 a l.1,fun z=>l.2.1 (Zc6.mp z),l.2.2⟩,?_⟩
   rcases q with q | ⟨u,q⟩
   ·exact .inl (kp a _ q (ne' a l.1))
   ·exact .inr ⟨u,kp a _ q (ne' a l.1)⟩
  have f2:∀ a (zs:ImO),H a = some zs.ho→upd H a' (.lst ys) a = some zs.ho:=fun a zs q=>kp a _ q fun z=>ImO.nl q (z ▸ hx)
  exact o.frame f1 f2 fun a m zs q=>kp a _ q fun z=>hn.1 (hs.subset (z ▸ m))
 have key:=R.change (new:=[]) (as':=a' :: bs') (t':=.nd ts') (H':=upd H a' (.lst ys)) hi hv (fun b o e nb=>kp b o e fun z=>nb (by rw [z]; exact hm)) (fun b e=>by
   by_cases q:b = a'
   ·subst q; rw [Z7] at e; cases e
   ·rwa [Zy q] at e) (.nd Z7 o') (List.nodup_cons.mpr ⟨fun m=>hn.1 (hs.subset m),hn.2.sublist hs⟩) (fun a m=>.inl (sub a m)) (fun a m=>nomatch m)
 exact ⟨key.1.drop fun a z=>.inl z,key.2⟩
end
end L2
namespace L2
open PySem PySem.Spec PyProof.Rows
variable {G:PySem.W.Frag}
section
variable {X:Cx} {io:List Nat} {p c p' c':Bool} {a b e:Expr} {ma m mi mj:MEt} {pos pp p2 apos cpos px:Pos} {K:PySem.W.Frag} {i:Nat} {x:Str}
theorem Rel.ownNd {C:MC G} {H:Hp} {σ:St} {δ:Zh} {fp:Fp} {ex:Addr→Prop} {ts:List OT} (R:Rel C io H σ δ fp ex) (hi:δ[i]? = some (some (.nd ts))) :
  ∃ a' xs bs,σ[i]? = some (some (.ref a'))∧H a' = some (.lst xs)∧Owns G H (Lf C fp ex) xs ts bs∧fp i = a' :: bs:=by
 obtain ⟨v,e,o⟩:=R.own i _ hi
 generalize hf:fp i = as at o
 cases o with
 | nd h r=>exact ⟨_,_,_,e,h,r,rfl⟩
noncomputable def Zj6 (i:Nat) (m:MEt):MSt:=fun D δ=>match δ[i]? with
 | some (some (.nd _))=>m δ fun r δ1=>match δ1[i]? with
  | some (some (.nd ts))=>ts.length < sizeLine∧D.nx (δ1.set i (some (.nd (ts ++ [.fz r.data]))))
  | _=>False
 | _=>False
theorem Jb (i:Nat) (he:ME X io p true e m) (hN:X.N[i]? = some x:=by rfl) (hv:Vis X.env.scope x:=by first | exact Or.inl rfl | exact Or.inr (Or.inl rfl) | exact Or.inr (Or.inr rfl)) (hd:(x == ("__debug__" : Str)) = false:=by decide)
  (hcd:(x == ("__classdict__" : Str)) = false:=by decide)
  (hbase:attributeBase (.Name x px) "append" X.env (eval (.Name x px) X.env) = eval (.Name x px) X.env:=by rfl)
  (hfew:((backTo cpos (starEach [e] X.env)).all (fun x=>!x.1) && (backToKw cpos (keywordEach [] X.env)).all (fun x=>x.1.isSome)
   && decide ([e].length + ([]:List Keyword).length + (if ([]:List Keyword).isEmpty then 0 else 1) < 30)) = true:=by rfl)
  (hline:(apos.endLine == cpos.line) = true:=by rfl) (hs:starEach [e] X.env = (false,eval e X.env) :: starEach [] X.env:=by rfl) (hplain:(backTo cpos (starEach [] X.env)).any (·.1) = false:=by rfl)
  (hsw:swapsWith (.Call (.Attribute (.Name x px) "append" apos) [e] [] cpos) none pos.line X.env = pure false:=by rfl) :
  MS X io (.Expr (.Call (.Attribute (.Name x px) "append" apos) [e] [] cpos) pos) (Zj6 i m):=by
 obtain ⟨_,A,s⟩:=he
 refine ⟨_,Znc (Zz0 PySem.F.plainAttrs_list PySem.F.slot_list_append PySem.F.type_list_append Zkp (pv i hN hv hd hcd) (Zc7 A Zgu hs) hbase hfew hline hs hplain) hsw,fun C H σ δ fp ex D D' R h E=>?_⟩
 unfold Zj6 at h
 split at h
 case h_2=>exact h.elim
 rename_i ts0 hi0
 obtain ⟨a',xs0,bs0,hv0,hx0,_,_⟩:=R.ownNd hi0
 refine ⟨_,hv0,.inl ⟨rfl,xs0,.inl (.inl hx0)⟩,?_⟩
 refine s C H σ δ fp ex _ _ R h fun H1 v r δ1 fp1 new r1 h1=>?_
 split at h1
 case h_2=>exact h1.elim
 rename_i ts1 hi1
 have R1:=r1.base
 obtain ⟨a1,xs1,bs1,hv1,hx1,o1,hf1⟩:=R1.ownNd hi1
 rw [hv0] at hv1
 cases hv1
 have q:=(r1.da R).wide (L':=Lf C fp1 ex) fun a l _=>l rfl
 refine ⟨a',xs1,v,rfl,rfl,hx1,by rw [o1.length]; exact h1.1,?_⟩
 have o2:=o1.snoc (.fz q)
 obtain ⟨R2,S2⟩:=R1.top hi1 hv0 hf1 hx1 o2 (by simp)
 exact E.nx _ σ _ _ R2 (r1.stp.kp.trans S2.kp) h1.2
noncomputable def Z6a (i:Nat) (m mi mj:MEt):MSt:=fun D δ=>m δ fun r δ1=>match δ1[i]? with
 | some (some (.nd ts))=>mi δ1 fun n _=>asI n.data fun k=>match ixN ts.length k with
  | some j=>match ts[j]? with
   | some (.nd us)=>mj δ1 fun n' _=>asI n'.data fun k'=>match ixN us.length k' with
    | some j'=>D.nx (δ1.set i (some (.nd (ts.set j (.nd (us.set j' (.fz r.data)))))))
    | none=>False
   | _=>False
  | none=>False
 | _=>False
theorem SE.pureAfter {t:TE} {C:MC G} {H:Hp} {σ:St} {δ:Zh} {fp:Fp} {ex:Addr→Prop} {K':OT→Zh→Prop} {Q:VK} (s:SE G io true c t m) (R:Rel C io H σ δ fp ex) (h:m δ K') (k:∀ H' v r,Rel C io H' σ δ fp ex→Same H H'→Da G H' (fun a=>c = true→Lf C fp ex a) v r.data→K' r δ→Q v H'):t σ H Q :=
 s C H σ δ fp ex _ _ R h fun H1 v r δ1 fp1 new r1 h1=>by
  obtain ⟨e1,e2⟩:=r1.stp.env rfl
  have q:=r1.da R
  have R1:=r1.base
  rw [e1] at R1 h1
  rw [e2] at R1 q
  exact k H1 v r R1 (fun b o e=>r1.stp.keep b o e (.inl rfl)) q h1
theorem Owns.deep {H:Hp} {L:Addr→Prop} {b':Addr} {ws ws':List V} {us us':List OT} (hb:H b' = Option.some (HO.lst ws)) (hL:¬ L b') (hc:∀ cs,Owns G H L ws us cs→∃ cs',Owns G H L ws' us' cs'∧cs'.Sublist cs) :
  ∀ {xs:List V} {ts:List OT} {as:List Addr} {j:Nat},Owns G H L xs ts as→as.Nodup→xs[j]? = Option.some (.ref b')→ts[j]? = Option.some (.nd us)→∃ as',Owns G (upd H b' (.lst ws')) L xs (ts.set j (.nd us')) as'∧as'.Sublist as∧b' ∈ as
 | _,_,_,_,.nil,_,e,_=>by simp at e
 | _,_,_,0,.cons (as:=as) (bs:=bs) k t,nd,e,e'=>by
  simp at e e'
  subst e e'
  have nd':=List.nodup_append.mp nd
  have kp:∀ a o,a ≠ b'→H a = Option.some o→upd H b' (.lst ws') a = Option.some o:=fun a o n q=>by rw [Zy n]; exact q
  have f1:∀ a (zs:MuO),L a→Rd H a zs.ho→L a∧Rd (upd H b' (.lst ws')) a zs.ho:=fun a zs l q=>⟨l,by
   have na:a ≠ b':=fun z=>hL (z ▸ l)
   rcases q with q | ⟨u,q⟩
   ·exact .inl (kp a _ na q)
   ·exact .inr ⟨u,kp a _ na q⟩⟩
  have f2:∀ a (zs:ImO),H a = Option.some zs.ho→upd H b' (.lst ws') a = Option.some zs.ho:=fun a zs q=>kp a _ (fun z=>ImO.nl q (z ▸ hb)) q
  cases k with
  | nd h r =>
   rename_i xs0 as0
   rw [hb] at h
   cases h
   have nd2:=List.nodup_cons.mp nd'.1
   obtain ⟨cs',o',s'⟩:=hc _ r
   refine ⟨b' :: cs' ++ bs,.cons (.nd Z7 (o'.frame f1 f2 fun a m zs q=>kp a _ (fun z=>nd2.1 (s'.subset (z ▸ m))) q)) (t.frame f1 f2 fun a m zs q=>kp a _ (fun z=>nd'.2.2 b' (.head _) a m z.symm) q),List.Sublist.append_right (List.Sublist.cons₂ _ s') bs,List.mem_append_left _ (.head _)⟩
 | _,_,_,j + 1,.cons (as:=as) (bs:=bs) k t,nd,e,e'=>by
  have nd':=List.nodup_append.mp nd
  obtain ⟨as',o,s,m⟩:=Owns.deep hb hL hc (j:=j) t nd'.2.1 (by simpa using e) (by simpa using e')
  have nb:b' ∉ as:=fun z=>nd'.2.2 b' z b' m rfl
  refine ⟨as ++ as',.cons ?_ o,List.Sublist.append_left s as,List.mem_append_right _ m⟩
  have kp:∀ a o,a ≠ b'→H a = Option.some o→upd H b' (.lst ws') a = Option.some o:=fun a o n q=>by rw [Zy n]; exact q
  refine k.frame (fun a zs l q=>⟨l,?_⟩) (fun a zs q=>kp a _ (fun z=>ImO.nl q (z ▸ hb)) q) fun a m' zs q=>kp a _ (fun z=>nb (z ▸ m')) q
  have na:a ≠ b':=fun z=>hL (z ▸ l)
  rcases q with q | ⟨u,q⟩
  ·exact .inl (kp a _ na q)
  ·exact .inr ⟨u,kp a _ na q⟩
theorem Zmo (i:Nat) (he:ME X io p true e m) (hj:ME X io true c a mi) (hk:ME X io true c' b mj) (hPa:Zgq a) (hN:X.N[i]? = some x:=by rfl) (hv:Vis X.env.scope x:=by first | exact Or.inl rfl | exact Or.inr (Or.inl rfl) | exact Or.inr (Or.inr rfl)) (hd:(x == ("__debug__" : Str)) = false:=by decide)
  (hcd:(x == ("__classdict__" : Str)) = false:=by decide)
  (hpg:∀ {to ti:TE},PE X (.Subscript (.Name x px) a pp) to→PE X b ti→PG X (.Subscript (.Subscript (.Name x px) a pp) b p2) (Yav to ti Z47):=by intro _ _ A B; exact Z45 A B set_list)
  (hs:swapsWithSole [.Subscript (.Subscript (.Name x px) a pp) b p2] e pos.line X.env = pure false:=by rfl) (hw:swappedStores [.Subscript (.Subscript (.Name x px) a pp) b p2] e X.env = pure none:=by rfl)
  (h1:(assignEach [.Subscript (.Subscript (.Name x px) a pp) b p2] X.env).map (·.2) = [assign (.Subscript (.Subscript (.Name x px) a pp) b p2) X.env]:=by rfl) :
  MS X io (.Assign [.Subscript (.Subscript (.Name x px) a pp) b p2] e pos) (Z6a i m mi mj):=by
 obtain ⟨_,A,s⟩:=he
 obtain ⟨_,B,sj⟩:=hj
 obtain ⟨_,B2,sk⟩:=hk
 refine ⟨_,Z3g A (hpg (Zzo (Zv8 rfl) (pv i hN hv hd hcd) B hPa) B2) hs hw h1,fun C H σ δ fp ex D D' R h E=>?_⟩
 refine s C H σ δ fp ex _ _ R h fun H1 v r δ1 fp1 new r1 h1=>?_
 have R1:=r1.base
 have q:=(r1.da R).wide (L':=Lf C fp1 ex) fun a l _=>l rfl
 split at h1
 case h_2=>exact h1.elim
 rename_i ts hi
 obtain ⟨a',_,_,hv0,_⟩:=R1.ownNd hi
 refine ⟨_,hv0,?_⟩
 refine sj.pureAfter R1 h1 fun H2 w n R2 s2 q2 h2=>?_
 obtain ⟨k,rfl,h2⟩:=q2.intInv h2
 split at h2
 case h_2=>exact h2.elim
 rename_i j hj
 split at h2
 case h_2=>exact h2.elim
 rename_i us hus
 -- the row
 obtain ⟨a2,xs2,bs2,hv2,hx2,o2,hf2⟩:=R2.ownNd hi
 rw [hv0] at hv2
 cases hv2
 obtain ⟨xr,cr,hxr,orow,_⟩:=o2.get hus
 obtain ⟨b',rfl⟩:∃ b',xr = V.ref b':=by
  cases orow with
  | nd h r=>exact ⟨_,rfl⟩
 refine ⟨a',xs2,k,V.ref b',rfl,rfl,.inl (.inl hx2),?_,?_⟩
 ·unfold atI
  rw [o2.length,hj]
  exact hxr
 refine sk.pureAfter R2 h2 fun H3 w' n' R3 s3 q3 h3=>?_
 obtain ⟨k',rfl,h3⟩:=q3.intInv h3
 split at h3
 case h_2=>exact h3.elim
 rename_i j' hj'
 obtain ⟨a3,xs3,bs3,hv3,hx3,o3,hf3⟩:=R3.ownNd hi
 rw [hv0] at hv3
 cases hv3
 have exs:xs3 = xs2:=by
  have:=s3 _ _ hx2
  rw [hx3] at this
  cases this; rfl
 subst exs
 obtain ⟨xr3,cr3,hxr3,orow3,hsub3⟩:=o3.get hus
 rw [hxr] at hxr3
 cases hxr3
 have nd3:=R3.nd i
 rw [hf3] at nd3
 have hn3:=List.nodup_cons.mp nd3
 cases orow3 with
 | nd hb r3 =>
  rename_i ws3 bs4
  have hbm:b' ∈ bs3:=hsub3.subset (.head _)
  have hbf:b' ∈ fp1 i:=by rw [hf3]; exact .tail _ hbm
  have hLb:¬ Lf C fp1 ex b':=fun l=>l.1 ⟨i,hbf⟩
  obtain ⟨as',oo,ss,_⟩:=Owns.deep (ws':=ws3.set j' v) (us':=us.set j' (.fz r.data)) hb hLb (fun cs hcs=>Owns.set (.fz ((q.same s2).same s3)) j' hcs) o3 hn3.2 hxr hus
  refine ⟨b',ws3,k',j',rfl,rfl,hb,by rw [r3.length]; exact hj',?_⟩
  have hba:a' ≠ b':=fun z=>hn3.1 (z ▸ hbm)
  -- the change
  have sub:∀ a,a ∈ a' :: as'→a ∈ fp1 i:=fun a m=>by
   rw [hf3]
   rcases List.mem_cons.mp m with rfl | m
   ·exact .head _
   ·exact .tail _ (ss.subset m)
  have kp:∀ b o,H3 b = some o→b ≠ b'→upd H3 b' (.lst (ws3.set j' v)) b = some o:=fun b o e n=>by rw [Zy n]; exact e
  have lw:∀ a,Lf C fp1 ex a→upd H3 b' (.lst (ws3.set j' v)) a ≠ none→Lf C (fpu fp1 i (a' :: as')) (exu ex []) a:=fun a l _=>⟨fun z=>by
   rcases z.of_u with z | ⟨j,_,z⟩
   ·exact l.1 ⟨i,sub a z⟩
   ·exact l.1 ⟨j,z⟩,fun z=>l.2.1 (Zc6.mp z),l.2.2⟩
  obtain ⟨R4,S4⟩:=R3.change (new:=[]) (as':=a' :: as') (t':=.nd (ts.set j (.nd (us.set j' (.fz r.data))))) (H':=upd H3 b' (.lst (ws3.set j' v))) hi hv0 (fun b o e nb=>kp b o e fun z=>nb (by rw [z]; exact hbf)) (fun b e=>by
    by_cases q:b = b'
    ·subst q; rw [Z7] at e; cases e
    ·rwa [Zy q] at e) (.nd (by rw [Zy hba]; exact hx3) (oo.wide lw)) (List.nodup_cons.mpr ⟨fun m=>hn3.1 (ss.subset m),hn3.2.sublist ss⟩) (fun a m=>.inl (sub a m)) (fun a m=>nomatch m)
  have k23:Kp H1 fp1 H3 fp1:=⟨fun b o e _=>s3 _ _ (s2 _ _ e),fun z=>(nomatch z),fun a z=>.inl z,fun b e=>s2.al b (s3.al b e)⟩
  exact E.nx _ σ _ _ (R4.drop fun a z=>.inl z) (r1.stp.kp.trans (k23.trans S4.kp)) h3
end
end L2
namespace L2
open PySem PySem.Spec PyProof.Rows
variable {G:PySem.W.Frag}
mutual
noncomputable def Z1l:OT→Bool
 | .fz d=>Zgh d
 | .nd ts=>Zrp ts
 | .tp ts=>Zrp ts
 | .dc _ _ _=>false
noncomputable def Zrp:List OT→Bool
 | []=>true
 | t :: ts=>Z1l t && Zrp ts
end
section
variable {X:Cx} {io:List Nat} {p c:Bool} {e:Expr} {m:MEt}
theorem Rel.freeze {C:MC G} {H:Hp} {σ:St} {δ:Zh} {fp:Fp} {ex:Addr→Prop} {i:Nat} {t:OT} (R:Rel C io H σ δ fp ex) (hio:i ∉ io) (hi:δ[i]? = some (some t)):Rel C io H σ (δ.set i (some (.fz t.data))) (fpu fp i []) ex:=by
 have hil:i < δ.length:=(List.getElem?_eq_some_iff.mp hi).1
 have sub:∀ j a,a ∈ fpu fp i [] j→j ≠ i∧a ∈ fp j:=fun j a m=>by
  by_cases ej:j = i
  ·subst ej; rw [Yh] at m; exact nomatch m
  ·rw [Wd ej] at m; exact ⟨ej,m⟩
 have lw:∀ a,Lf C fp ex a→Lf C (fpu fp i []) ex a:=fun a l=>⟨fun ⟨j,z⟩=>l.1 ⟨j,(sub j a z).2⟩,l.2.1,l.2.2⟩
 have ln:∀ a ∈ fp i,Lf C (fpu fp i []) ex a:=fun a m=>⟨fun ⟨j,z⟩=>(sub j a z).1 (R.dj j i a (sub j a z).2 m),R.dx i a m,.inr (by
  rcases R.new i a m with z | z
  ·exact absurd z.1 hio
  ·exact z)⟩
 refine ⟨by rw [List.length_set]; exact R.len,fun j t' e=>?_,fun j h=>?_,fun j=>?_,fun j k a h1 h2=>R.dj j k a (sub j a h1).2 (sub k a h2).2,fun j a h z=>R.dx j a (sub j a h).2 z,R.xa,R.fr,R.al,fun j a h=>R.new j a (sub j a h).2,R.io⟩
 ·by_cases ej:j = i
  ·subst ej
   rw [List.getElem?_set_self hil] at e
   cases e
   obtain ⟨v,e1,o⟩:=R.own j t hi
   exact ⟨v,e1,by rw [Yh]; exact .fz (o.da (fun a l _=>lw a l) ln)⟩
  ·rw [List.getElem?_set_ne (Ne.symm ej)] at e
   obtain ⟨w,e1,o⟩:=R.own j t' e
   exact ⟨w,e1,by rw [Wd ej]; exact o.wide fun a l _=>lw a l⟩
 ·by_cases ej:j = i
  ·subst ej; rw [Yh]
  ·rw [Wd ej]
   exact R.emp j fun t' z=>h t' (by rw [List.getElem?_set_ne (Ne.symm ej)]; exact z)
 ·by_cases ej:j = i
  ·subst ej; rw [Yh]; exact .nil
  ·rw [Wd ej]; exact R.nd j
noncomputable def Zi6 (i:Nat) (u:MSt):MSt:=fun D δ=>match δ[i]? with | some (some t)=>u D (δ.set i (some (.fz t.data))) | _=>False
theorem Zly {st:Stmt} {u:MSt} (i:Nat) (h:MS X io st u) (hio:i ∉ io:=by decide):MS X io st (Zi6 i u):=by
 obtain ⟨_,A,s⟩:=h
 exact ⟨_,A,fun C H σ δ fp ex D D' R h E=>by
  unfold Zi6 at h
  split at h
  case h_2=>exact h.elim
  rename_i t hi
  refine s C H σ _ _ ex D D' (R.freeze hio hi) h (E.shift ⟨fun b o e _=>e,fun z=>(nomatch z),fun a z=>?_,fun b e=>e⟩)
  rcases z.of_u with z | ⟨j,_,z⟩
  ·exact nomatch z
  ·exact .inl ⟨j,z⟩⟩
end
end L2
namespace L2
open PySem PySem.Spec PyProof.Rows
variable {G:PySem.W.Frag}
noncomputable def Z2r (ds:List PyData) (k:OT→Prop):Prop:=∃ ns:List Int,ds = [.list (ns.map PyData.int)]∧ns.length ≤ 63∧k (.fz (.bool true))
theorem Z29 {H:Hp} {a:Addr} {ns:List Int} {E:XK} (hl:ns.length ≤ 63) (h:SqL G H a (ns.map V.int)):spD G Z2r [.ref a] H (fun v _=>v = .bl true) E:=by
 refine ⟨fun _=>True,[.list (ns.map PyData.int)],fun r=>r = .fz (.bool true),.cons ?_ .nil,⟨ns,rfl,hl,rfl⟩,fun r v H' new kr s o _ _=>?_⟩
 ·rcases h with h | h
  ·exact .lst trivial h (.ints ns)
  ·exact .scr h
 ·subst kr
  cases o with
  | fz q=>cases q; rfl
section
variable {P:Program} {w:World} {mg:Str→Option Value} {base:Heap} {CX:CXT} {n:Nat} {f:Addr} {fd:FuncData} {ps:List Str}
theorem Da.ints_sq {H:Hp} {L:Addr→Prop} {v:V} {ns:List Int} (h:Da G H L v (.list (ns.map PyData.int))):∃ a,v = .ref a∧SqL G H a (ns.map V.int):=by
 generalize e:PyData.list (ns.map PyData.int) = d at h
 cases h with
 | lst l e1 r =>
  cases e
  rw [r.int_inv] at e1
  exact ⟨_,rfl,.inl e1⟩
 | scr k =>
  rename_i a ms
  have e':=PyData.list.inj e
  have:ns = ms:=(List.map_inj_right (fun _ _ h=>by cases h; rfl)).mp e'
  subst this
  exact ⟨_,rfl,k.sq⟩
 | _=>cases e
end
end L2
namespace L2
open PySem PySem.Spec PyProof.Rows
@[simp] theorem Zep:OT.datas [] = []:=rfl
@[simp] theorem Zdg (t:OT) (ts:List OT):OT.datas (t :: ts) = t.data :: OT.datas ts:=rfl
theorem Zkb {α:Type} {xs:List α} {i:Int} (h0:0 ≤ i):atI xs i = xs[i.toNat]?:=by
 unfold atI ixN
 rw [if_pos h0]
 split
 ·rfl
 ·rename_i h
  symm
  exact List.getElem?_eq_none_iff.mpr (by omega)
theorem Zow {α:Type} {xs:List α} {i:Nat}:atI xs (i:Int) = xs[i]?:=by
 rw [Zkb (by omega),Int.toNat_natCast]
@[simp] theorem Ydf {α:Type} (x:α) (xs:List α):atI (x :: xs) 0 = some x:=by
 rw [Zkb (by decide)]; rfl
@[simp] theorem Yct {α:Type} (x y:α) (xs:List α):atI (x :: y :: xs) 1 = some y:=by
 rw [Zkb (by decide)]; rfl
@[simp] theorem Ycy {α:Type} (x y z:α) (xs:List α):atI (x :: y :: z :: xs) 2 = some z:=by
 rw [Zkb (by decide)]; rfl
@[simp] theorem Z6p (ds:List PyData) (i:Int):ixD (.list ds) (.int i) = atI ds i:=rfl
@[simp] theorem Z9p (ds:List PyData) (i:Int):ixD (.tuple ds) (.int i) = atI ds i:=rfl
@[simp] theorem Z4y (ds:List PyData):Zwp (.list ds) = some ds.length:=rfl
@[simp] theorem Z6u (ds:List PyData):Zwp (.tuple ds) = some ds.length:=rfl
noncomputable def Zl9 (r:List Rat):PyData:=.list (r.map frD)
noncomputable def tbD (T:List (List Rat)):PyData:=.list (T.map Zl9)
noncomputable def Z64 (r:List Rat):OT:=.nd (r.map fun q=>.fz (frD q))
noncomputable def tbT (T:List (List Rat)):OT:=.nd (T.map Z64)
@[simp] theorem Zr6 (r:List Rat):(Z64 r).data = Zl9 r:=by
 unfold Z64 Zl9
 rw [OT.data_nd,List.map_map]
 rfl
@[simp] theorem Z66 (T:List (List Rat)):(tbT T).data = tbD T:=by
 unfold tbT tbD
 rw [OT.data_nd,List.map_map]
 exact congrArg PyData.list (List.map_congr_left fun r _=>Zr6 r)
noncomputable def Sq (n:Nat) (T:List (List Rat)):Prop:=T.length = n∧∀ r ∈ T,r.length = n
noncomputable def dd (T:List (List Rat)) (i j:Nat):Rat:=(T.getD i []).getD j 0
@[simp] theorem Z9y (T:List (List Rat)):Zwp (tbD T) = some T.length:=by unfold tbD Zwp; simp
@[simp] theorem Z65 (r:List Rat):Zwp (Zl9 r) = some r.length:=by unfold Zl9 Zwp; simp
@[simp] theorem Z9f (q:Rat):Zgh (frD q) = true:=by unfold frD fr; simp [Zgh,Zss]
end L2
namespace L2
open PySem PySem.Spec PyProof.Rows
end L2
namespace L2
open PySem PySem.Spec PyProof.Rows
end L2
namespace L2
open PySem PySem.Spec PyProof.Rows
theorem Zsy {t b:Int} (ht:0 ≤ t) (hb:0 < b):0 ≤ Rat.divInt t b:=Rat.divInt_nonneg ht (by omega)
end L2
namespace L2
open PySem PySem.Spec PyProof.Rows
end L2
namespace L2
open PySem PySem.Spec PyProof.Rows
end L2
namespace L2
open PySem PySem.Spec PyProof.Rows
theorem Zix {n a:Nat} (h:a < n):ixN n (a:Int) = some a:=by
 unfold ixN
 rw [if_pos (by omega),if_pos (by omega)]; simp
theorem Sq.ixN {n a:Nat} {T:List (List Rat)} (h:Sq n T) (ha:a < n):ixN (T.map Z64).length (a:Int) = some a:=Zix (by rw [List.length_map,h.1]; exact ha)
theorem ix3 {d1 d2 d3:PyData} {r:Int} (r0:0 ≤ r) (r1:r < 3):∃ d,(d = d1∨d = d2∨d = d3)∧ixD (.list [d1,d2,d3]) (.int r) = some d:=by
 have:r = 0∨r = 1∨r = 2:=by omega
 rcases this with rfl | rfl | rfl
 ·exact ⟨d1,.inl rfl,rfl⟩
 ·exact ⟨d2,.inr (.inl rfl),rfl⟩
 ·exact ⟨d3,.inr (.inr rfl),rfl⟩
end L2
namespace L2
open PySem PySem.Spec PyProof.Rows
end L2
namespace L2
open PySem PySem.Spec PyProof.Rows
end L2
namespace L2
open PySem PySem.Spec PyProof.Rows
theorem Zvl {d:PyData} (h:Ws d = true):PyData.eqv d d = true:=Zxs h h rfl
end L2
namespace L2
open PySem PySem.Spec PyProof.Rows
structure Sh (n:Nat) (d:PyData):Prop where
 lay:PyData.canLay0 d = true
 dep:PyData.depth d ≤ n
theorem Sh.shp {n:Nat} {d:PyData} (h:Sh n d) (hn:n ≤ 64:=by decide):Z2x d:=⟨by
 show (PyData.canLay0 d && decide (PyData.depth d ≤ 64)) = true
 rw [h.lay,decide_eq_true (Nat.le_trans h.dep hn)]; rfl⟩
theorem Zsx {n:Nat}:∀ {ds:List PyData},(∀ d ∈ ds,Sh n d)→PyData.canLayAll0 ds = true∧PyData.depthAll ds ≤ n
 | [],_=>⟨by rw [PyData.canLayAll0],by rw [PyData.depthAll]; exact Nat.zero_le _⟩
 | d :: ds,h=>by
  obtain ⟨h1,h2⟩:=Zsx fun e m=>h e (.tail _ m)
  have h3:=h d (.head _)
  refine ⟨by rw [PyData.canLayAll0,h3.lay,h1]; rfl,?_⟩
  rw [PyData.depthAll]
  exact Nat.max_le.mpr ⟨h3.dep,h2⟩
theorem Ztg {n:Nat} {ds:List PyData} (h:∀ d ∈ ds,Sh n d):Sh (n + 1) (.list ds) :=
 ⟨by rw [PyData.canLay0]; exact (Zsx h).1,by rw [PyData.depth]; exact Nat.succ_le_succ (Zsx h).2⟩
theorem Zyd (i:Int):Sh 0 (.int i):=⟨rfl,Nat.le_of_eq rfl⟩
end L2
namespace L2
open PySem PySem.Spec PyProof.Rows
section
variable {X:Cx} {pins:List (Addr × Obj)} {σ:St} {H:Hp} {s:Shared}
theorem Inv.turnTup {h':Heap} {ch:List Addr} {T:Addr} {xs:List V} {its:List Value} (I:Inv X pins σ H s) (f:∀ b ∈ ch,Zi2 X pins H b) (k:∀ b o,b ∉ ch→s.heap.get? b = some o→h'.get? b = some o)
  (th:∀ b ∈ ch,∃ o,h'.get? b = some o) (hT:s.heap.objs.size ≤ T) (hz:xs.length ≤ sizeLine) (r:Vals xs its) (ht:IsTup h' T its.toArray):Inv X pins σ (upd H T (.tup xs)) { s with heap:=h' }:=by
 have hn:H T = none:=I.hok.fresh hT
 have nch:∀ b u,H b = some u→b ∉ ch:=fun b u e z=>by rw [(f b z).1] at e; cases e
 have new:ObjOk X.prog X.w (upd H T (.tup xs)) h' T (.tup xs):=⟨hz,its,r,ht⟩
 refine I.call (ch:=ch) (g':=s.gens) (d':=s.drawn) (t':=s.toks) ⟨fun b o e _ _ hc=>k b o hc e,fun b o e _ _ hc=>⟨o.slots,k b o hc e⟩,fun b o e n _=>?_,fun b o e hc=>?_,fun b ys e=>?_,fun b o u e=>?_,fun b ps e=>?_⟩ (fun b u e=>?_) I.bare (fun b hb=>?_)
 ·rw [Zy (fun z=>by rw [z] at e; exact absurd (Heap.lt_size e) (Nat.not_lt.mpr hT))]; exact n
 ·exact ⟨o,k b o hc e⟩
 ·rw [Zy (Yy e hn)]; exact e
 ·rw [Zy (Yy e hn)]; exact e
 ·exact ⟨#[],by rw [Zy (Yy e hn),e]; simp⟩
 ·by_cases hb:b = T
  ·subst hb; rw [Z7] at e; cases e; exact new
  ·rw [Zy hb] at e
   refine (I.hok b u e).stay (fun c v hc q=>k c v ?_ q) (fun c q=>by rw [Zy (Yy q hn)]; exact q) fun c ys q=>by rw [Zy (Yy q hn)]; exact q
   rcases hc with rfl | hc
   ·exact nch _ _ e
   ·exact nch _ _ hc
 ·obtain ⟨f0,f1,f2,f3,f4,f5⟩:=f b hb
  exact ⟨f3,f1,f4,f5⟩
theorem Inv.turnAll {h':Heap} {ch:List Addr} (I:Inv X pins σ H s) (f:∀ b ∈ ch,Zi2 X pins H b) (k:∀ b o,b ∉ ch→s.heap.get? b = some o→h'.get? b = some o):Inv X pins σ H { s with heap:=h' }:=by
 have nch:∀ b u,H b = some u→b ∉ ch:=fun b u e z=>by rw [(f b z).1] at e; cases e
 refine I.call (ch:=ch) (g':=s.gens) (d':=s.drawn) (t':=s.toks) ⟨fun b o e _ _ hc=>k b o hc e,fun b o e _ _ hc=>⟨o.slots,k b o hc e⟩,fun b o e n _=>n,fun b o e hc=>⟨o,k b o hc e⟩,fun b ys e=>e,fun b o u e=>e,fun b ps e=>⟨#[],by rw [e]; simp⟩⟩ (fun b u e=>?_) I.bare (fun b hb=>?_)
 ·refine (I.hok b u e).stay (fun c v hc q=>k c v ?_ q) (fun c q=>q) fun c ys q=>q
  rcases hc with rfl | hc
  ·exact nch _ _ e
  ·exact nch _ _ hc
 ·obtain ⟨f0,f1,f2,f3,f4,f5⟩:=f b hb
  exact ⟨f3,f1,f4,f5⟩
end
end L2
namespace L2
open PySem PySem.Spec PyProof.Rows
variable {G:PySem.W.Frag}
section
variable {X:Cx} {io:List Nat} {p c:Bool} {e a b tg:Expr} {m:MEt} {mr:MAt}
theorem Rel.keptList {C:MC G} {H:Hp} {σ:St} {δ:Zh} {fp:Fp} {ex:Addr→Prop} {v:V} {ds:List PyData} (R:Rel C io H σ δ fp ex) (q:Da G H (fun a=>c = true→Lf C fp ex a) v (.list ds)) :
  ∃ a xs,v = .ref a∧∀ H':Hp,(∀ b o,H b = some o→(c = false∨¬ Foot fp b)→H' b = some o)→SqL G H' a xs∧Das G H' (fun a=>c = true→(Lf C fp ex a∧H a ≠ none)) xs ds:=by
 generalize hd:PyData.list ds = d at q
 cases q with
 | lst l e r =>
  cases hd
  rename_i a0 xs0
  refine ⟨a0,xs0,rfl,fun H' kp=>?_⟩
  obtain ⟨f1,f2⟩:=R.kept kp
  exact ⟨.inl (f1 _ (.lst _) l e).2,r.frame f1 f2⟩
 | scr k =>
  rename_i a ns
  have:=PyData.list.inj hd
  subst this
  exact ⟨a,_,rfl,fun H' _=>⟨k.sq,.ints ns⟩⟩
 | _=>cases hd
noncomputable def Zhy (as bs:List PyData):List PyData:=(as.zip bs).map fun x=>.tuple [x.1,x.2]
theorem Zn7 {as bs:List PyData} {i:Nat} {d:PyData} (h:(Zhy as bs)[i]? = some d):∃ x y,as[i]? = some x∧bs[i]? = some y∧d = .tuple [x,y]:=by
 unfold Zhy at h
 rw [List.getElem?_map] at h
 cases e:(as.zip bs)[i]? with
 | none=>rw [e] at h; cases h
 | some z =>
  rw [e] at h
  cases h
  obtain ⟨h1,h2⟩:=List.getElem?_zip_eq_some.mp e
  exact ⟨z.1,z.2,h1,h2,rfl⟩
theorem Zqn {as bs:List PyData} {i:Nat} (h:(Zhy as bs)[i]? = none):as.length ≤ i∨bs.length ≤ i:=by
 unfold Zhy at h
 have:=List.getElem?_eq_none_iff.mp h
 simp at this
 omega
@[simp] theorem Z16 (as bs:List PyData):(Zhy as bs).length = min as.length bs.length:=by simp [Zhy]
end
end L2
namespace L2
open PySem PySem.Spec PyProof.Rows
variable {G:PySem.W.Frag}
section
variable {X:Cx} {io:List Nat} {c1 c2 c3:Bool} {a b e:Expr} {ma mb mc:MEt} {pos:Pos} {f g:Int→Int→Bool}
end
theorem Zif:∀ {ns:List Int} {its:List Value},Vals (ns.map V.int) its→∃ xs:List (Int × Tok),its = xs.map (fun p=>Value.int p.1 p.2)∧xs.map (·.1) = ns
 | [],_,.nil=>⟨[],rfl,rfl⟩
 | n :: ns,_,.cons r rs=>by
  obtain ⟨t,e⟩:=(show ∃ t,_ = Value.int n t from r)
  obtain ⟨xs,h1,h2⟩:=Zif rs
  exact ⟨(n,t) :: xs,by rw [e,h1]; rfl,by rw [List.map_cons,h2]⟩
noncomputable def Ycb (K:PySem.W.Frag):List V→Hp→VK→Prop:=fun xs H Q=>∃ (a:Addr) (ns:List Int),xs = [.ref a]∧SqL K H a (ns.map V.int)∧Q (.int ns.sum) H
theorem Zlt {X:Cx} {K:PySem.W.Frag} (hK:X.K = K) (hc:X.calm = true):Zd9 X (.builtin "sum") (Ycb K):=by
 subst hK
 intro pins s σ H xs us Q I r h
 obtain ⟨a,ns,rfl,hs,q⟩:=h
 obtain ⟨u,rfl,ru⟩:=vals1 r
 cases (show u = Value.ref a from ru)
 obtain ⟨its,rv,pl,hz⟩:=I.list hs
 obtain ⟨ps,rfl,e2⟩:=Zif rv
 refine sum_intListG (xs:=ps.toArray) (I.ok.hd hc) (by simpa [intItems] using pl.isList) fun h' tk t' hk=>?_
 refine ⟨.int ns.sum,H,I.kept (t':=tk) hk,⟨t',?_⟩,q⟩
 congr 1
 rw [preSum_eq,List.take_of_length_le (by simp)]
 show (ps.map (·.1)).sum = ns.sum
 rw [e2]
noncomputable def Yb3:List PyData→(PyData→Prop)→Prop:=fun ds k=>n1 (fun d=>∃ ns:List Int,d = .list (ns.map PyData.int)∧k (.int ns.sum)) ds
theorem Zw9:PNs G (Ycb G) Yb3:=fun H L xs ds k Q hx h kk=>by
 obtain ⟨v,d,rfl,rfl,q,ns,e,h'⟩:=hx.one h
 subst e
 obtain ⟨a,rfl,hs⟩:=q.ints_sq
 exact ⟨a,ns,rfl,hs,kk _ _ (.int _) h'⟩
section
variable {X:Cx} {io:List Nat} {p c:Bool} {a b e:Expr} {ma mb m:MEt} {pos pl:Pos}
noncomputable def Yb0 (m mb:MEt):MEt:=fun δ K=>m δ fun r δ1=>mb δ1 fun n _=>asI n.data fun k=>(-(2 ^ 63) ≤ k∧k < 2 ^ 63∧k.toNat ≤ sizeLine)∧K (.nd (List.replicate k.toNat (.fz r.data))) δ1
theorem Znm {α:Type} (x:α):∀ n:Nat,(List.replicate n [x]).flatten = List.replicate n x
 | 0=>rfl
 | n + 1=>by rw [List.replicate_succ,List.flatten_cons,Znm x n]; rfl
theorem Das.rep {H:Hp} {L:Addr→Prop} {v:V} {d:PyData} (h:Da G H L v d):∀ n:Nat,Das G H L (List.replicate n v) (List.replicate n d)
 | 0=>.nil
 | n + 1=>.cons h (Das.rep h n)
theorem Z5c (ha:ME X io p true a m) (hb:ME X io true c b mb) (hs:starEach [a] X.env = (false,eval a X.env) :: starEach [] X.env:=by rfl):ME X io p true (.BinOp (.List [a] pl) .Mult b pos) (Yb0 m mb):=by
 obtain ⟨_,A,sa⟩:=ha
 obtain ⟨_,B,sb⟩:=hb
 refine ⟨_,Zzw Z34 (Zxi (Zc7 A Zgu hs)) B,fun C H σ δ fp ex K Q R h k=>?_⟩
 refine sa C H σ δ fp ex _ _ R h fun H1 v r δ1 fp1 new r1 h1=>⟨(by show 1 ≤ sizeLine; decide),fun l hl=>?_⟩
 have R1:=r1.base
 have s1:=Yc hl (.lst [v])
 refine sb.pureAfter (R1.mk0 s1) h1 fun H2 w n R2 s2 q2 h2=>?_
 obtain ⟨i,rfl,h2⟩:=q2.intInv h2
 have q:=(((r1.da R).wide (L':=Lf C fp1 ex) fun a l _=>l rfl).same s1).same s2
 refine ⟨l,i,[v],rfl,rfl,s2 _ _ Z7,h2.1.1,h2.1.2.1,by show 1 * i.toNat ≤ sizeLine; rw [Nat.one_mul]; exact h2.1.2.2,fun t ht=>?_⟩
 rw [Znm]
 have S:Stp p H δ fp H2 δ1 fp1:=by
  have:=r1.stp.trans (p':=true) (Stp.same (p:=true) (δ:=δ1) (fp:=fp1) (s1.trans s2) (s1.trans s2).al)
  rwa [Bool.and_true] at this
 refine k _ _ _ δ1 fp1 [t] (RE.tree R R2 S (Yc ht _) (Zfs ht) (Zih t) ?_) h2.2
 have:=Own.list ht ((Das.rep q i.toNat).wide (L':=fun a=>true = true→Lf C fp1 ex a) fun a l _ _=>l)
 rwa [List.map_replicate] at this
end
end L2
namespace L2
open PySem PySem.Spec PyProof.Rows
variable {G:PySem.W.Frag}
section
variable {X:Cx}
end
end L2
namespace L2
open PySem PySem.Spec PyProof.Rows PySem.SeqAt
variable {G:PySem.W.Frag}
section
variable {X:Cx} {io:List Nat} {p c:Bool} {a b e:Expr} {ma mb m:MEt} {mr:MAt} {pos pos' pl pr:Pos}
end
theorem Zj3:∀ {ns:List Int} {its:List Value},Vals (ns.map V.int) its→IntsAre its ns
 | [],_,.nil=>.nil
 | n :: ns,_,.cons r rs=>by
  obtain ⟨t,e⟩:=(show ∃ t,_ = Value.int n t from r)
  rw [e]
  exact .cons n t (Zj3 rs)
section
variable {X:Cx} {io:List Nat} {p c:Bool} {a b e:Expr} {ma mb m:MEt} {mr:MAt} {pos pos' pl pr:Pos}
noncomputable def Z7e (i:Nat) (m:MEt):MEt:=fun δ K=>match δ[i]? with
 | some (some (.nd _))=>m δ fun n δ1=>match δ1[i]? with
  | some (some (.nd ts))=>asI n.data fun j=>match ixN ts.length j with
   | some k=>match ts[k]? with
    | some (.fz d)=>ts.length ≤ sizeLine∧K (.fz d) (δ1.set i (some (.nd (ts.eraseIdx k))))
    | _=>False
   | none=>False
  | _=>False
 | _=>False
theorem Owns.erase {H:Hp} {L:Addr→Prop}:∀ {xs:List V} {ts:List OT} {as:List Addr} {k:Nat} {d:PyData},Owns G H L xs ts as→ts[k]? = Option.some (.fz d)→Owns G H L (xs.eraseIdx k) (ts.eraseIdx k) as
 | _,_,_,_,_,.nil,e=>by simp at e
 | _,_,_,0,d,.cons q r,e=>by
  simp at e
  subst e
  cases q
  exact r
 | _,_,_,k + 1,d,.cons q r,e=>.cons q (Owns.erase (k:=k) r (by simpa using e))
theorem Z2s {x:Str} {px:Pos} {apos cpos:Pos} (i:Nat) (he:ME X io p c e m) (hN:X.N[i]? = some x:=by rfl) (hv:Vis X.env.scope x:=by first | exact Or.inl rfl | exact Or.inr (Or.inl rfl) | exact Or.inr (Or.inr rfl)) (hd:(x == ("__debug__" : Str)) = false:=by decide)
  (hcd:(x == ("__classdict__" : Str)) = false:=by decide)
  (hbase:attributeBase (.Name x px) "pop" X.env (eval (.Name x px) X.env) = eval (.Name x px) X.env:=by rfl)
  (hfew:((backTo cpos (starEach [e] X.env)).all (fun x=>!x.1) && (backToKw cpos (keywordEach [] X.env)).all (fun x=>x.1.isSome)
   && decide ([e].length + ([]:List Keyword).length + (if ([]:List Keyword).isEmpty then 0 else 1) < 30)) = true:=by rfl)
  (hline:(apos.endLine == cpos.line) = true:=by rfl) (hs:starEach [e] X.env = (false,eval e X.env) :: starEach [] X.env:=by rfl) (hplain:(backTo cpos (starEach [] X.env)).any (·.1) = false:=by rfl) :
  ME X io false true (.Call (.Attribute (.Name x px) "pop" apos) [e] [] cpos) (Z7e i m):=by
 obtain ⟨_,A,s⟩:=he
 refine ⟨_,Zz0 PySem.F.plainAttrs_list PySem.F.slot_list_pop PySem.F.type_list_pop Zux (pv i hN hv hd hcd) (Zc7 A Zgu hs) hbase hfew hline hs hplain,fun C H σ δ fp ex K Q R h kk=>?_⟩
 unfold Z7e at h
 split at h
 case h_2=>exact h.elim
 rename_i ts0 hi0
 obtain ⟨a',xs0,bs0,hv0,hx0,_,_⟩:=R.ownNd hi0
 refine ⟨_,hv0,.inl ⟨rfl,xs0,.inl (.inl hx0)⟩,?_⟩
 refine s C H σ δ fp ex _ _ R h fun H1 v r δ1 fp1 new r1 h1=>?_
 split at h1
 case h_2=>exact h1.elim
 rename_i ts1 hi1
 obtain ⟨j,rfl,h1⟩:=(r1.da R).intInv h1
 split at h1
 case h_2=>exact h1.elim
 rename_i k hk
 split at h1
 case h_2=>exact h1.elim
 rename_i d hd1
 have R1:=r1.base
 obtain ⟨a1,xs1,bs1,hv1,hx1,o1,hf1⟩:=R1.ownNd hi1
 rw [hv0] at hv1
 cases hv1
 obtain ⟨y,cs,hy,oy,_⟩:=o1.get hd1
 have qy:Da X.K H1 (Lf C fp1 ex) y d:=by cases oy; assumption
 obtain ⟨z1,z2,z3,z4⟩:=Zmc hk
 have hz:=h1.1
 have hsz:sizeLine = 16777216:=sizeLine_eq
 refine ⟨a',xs1,j,k,y,rfl,rfl,hx1,by omega,by omega,by rw [o1.length]; exact z1,hy,?_⟩
 obtain ⟨R2,S2⟩:=R1.top hi1 hv0 hf1 hx1 (o1.erase hd1) (List.Sublist.refl _)
 have S:=(r1.stp.trans S2).cast (p':=false) fun z=>nomatch z
 refine kk _ _ _ _ _ [] (.fz R2 S ?_) h1.2
 have ne':∀ a,¬ Foot fp1 a→a ≠ a':=fun a h z=>h ⟨i,by rw [z,hf1]; exact .head _⟩
 have f0:∀ a,¬ Foot fp1 a→¬ Foot (fpu fp1 i (a' :: bs1)) a:=fun a h z=>by
  rcases z.of_u with z | ⟨j,_,z⟩
  ·exact h ⟨i,by rw [hf1]; exact z⟩
  ·exact h ⟨j,z⟩
 refine qy.frame (fun a zs l q=>⟨fun _=>⟨f0 a l.1,l.2.1,l.2.2⟩,?_⟩) fun a zs q=>?_
 ·rcases q with q | ⟨u,q⟩
  ·exact .inl (by rw [Zy (ne' a l.1)]; exact q)
  ·exact .inr ⟨u,by rw [Zy (ne' a l.1)]; exact q⟩
 ·rw [Zy]
  ·exact q
  ·intro z
   exact ImO.nl q (z ▸ hx1)
end
end L2
namespace L2
open PySem PySem.Spec PyProof.Rows
section
variable {X:Cx} {io:List Nat} {p p' c:Bool} {a b e:Expr} {ma mb m:MEt} {pos p2:Pos}
end
end L2
namespace L2
open PySem PySem.Spec PyProof.Rows
structure Apart (X:Cx) (pins:List (Addr × Obj)) (H:Hp) (b:Addr):Prop where
 fr:H b = none
 new:X.s₀.heap.get? b = none
 loc:b ≠ X.env.locals
 cel:∀ x c,X.env.cells.lookup x = some c→c ≠ b
 pin:∀ p ∈ X.pn ++ pins,p.1 ≠ b
section
variable {X:Cx} {pins:List (Addr × Obj)} {σ:St} {H H':Hp} {s:Shared} {h':Heap} {b a C:Addr}
noncomputable def Fl (ap:Addr→Prop) (C a:Addr) (fl:Value) (h:Heap):Prop:=∃ a0 oe vs T oT ts,h.get? a = some oe∧(oe.cls = .ref C∧vs[0]? = some a0)∧oe.data = .fields vs∧vs[1]? = some (.ref T)∧T ≠ a∧h.get? T = some oT∧oT.data = .fields ts∧ts[3]? = some fl∧ap a∧ap T
noncomputable def Fl0 (ap:Addr→Prop) (C a:Addr) (h:Heap):Prop:=∃ a0 oe vs,h.get? a = some oe∧(oe.cls = .ref C∧vs[0]? = some a0)∧oe.data = .fields vs∧vs[1]? = some .none∧ap a
noncomputable def FlA (ap:Addr→Prop) (fl:Value) (C a:Addr) (h:Heap):Prop:=Fl ap C a .none h∨Fl0 ap C a h∨Fl ap C a fl h
section
variable {M:Model} {A:Around} {E:Value→Shared→Prop} {Q:Unit→Shared→Prop} {ch:List Addr}
end
end
end L2
namespace L2
open PySem PySem.Spec PyProof.Rows
noncomputable def Zv9 (K:PySem.W.Frag) (C:Addr):Prop:=PySem.W.excIn K C [.type "ValueError", .type "Exception", .type "BaseException", .type "object"] "ValueError.__new__" = true
noncomputable abbrev MXt:=Zh→(Addr→Zh→Prop)→Prop
noncomputable def XW (X:Cx) (C:MC X.K) (io:List Nat) (pins:List (Addr × Obj)) (ex:Addr→Prop) (H:Hp) (fp:Fp) (k:Addr→Zh→Prop) (e:Value) (s':Shared):Prop :=
 ∃ a cl σ' H' δ' fp',e = .ref a∧Inv X pins σ' H' s'∧FlA (Apart X pins H') (rawInt X.env.locals) cl a s'.heap∧Rel C io H' σ' δ' fp' ex∧Kp H fp H' fp'∧k cl δ'
noncomputable def XS (X:Cx) (io:List Nat) (st:Stmt) (m:MXt):Prop:=∀ (C:MC X.K) (pins:List (Addr × Obj)) (s:Shared) (σ:St) (H:Hp) (δ:Zh) (fp:Fp) (ex:Addr→Prop) (k:Addr→Zh→Prop),Inv X pins σ H s→Rel C io H σ δ fp ex→m δ k →
 wpAny (model X.prog X.w) X.A (exec st X.env) (fun _ _=>False) (XW X C io pins ex H fp k) s
noncomputable def XSs (X:Cx) (io:List Nat) (sts:List Stmt) (m:MXt):Prop:=∀ (C:MC X.K) (pins:List (Addr × Obj)) (s:Shared) (σ:St) (H:Hp) (δ:Zh) (fp:Fp) (ex:Addr→Prop) (k:Addr→Zh→Prop),Inv X pins σ H s→Rel C io H σ δ fp ex→m δ k →
 wpAny (model X.prog X.w) X.A (execs sts X.env) (fun _ _=>False) (XW X C io pins ex H fp k) s
section
variable {X:Cx} {io:List Nat} {p c:Bool} {e:Expr} {es:List Expr} {mr:MAt} {m:MXt} {pos:Pos} {st:Stmt} {sts a b:List Stmt} {u:MSt} {w v:MXt} {mt:MTt} {i:Nat} {x:Str}
end
end L2
namespace L2
open PySem PySem.Spec PyProof.Rows
section
variable {P:Program} {w:World} {K:PySem.W.Frag} {mg:Str→Option Value} {base:Heap}
end
section
variable {X:Cx} {io:List Nat} {p c:Bool} {e:Expr} {es:List Expr} {mr:MAt} {pos pp:Pos} {k:Nat} {f:Addr} {fd:FuncData} {ps:List Str} {x:Str}
end
section
variable {X:Cx} {pins:List (Addr × Obj)} {σ:St} {H:Hp} {s:Shared} {a C:Addr}
noncomputable abbrev Cx.suite (X:Cx) (a:Addr):Cx:={ X with A:=X.A.mark (some (.ref a)),calm:=false }
end
end L2
namespace L2
open PySem PySem.Spec PyProof.Rows
section
variable {X:Cx} {io:List Nat} {i:Nat} {n y:Str} {Dc:Addr} {b₀:Stmt} {body suite:List Stmt} {pos hpos np:Pos} {u h:MSt} {x:MXt}
end
end L2
namespace L2
open PySem PySem.Spec PyProof.Rows
theorem Zxd (b:Bool) (k:Bool→Prop):asB (.bool b) k = k b:=rfl
inductive Z7l:V→Value→Prop where
 | own (D:Addr):Z7l (.ref D) (.ref D)
 | ty (T:String):Z7l (.ty T) (.type T)
inductive ClsVs:List V→List Value→Prop where
 | nil:ClsVs [] []
 | cons {v:V} {c:Value} {vs:List V} {cs:List Value}:Z7l v c→ClsVs vs cs→ClsVs (v :: vs) (c :: cs)
theorem ClsVs.length:∀ {vs:List V} {cs:List Value},ClsVs vs cs→vs.length = cs.length
 | _,_,.nil=>rfl
 | _,_,.cons _ t=>by simp [t.length]
section
variable {X:Cx} {io:List Nat} {p c:Bool} {a b:Expr} {ma:MEt} {pos pp p2:Pos}
end
end L2
namespace L2
open PySem PySem.Spec PyProof.Rows PySem.P
section
variable {prog:Program} {w:World} {A:Around} {E:Value→Shared→Prop} {s:Shared} {e t0 C:Addr} {o:Obj} {vs:Array Value} {K:PySem.W.Frag} {m:Str} {tk:Tok}
structure Ycj (s:Shared) (e C t0:Addr) (m:Str) (tk:Tok):Prop where
 ob:∃ o vs,s.heap.get? e = some o∧o.cls = .ref C∧o.data = .fields vs∧vs[0]? = some (.ref t0)
 tx:s.heap.TupAt t0 [.str m tk]
end
section
variable {X:Cx} {C:Addr} {x j:Str} {jk:Nat} {np cpos pos kp p1:Pos}
end
end L2
namespace L2
open PySem PySem.Spec PyProof.Rows
variable {G:PySem.W.Frag}
section
variable {X:Cx} {io:List Nat} {p c:Bool} {e:Expr} {m:MEt} {pos apos cpos px:Pos} {i:Nat} {x:Str}
end
end L2
namespace L2
open PySem PySem.Spec PyProof.Rows
variable {G:PySem.W.Frag}
section
variable {X:Cx} {io:List Nat} {e:Expr} {pos apos cpos px pt pl p2:Pos} {i j:Nat} {x y:Str}
end
section
variable {X:Cx} {io:List Nat} {e:Expr} {i:Nat} {y:Str}
end
end L2
namespace L2
open PySem PySem.Spec PyProof.Rows
section
variable {X:Cx} {pins:List (Addr × Obj)} {σ:St} {H:Hp} {s:Shared} {M:Model} {A:Around} {E:Value→Shared→Prop} {Q:Unit→Shared→Prop} {C a L:Addr} {fl:Value}
end
end L2
namespace L2
open PySem PySem.Spec PyProof.Rows
section
variable {X:Cx} {io:List Nat} {p:Bool} {tg iter:Expr} {body:List Stmt} {mi:MIt} {g:MGt} {u:MSt} {x:MXt} {pos:Pos}
end
end L2
namespace L2
open PySem PySem.Spec PyProof.Rows
noncomputable abbrev FE:=Zh→Option (OT × Zh)
noncomputable abbrev FA:=Zh→Option (List OT × Zh)
noncomputable abbrev FT:=Zh→Option (Bool × Zh)
noncomputable abbrev FI:=Zh→Option (List PyData × Zh)
noncomputable abbrev FO:=Zh→Option (Option Int × Zh)
noncomputable abbrev FG:=PyData→Zh→Option Zh
noncomputable abbrev FGs:=List PyData→Zh→Option Zh
noncomputable def o2 {α:Type} (f:Zh→Option (α × Zh)):Zh→(α→Zh→Prop)→Prop:=fun δ K=>∃ r δ',f δ = some (r,δ')∧K r δ'
noncomputable def oG (g:FG):MGt:=fun d δ k=>∃ δ',g d δ = some δ'∧k δ'
noncomputable def oGs (g:FGs):Zug:=fun d δ k=>∃ δ',g d δ = some δ'∧k δ'
section
variable {X:Cx} {io:List Nat} {p c:Bool} {e tg:Expr} {es:List Expr} {m m':MEt} {mr mr':MAt} {mt mt':MTt} {mi mi':MIt} {g g':MGt} {gs gs':Zug} {mo mo':MOt} {st:Stmt} {sts:List Stmt} {u u':MSt} {eo:Option Expr}
theorem ME.weak (h:ME X io p c e m) (w:∀ δ K,m' δ K→m δ K):ME X io p c e m':=let ⟨t,A,s⟩:=h; ⟨t,A,fun C H σ δ fp ex K Q R h k=>s C H σ δ fp ex K Q R (w δ K h) k⟩
theorem MA.weak (h:MA X io p c es mr) (w:∀ δ K,mr' δ K→mr δ K):MA X io p c es mr':=let ⟨t,A,s⟩:=h; ⟨t,A,fun C H σ δ fp ex K Q R h k=>s C H σ δ fp ex K Q R (w δ K h) k⟩
theorem MT.weak (h:MT X io p e mt) (w:∀ δ K,mt' δ K→mt δ K):MT X io p e mt':=let ⟨t,A,s⟩:=h; ⟨t,A,fun C H σ δ fp ex K Q R h k=>s C H σ δ fp ex K Q R (w δ K h) k⟩
theorem MW.weak (h:MW X io p e mt) (w:∀ δ K,mt' δ K→mt δ K):MW X io p e mt':=let ⟨t,A,s⟩:=h; ⟨t,A,fun C H σ δ fp ex K Q R h k=>s C H σ δ fp ex K Q R (w δ K h) k⟩
theorem MIfs.weak (h:MIfs X io p es mt) (w:∀ δ K,mt' δ K→mt δ K):MIfs X io p es mt':=let ⟨t,A,s⟩:=h; ⟨t,A,fun C H σ δ fp ex K Q R h k=>s C H σ δ fp ex K Q R (w δ K h) k⟩
theorem MI.weak (h:MI X io p c tg e mi) (w:∀ δ K,mi' δ K→mi δ K):MI X io p c tg e mi':=let ⟨t,A,s⟩:=h; ⟨t,A,fun C H σ δ fp ex K Q R h k=>s C H σ δ fp ex K Q R (w δ K h) k⟩
theorem MO.weak (h:MO X io p eo mo) (w:∀ δ K,mo' δ K→mo δ K):MO X io p eo mo':=let ⟨t,A,s⟩:=h; ⟨t,A,fun C H σ δ fp ex K Q R h k=>s C H σ δ fp ex K Q R (w δ K h) k⟩
theorem MG.weak (h:MG X io c tg g) (w:∀ d δ K,g' d δ K→g d δ K):MG X io c tg g':=let ⟨t,A,s⟩:=h; ⟨t,A,fun C H σ δ fp ex v d k Q R q h kk=>s C H σ δ fp ex v d k Q R q (w d δ k h) kk⟩
theorem MGs.weak (h:MGs X io c es gs) (w:∀ d δ K,gs' d δ K→gs d δ K):MGs X io c es gs':=let ⟨t,A,s⟩:=h; ⟨t,A,fun C H σ δ fp ex v d k Q R q h kk=>s C H σ δ fp ex v d k Q R q (w d δ k h) kk⟩
theorem MS.weak (h:MS X io st u) (w:∀ D δ,u' D δ→u D δ):MS X io st u':=let ⟨t,A,s⟩:=h; ⟨t,A,fun C H σ δ fp ex D D' R h E=>s C H σ δ fp ex D D' R (w D δ h) E⟩
theorem MSs.weak (h:MSs X io sts u) (w:∀ D δ,u' D δ→u D δ):MSs X io sts u':=let ⟨t,A,s⟩:=h; ⟨t,A,fun C H σ δ fp ex D D' R h E=>s C H σ δ fp ex D D' R (w D δ h) E⟩
end
noncomputable def Zd (i:Nat):FE:=fun δ=>match δ[i]? with | some (some (.fz d))=>some (.fz d,δ) | _=>none
noncomputable def Zma (i:Nat):FE:=fun δ=>match δ[i]? with | some (some t)=>some (.fz t.data,δ) | _=>none
noncomputable def fC (d:PyData):FE:=fun δ=>some (.fz d,δ)
noncomputable def Zj (g:PyData→PyData→Option PyData) (a b:FE):FE:=fun δ=>(a δ).bind fun p=>(b p.2).bind fun q=>(g p.1.data q.1.data).bind fun d=>some (.fz d,q.2)
noncomputable def Yg (g:PyData→PyData→Option OT) (a b:FE):FE:=fun δ=>(a δ).bind fun p=>(b p.2).bind fun q=>(g p.1.data q.1.data).bind fun d=>some (d,q.2)
noncomputable def fUn (g:PyData→Option PyData) (a:FE):FE:=fun δ=>(a δ).bind fun p=>(g p.1.data).bind fun d=>some (.fz d,p.2)
noncomputable def Zqc (a b:FE):FE:=fun δ=>(a δ).bind fun p=>match p.1.data with | .bool true=>b p.2 | .bool false=>some (.fz (.bool false),p.2) | _=>none
noncomputable def fOr (a b:FE):FE:=fun δ=>(a δ).bind fun p=>match p.1.data with | .bool true=>some (.fz (.bool true),p.2) | .bool false=>b p.2 | _=>none
noncomputable def fIf (t:FT) (a b:FE):FE:=fun δ=>(t δ).bind fun p=>if p.1 = true then a p.2 else b p.2
noncomputable def tV (e:FE):FT:=fun δ=>(e δ).bind fun p=>match p.1 with | .fz (.bool b)=>some (b,p.2) | _=>none
noncomputable def tNo (t:FT):FT:=fun δ=>(t δ).bind fun p=>some (!p.1,p.2)
noncomputable def tAn (t u:FT):FT:=fun δ=>(t δ).bind fun p=>if p.1 = true then u p.2 else some (false,p.2)
noncomputable def tO (t u:FT):FT:=fun δ=>(t δ).bind fun p=>if p.1 = true then some (true,p.2) else u p.2
noncomputable def tD (e:FE):FT:=fun δ=>(e δ).bind fun p=>(Zvf p.1.data).bind fun b=>some (b,p.2)
noncomputable def Zo:FA:=fun δ=>some ([],δ)
noncomputable def Zc (e:FE) (a:FA):FA:=fun δ=>(e δ).bind fun p=>(a p.2).bind fun q=>some (p.1 :: q.1,q.2)
noncomputable def Zez (a:FA):FE:=fun δ=>(a δ).bind fun p=>if p.1.length ≤ sizeLine then some (.fz (.tuple (OT.datas p.1)),p.2) else none
noncomputable def Zf4 (a:FA):FE:=fun δ=>(a δ).bind fun p=>if p.1.length ≤ sizeLine then some (.nd p.1,p.2) else none
noncomputable def Z84 (e:FE):FE:=fun δ=>(e δ).bind fun p=>if Zgh p.1.data = true then some (.fz p.1.data,p.2) else none
noncomputable def Z28 (e:FE):FE:=fun δ=>(e δ).bind fun p=>if Z1l p.1 = true then some (p.1,p.2) else none
inductive RF where
 | ok (r:OT)
 | exn (c:Str)
 | bad
noncomputable abbrev FD:=List PyData→RF
noncomputable abbrev FIO:=OT→List PyData→Option (OT × OT)
noncomputable def Zt (F:FD) (a:FA):FE:=fun δ=>(a δ).bind fun p=>match F (OT.datas p.1) with | .ok r=>some (r,p.2) | _=>none
noncomputable def Zxc (i:Nat) (F:FIO) (a:FA):FE:=fun δ=>match δ[i]? with
 | some (some _)=>(a δ).bind fun p=>match p.2[i]? with
  | some (some t)=>(F t (OT.datas p.1)).bind fun q=>some (q.1,p.2.set i (some q.2))
  | _=>none
 | _=>none
noncomputable def Za9 (g:List PyData→Option PyData) (a:FA):FE:=fun δ=>(a δ).bind fun p=>(g (OT.datas p.1)).bind fun d=>some (.fz d,p.2)
noncomputable def fBl (g:List PyData→Option OT) (a:FA):FE:=fun δ=>(a δ).bind fun p=>(g (OT.datas p.1)).bind fun d=>some (d,p.2)
noncomputable def Zl5 (T:String) (e:FE):FE:=fun δ=>(e δ).bind fun p=>if Zhc p.1.data = true then none else some (.fz (.bool (Zof T p.1.data)),p.2)
noncomputable def oN:FO:=fun δ=>some (none,δ)
noncomputable def oI (e:FE):FO:=fun δ=>(e δ).bind fun p=>match p.1.data with | .int i=>some (some i,p.2) | _=>none
noncomputable def fSl (e:FE) (lo hi:FO):FE:=fun δ=>(e δ).bind fun p=>(lo p.2).bind fun q=>(hi q.2).bind fun r=>match p.1.data with | .list ds=>some (.nd ((cutD ds q.1 r.1).map OT.fz),r.2) | _=>none
noncomputable def Zer (e:FE):FI:=fun δ=>(e δ).bind fun p=>match p.1.data with | .list ds=>some (ds,p.2) | _=>none
noncomputable def iTp (e:FE):FI:=fun δ=>(e δ).bind fun p=>match p.1.data with | .tuple ds=>some (ds,p.2) | _=>none
noncomputable def rOk (j:Int):Bool:=decide (-(2 ^ 62) ≤ j) && decide (j < 2 ^ 62)
theorem Zfv {j:Int} (h:rOk j = true):-(2 ^ 62) ≤ j∧j < 2 ^ 62:=by
 unfold rOk at h
 rw [Bool.and_eq_true] at h
 exact ⟨of_decide_eq_true h.1,of_decide_eq_true h.2⟩
theorem Zkf {j:Int} (h0:-1000000 ≤ j) (h1:j ≤ 1000000):rOk j = true:=by
 unfold rOk
 rw [decide_eq_true (show -(2 ^ 62) ≤ j by omega),decide_eq_true (show j < 2 ^ 62 by omega)]; rfl
noncomputable def iRa (a:FA):FI:=fun δ=>(a δ).bind fun p=>match OT.datas p.1 with | [.int j]=>if rOk j = true then some (Ze0 0 j.toNat,p.2) else none | _=>none
noncomputable def iRb (a:FA):FI:=fun δ=>(a δ).bind fun p=>match OT.datas p.1 with | [.int i,.int j]=>if (rOk i && rOk j) = true then some (Ze0 i (j - i).toNat,p.2) else none | _=>none
noncomputable def Z58 (a:FA):FI:=fun δ=>(a δ).bind fun p=>match OT.datas p.1 with | [.list as,.list bs]=>some (Zhy as bs,p.2) | _=>none
noncomputable def gNm (i:Nat):FG:=fun d δ=>some (δ.set i (some (.fz d)))
noncomputable def Yc0 (i:Nat):FG:=fun d δ=>if Zgh d = true then some (δ.set i (some (.fz d))) else none
noncomputable def gNl:FGs:=fun ds δ=>match ds with | []=>some δ | _=>none
noncomputable def gCn (g:FG) (gs:FGs):FGs:=fun ds δ=>match ds with | d :: r=>(g d δ).bind (gs r) | []=>none
noncomputable def gTp (n:Nat) (gs:FGs):FG:=fun d δ=>match d with | .tuple ds=>if ds.length = n then gs ds δ else none | _=>none
noncomputable def gLs (n:Nat) (gs:FGs):FG:=fun d δ=>match d with | .list ds=>if ds.length = n then gs ds δ else none | _=>none
noncomputable def compLoop (g:FG) (t:FT) (e:FE):List PyData→Zh→Option (List OT × Zh)
 | [],δ=>some ([],δ)
 | d :: ds,δ=>(g d δ).bind fun δ1=>(t δ1).bind fun p=>if p.1 = true then (e p.2).bind fun q=>(compLoop g t e ds q.2).bind fun z=>some (q.1 :: z.1,z.2) else compLoop g t e ds p.2
noncomputable def Yx (n:Nat) (caps:List Nat) (it:FI) (g:FG) (t:FT) (e:FE):FE:=fun δ=>(it δ).bind fun p=>if p.1.length ≤ sizeLine then (compLoop g t e p.1 (blk n caps p.2)).bind fun z=>some (.nd z.1,p.2) else none
noncomputable def Zhs:FT:=fun δ=>some (true,δ)
inductive RS where
 | nx (δ:Zh)
 | rt (r:OT) (δ:Zh)
 | bk (δ:Zh)
 | ct (δ:Zh)
 | ex (c:Str) (δ:Zh)
 | bad
noncomputable abbrev FS:=Zh→RS
noncomputable def RS.fits (D:Zhv):RS→Prop
 | .nx δ=>D.nx δ
 | .rt r δ=>D.rt r δ
 | .bk δ=>D.bk δ
 | .ct δ=>D.ct δ
 | _=>False
noncomputable def oS (f:FS):MSt:=fun D δ=>(f δ).fits D
noncomputable def xS (K:PySem.W.Frag) (f:FS):MXt:=fun δ k=>∃ c C δ',f δ = .ex c δ'∧ClsAt K c C∧k C δ'
noncomputable def Z3 (f g:FS):FS:=fun δ=>match f δ with | .nx δ'=>g δ' | r=>r
noncomputable def fNx:FS:=fun δ=>.nx δ
noncomputable def Ydk:FS:=fun δ=>.bk δ
noncomputable def Yc4:FS:=fun δ=>.ct δ
noncomputable def wE (e:FE) (k:OT→Zh→RS):FS:=fun δ=>match e δ with | some (r,δ')=>k r δ' | none=>.bad
noncomputable def wX (F:FD) (a:FA) (k:OT→Zh→RS):FS:=fun δ=>match a δ with
 | some (rs,δ1)=>match F (OT.datas rs) with
  | .ok r=>k r δ1
  | .exn c=>.ex c δ1
  | .bad=>.bad
 | none=>.bad
noncomputable def Zvt:OT→Zh→RS:=fun _ δ=>.nx δ
noncomputable def W3:OT→Zh→RS:=fun r δ=>.rt r δ
noncomputable def Z9w:OT→Zh→RS:=fun r δ=>if Zgh r.data = true then .rt (.fz r.data) δ else .bad
noncomputable def Y4 (i:Nat):OT→Zh→RS:=fun r δ=>.nx (δ.set i (some (.fz r.data)))
noncomputable def Z87 (i:Nat):OT→Zh→RS:=fun r δ=>if Zgh r.data = true then .nx (δ.set i (some (.fz r.data))) else .bad
noncomputable def Zbb (i:Nat):OT→Zh→RS:=fun r δ=>.nx (δ.set i (some r))
noncomputable def Ycw (g:FG):OT→Zh→RS:=fun r δ=>match g r.data δ with | some δ'=>.nx δ' | none=>.bad
noncomputable def Z7h:FS:=fun δ=>.rt (.fz .none) δ
noncomputable def Zd1 (i:Nat):FS:=fun δ=>match δ[i]? with | some (some t)=>.rt t (δ.set i none) | _=>.bad
noncomputable def Zbe (t:FT) (u w:FS):FS:=fun δ=>match t δ with | some (b,δ')=>if b = true then u δ' else w δ' | none=>.bad
noncomputable def Zoe (c:Str):FS:=fun δ=>.ex c δ
noncomputable def Y9 (i:Nat) (e:FE):FS:=fun δ=>match δ[i]? with
 | some (some (.nd _))=>wE e (fun r δ1=>match δ1[i]? with
  | some (some (.nd ts))=>if ts.length < sizeLine then .nx (δ1.set i (some (.nd (ts ++ [.fz r.data])))) else .bad
  | _=>.bad) δ
 | _=>.bad
noncomputable def Zng (i:Nat) (e:FE):FS:=fun δ=>match δ[i]? with
 | some (some (.nd _))=>wE e (fun r δ1=>match δ1[i]? with
  | some (some (.nd ts))=>if ts.length < sizeLine then .nx (δ1.set i (some (.nd (ts ++ [r])))) else .bad
  | _=>.bad) δ
 | _=>.bad
noncomputable def Ybe (i:Nat) (e j:FE):FS:=wE e fun r δ1=>match δ1[i]? with
 | some (some (.nd ts))=>wE j (fun n _=>match n.data with
  | .int k=>match ixN ts.length k with
   | some j=>.nx (δ1.set i (some (.nd (ts.set j (.fz r.data)))))
   | none=>.bad
  | _=>.bad) δ1
 | _=>.bad
noncomputable def Zhh (i:Nat) (e j j2:FE):FS:=wE e fun r δ1=>match δ1[i]? with
 | some (some (.nd ts))=>wE j (fun n _=>match n.data with
  | .int k=>match ixN ts.length k with
   | some j=>match ts[j]? with
    | some (.nd us)=>wE j2 (fun n' _=>match n'.data with
     | .int k'=>match ixN us.length k' with
      | some j'=>.nx (δ1.set i (some (.nd (ts.set j (.nd (us.set j' (.fz r.data)))))))
      | none=>.bad
     | _=>.bad) δ1
    | _=>.bad
   | none=>.bad
  | _=>.bad) δ1
 | _=>.bad
noncomputable def Zfp (i:Nat) (u:FS):FS:=fun δ=>match δ[i]? with | some (some t)=>u (δ.set i (some (.fz t.data))) | _=>.bad
noncomputable def forLoop (g:FG) (u:FS):List PyData→Zh→RS
 | [],δ=>.nx δ
 | d :: ds,δ=>match g d δ with
  | none=>.bad
  | some δ1=>match u δ1 with
   | .nx δ2=>forLoop g u ds δ2
   | .ct δ2=>forLoop g u ds δ2
   | .bk δ2=>.nx δ2
   | r=>r
noncomputable def Jz (it:FI) (g:FG) (u:FS):FS:=fun δ=>match it δ with | some (ds,δ1)=>forLoop g u ds δ1 | none=>.bad
noncomputable def whileLoop (t:FT) (u:FS):Nat→Zh→RS
 | 0,_=>.bad
 | n + 1,δ=>match t δ with
  | none=>.bad
  | some (b,δ1)=>if b = true then match u δ1 with
   | .nx δ2=>whileLoop t u n δ2
   | .ct δ2=>whileLoop t u n δ2
   | .bk δ2=>.nx δ2
   | .rt r δ2=>.rt r δ2
   | _=>.bad
   else .nx δ1
open Classical in
noncomputable def Zi1 (t:FT) (u:FS):FS:=fun δ=>if h:∃ n,whileLoop t u n δ ≠ .bad then whileLoop t u (Classical.choose h) δ else .bad
noncomputable def Zf3 (n:Nat) (ds:List PyData):Zh:=ds.map (fun d=>some (.fz d)) ++ List.replicate (n - ds.length) none
noncomputable def Z86 (n:Nat) (t:OT) (ds:List PyData):Zh:=some t :: (ds.map (fun d=>some (.fz d)) ++ List.replicate (n - (ds.length + 1)) none)
noncomputable def RS.told:RS→RF
 | .nx _=>.ok (.fz .none)
 | .rt r _=>.ok r
 | .ex c _=>.exn c
 | _=>.bad
noncomputable def Je (np n:Nat) (S:FS):FD:=fun ds=>if ds.length = np then (S (Zf3 n ds)).told else .bad
end L2
namespace L2
open PySem PySem.Spec PyProof.Rows
noncomputable def sD (F:FD):List PyData→(OT→Prop)→Prop:=fun ds k=>∃ r,F ds = .ok r∧k r
theorem bs {α β:Type} {x:Option α} {f:α→Option β} {b:β} (h:x.bind f = some b):∃ a,x = some a∧f a = some b:=Option.bind_eq_some_iff.mp h
section
variable {X:Cx} {io:List Nat} {p c:Bool} {e tg:Expr} {es:List Expr} {st:Stmt} {sts:List Stmt} {eo:Option Expr} {fa fb fc:FE} {ra:FA} {ta tb:FT} {i:Nat}
theorem W2 (h:ME X io p c e (Z69 i)):ME X io p c e (o2 (Zd i)):=h.weak fun δ K q91=>by
 obtain ⟨r,δ',h,k⟩:=q91
 unfold Zd at h; unfold Z69
 split at h
 ·rename_i d hd; (try rw [hd]); cases h; exact k
 ·cases h
theorem Z6g (h:ME X io p c e (Z61 i)):ME X io p c e (o2 (Zma i)):=h.weak fun δ K q92=>by
 obtain ⟨r,δ',h,k⟩:=q92
 unfold Zma at h; unfold Z61
 split at h
 ·rename_i d hd; (try rw [hd]); cases h; exact k
 ·cases h
theorem Zjk {d:PyData} (h:ME X io p c e (mC d)):ME X io p c e (o2 (fC d)):=h.weak fun δ K ⟨r,δ',h,k⟩=>by cases h; exact k
noncomputable def ByS (g:PyData→PyData→Option PyData) (rp:PyData→PyData→(PyData→Prop)→Prop):Prop:=∀ d e r k,g d e = some r→k r→rp d e k
noncomputable def ByO (g:PyData→PyData→Option OT) (rp:PyData→PyData→(OT→Prop)→Prop):Prop:=∀ d e r k,g d e = some r→k r→rp d e k
theorem Zw8 {g rp} (G:ByS g rp) {δ:Zh} {K:OT→Zh→Prop} (h:o2 (Zj g fa fb) δ K):Zmm rp (o2 fa) (o2 fb) δ K:=by
 obtain ⟨r,δ',h,k⟩:=h
 obtain ⟨⟨x,δ1⟩,h1,h⟩:=bs h
 obtain ⟨⟨y,δ2⟩,h2,h⟩:=bs h
 obtain ⟨d,h3,h⟩:=bs h
 cases h
 exact ⟨x,δ1,h1,y,δ2,h2,G _ _ _ _ h3 k⟩
theorem Jm {g rp} (G:ByS g rp) (h:ME X io p c e (Zmm rp (o2 fa) (o2 fb))):ME X io p c e (o2 (Zj g fa fb)):=h.weak fun δ K z=>Zw8 G z
theorem Ydc {f:FE} {δ:Zh} {K:Bool→Zh→Prop} (h:o2 (tV f) δ K):o2 f δ (kB K):=by
 obtain ⟨b,δ',h,k⟩:=h
 obtain ⟨⟨x,δ1⟩,h1,h⟩:=bs h
 refine ⟨x,δ1,h1,?_⟩
 unfold kB
 try dsimp only at h ⊢
 split at h
 ·cases h; exact k
 ·cases h
theorem Zbo {g rp} (G:ByS g rp) (h:MT X io p e (fun δ K=>Zmm rp (o2 fa) (o2 fb) δ (kB K))):MT X io p e (o2 (tV (Zj g fa fb))):=h.weak fun δ K z=>Zw8 G (Ydc z)
theorem Ziy {g rp} (G:ByO g rp) (h:ME X io p c e (Z6s rp (o2 fa) (o2 fb))):ME X io p c e (o2 (Yg g fa fb)):=h.weak fun δ K h=>by
 obtain ⟨r,δ',h,k⟩:=h
 obtain ⟨⟨x,δ1⟩,h1,h⟩:=bs h
 obtain ⟨⟨y,δ2⟩,h2,h⟩:=bs h
 obtain ⟨d,h3,h⟩:=bs h
 cases h
 exact ⟨x,δ1,h1,y,δ2,h2,G _ _ _ _ h3 k⟩
noncomputable def Zue:PyData→Option PyData | .int i=>some (.int (-i)) | _=>none
noncomputable def Z7f:PyData→Option PyData | .bool b=>some (.bool (!b)) | _=>none
theorem Znv (h:ME X io p c e (Yaz (o2 fa))):ME X io p c e (o2 (fUn Zue fa)):=h.weak fun δ K h=>by
 obtain ⟨r,δ',h,k⟩:=h
 obtain ⟨⟨x,δ1⟩,h1,h⟩:=bs h
 obtain ⟨d,h3,h⟩:=bs h
 cases h
 refine ⟨x,δ1,h1,?_⟩
 dsimp only at h3 ⊢
 cases q:x.data <;> rw [q] at h3 <;> cases h3
 exact k
theorem Zt4 (h:ME X io p c e (Z33 (o2 fa))):ME X io p c e (o2 (fUn Z7f fa)):=h.weak fun δ K h=>by
 obtain ⟨r,δ',h,k⟩:=h
 obtain ⟨⟨x,δ1⟩,h1,h⟩:=bs h
 obtain ⟨d,h3,h⟩:=bs h
 cases h
 refine ⟨x,δ1,h1,?_⟩
 dsimp only at h3 ⊢
 cases q:x.data <;> rw [q] at h3 <;> cases h3
 exact k
theorem Zd7 (h:ME X io p c e (Z32 (o2 fa) (o2 fb))):ME X io p c e (o2 (Zqc fa fb)):=h.weak fun δ K h=>by
 obtain ⟨r,δ',h,k⟩:=h
 obtain ⟨⟨x,δ1⟩,h1,h⟩:=bs h
 refine ⟨x,δ1,h1,?_⟩
 try dsimp only at h ⊢
 split at h
 ·rename_i q; (try rw [q]); rw [Zxd,if_pos rfl]; exact ⟨r,δ',h,k⟩
 ·rename_i q; (try rw [q]); cases h; rw [Zxd,if_neg Bool.false_ne_true]; exact k
 ·cases h
theorem Z44 (h:ME X io p c e (mIf (o2 ta) (o2 fa) (o2 fb))):ME X io p c e (o2 (fIf ta fa fb)):=h.weak fun δ K h=>by
 obtain ⟨r,δ',h,k⟩:=h
 obtain ⟨⟨x,δ1⟩,h1,h⟩:=bs h
 refine ⟨x,δ1,h1,?_⟩
 try dsimp only at h ⊢
 split at h
 ·rename_i q; rw [if_pos q]; exact ⟨r,δ',h,k⟩
 ·rename_i q; rw [if_neg q]; exact ⟨r,δ',h,k⟩
theorem Zx8 (h:MT X io p e (Ya2 (o2 ta))):MT X io p e (o2 (tNo ta)):=h.weak fun δ K h=>by
 obtain ⟨r,δ',h,k⟩:=h
 obtain ⟨⟨x,δ1⟩,h1,h⟩:=bs h
 cases h
 exact ⟨x,δ1,h1,k⟩
theorem Zvx (h:MW X io p e (mOr (o2 ta) (o2 tb))):MW X io p e (o2 (tO ta tb)):=h.weak fun δ K h=>by
 obtain ⟨r,δ',h,k⟩:=h
 obtain ⟨⟨x,δ1⟩,h1,h⟩:=bs h
 refine ⟨x,δ1,h1,?_⟩
 try dsimp only at h ⊢
 split at h
 ·rename_i q; rw [if_pos q]; cases h; exact k
 ·rename_i q; rw [if_neg q]; exact ⟨r,δ',h,k⟩
theorem Zcs (h:MT X io p e (Ybl (o2 fa))):MT X io p e (o2 (tD fa)):=h.weak fun δ K h=>by
 obtain ⟨r,δ',h,k⟩:=h
 obtain ⟨⟨x,δ1⟩,h1,h⟩:=bs h
 obtain ⟨d,h3,h⟩:=bs h
 cases h
 refine ⟨x,δ1,h1,?_⟩
 dsimp only at h3 ⊢
 rw [h3]
 exact k
theorem Zld (h:MA X io p c es Ybx):MA X io p c es (o2 Zo):=h.weak fun δ K ⟨r,δ',h,k⟩=>by cases h; exact k
theorem Z0p (h:MA X io p c es (Z3p (o2 fa) (o2 ra))):MA X io p c es (o2 (Zc fa ra)):=h.weak fun δ K h=>by
 obtain ⟨r,δ',h,k⟩:=h
 obtain ⟨⟨x,δ1⟩,h1,h⟩:=bs h
 obtain ⟨⟨y,δ2⟩,h2,h⟩:=bs h
 cases h
 exact ⟨x,δ1,h1,y,δ2,h2,k⟩
theorem Z3j (h:ME X io p c e (Z99 (o2 ra))):ME X io p c e (o2 (Zez ra)):=h.weak fun δ K h=>by
 obtain ⟨r,δ',h,k⟩:=h
 obtain ⟨⟨x,δ1⟩,h1,h⟩:=bs h
 refine ⟨x,δ1,h1,?_⟩
 dsimp only at h
 split at h
 ·rename_i q; cases h; exact ⟨q,k⟩
 ·cases h
theorem Z4p (h:ME X io p c e (Yan (o2 ra))):ME X io p c e (o2 (Zf4 ra)):=h.weak fun δ K h=>by
 obtain ⟨r,δ',h,k⟩:=h
 obtain ⟨⟨x,δ1⟩,h1,h⟩:=bs h
 refine ⟨x,δ1,h1,?_⟩
 dsimp only at h
 split at h
 ·rename_i q; cases h; exact ⟨q,k⟩
 ·cases h
theorem Zqv {F:FD} (h:ME X io p c e (Zun (sD F) (o2 ra))):ME X io p c e (o2 (Zt F ra)):=h.weak fun δ K h=>by
 obtain ⟨r,δ',h,k⟩:=h
 obtain ⟨⟨x,δ1⟩,h1,h⟩:=bs h
 refine ⟨x,δ1,h1,?_⟩
 dsimp only at h
 split at h
 ·rename_i q; cases h; exact ⟨_,q,k⟩
 ·cases h
theorem Zdn {g rp} (G:∀ ds r k,g ds = some r→k r→rp ds k) (h:ME X io p c e (Z8h rp (o2 ra))):ME X io p c e (o2 (Za9 g ra)):=h.weak fun δ K h=>by
 obtain ⟨r,δ',h,k⟩:=h
 obtain ⟨⟨x,δ1⟩,h1,h⟩:=bs h
 obtain ⟨d,h3,h⟩:=bs h
 cases h
 exact ⟨x,δ1,h1,G _ _ _ h3 k⟩
theorem Z1j {g rp} (G:∀ ds r k,g ds = some r→k r→rp ds k) (h:ME X io p c e (mBl rp (o2 ra))):ME X io p c e (o2 (fBl g ra)):=h.weak fun δ K h=>by
 obtain ⟨r,δ',h,k⟩:=h
 obtain ⟨⟨x,δ1⟩,h1,h⟩:=bs h
 obtain ⟨d,h3,h⟩:=bs h
 cases h
 exact ⟨x,δ1,h1,G _ _ _ h3 k⟩
theorem Zb9 {T:String} (h:ME X io p c e (Ybu T (o2 fa))):ME X io p c e (o2 (Zl5 T fa)):=h.weak fun δ K h=>by
 obtain ⟨r,δ',h,k⟩:=h
 obtain ⟨⟨x,δ1⟩,h1,h⟩:=bs h
 by_cases hf:Zhc x.data = true
 ·have h':(if Zhc x.data = true then none else some (OT.fz (.bool (Zof T x.data)),δ1)) = some (r,δ'):=h
  rw [if_pos hf] at h'
  cases h'
 ·have h':(if Zhc x.data = true then none else some (OT.fz (.bool (Zof T x.data)),δ1)) = some (r,δ'):=h
  rw [if_neg hf] at h'
  injection h' with h'
  injection h' with e1 e2
  subst e1 e2
  exact ⟨x,_,h1,Bool.eq_false_iff.mpr hf,k⟩
theorem Zsb (h:MO X io p eo Zub):MO X io p eo (o2 oN):=h.weak fun δ K ⟨r,δ',h,k⟩=>by cases h; exact k
theorem Zro (h:MO X io p eo (Z4l (o2 fa))):MO X io p eo (o2 (oI fa)):=h.weak fun δ K h=>by
 obtain ⟨r,δ',h,k⟩:=h
 obtain ⟨⟨x,δ1⟩,h1,h⟩:=bs h
 refine ⟨x,δ1,h1,?_⟩
 try dsimp only at h ⊢
 split at h
 ·rename_i q; (try rw [q]); cases h; exact k
 ·cases h
theorem Z4d {lo hi:FO} (h:ME X io p c e (mSl (o2 fa) (o2 lo) (o2 hi))):ME X io p c e (o2 (fSl fa lo hi)):=h.weak fun δ K h=>by
 obtain ⟨r,δ',h,k⟩:=h
 obtain ⟨⟨x,δ1⟩,h1,h⟩:=bs h
 obtain ⟨⟨y,δ2⟩,h2,h⟩:=bs h
 obtain ⟨⟨z,δ3⟩,h3,h⟩:=bs h
 refine ⟨x,δ1,h1,y,δ2,h2,z,δ3,h3,?_⟩
 try dsimp only at h ⊢
 split at h
 ·rename_i q; (try rw [q]); cases h; exact k
 ·cases h
theorem Zyt (h:MI X io p c tg e (iL (o2 fa))):MI X io p c tg e (o2 (Zer fa)):=h.weak fun δ K h=>by
 obtain ⟨r,δ',h,k⟩:=h
 obtain ⟨⟨x,δ1⟩,h1,h⟩:=bs h
 refine ⟨x,δ1,h1,?_⟩
 try dsimp only at h ⊢
 split at h
 ·rename_i q; (try rw [q]); cases h; exact k
 ·cases h
theorem Zeo (h:MI X io p c tg e (iR1 (o2 ra))):MI X io p c tg e (o2 (iRa ra)):=h.weak fun δ K h=>by
 obtain ⟨r,δ',h,k⟩:=h
 obtain ⟨⟨x,δ1⟩,h1,h⟩:=bs h
 refine ⟨x,δ1,h1,?_⟩
 try dsimp only at h ⊢
 split at h
 case h_2=>cases h
 rename_i q
 (try rw [q])
 try dsimp only
 split at h
 ·rename_i b; cases h; exact ⟨Zfv b,k⟩
 ·cases h
theorem Zvc (h:MI X io p c tg e (iR2 (o2 ra))):MI X io p c tg e (o2 (iRb ra)):=h.weak fun δ K h=>by
 obtain ⟨r,δ',h,k⟩:=h
 obtain ⟨⟨x,δ1⟩,h1,h⟩:=bs h
 refine ⟨x,δ1,h1,?_⟩
 try dsimp only at h ⊢
 split at h
 case h_2=>cases h
 rename_i q
 (try rw [q])
 try dsimp only
 split at h
 ·rename_i b
  cases h
  rw [Bool.and_eq_true] at b
  exact ⟨⟨(Zfv b.1).1,(Zfv b.1).2,(Zfv b.2).1,(Zfv b.2).2⟩,k⟩
 ·cases h
theorem Zmb (h:MG X io c tg (dName i)):MG X io c tg (oG (gNm i)):=h.weak fun d δ K ⟨δ',h,k⟩=>by cases h; exact k
theorem Zl7 (h:MGs X io c es Ya8):MGs X io c es (oGs gNl):=h.weak fun d δ K q94=>by
 obtain ⟨δ',h,k⟩:=q94
 unfold gNl at h
 split at h
 ·cases h; exact ⟨rfl,k⟩
 ·cases h
theorem Zax {g:FG} {gs:FGs} (h:MGs X io c es (Z4x (oG g) (oGs gs))):MGs X io c es (oGs (gCn g gs)):=h.weak fun d δ K q95=>by
 obtain ⟨δ',h,k⟩:=q95
 unfold gCn at h
 split at h
 ·obtain ⟨δ1,h1,h⟩:=bs h
  exact ⟨δ1,h1,δ',h,k⟩
 ·cases h
theorem Zqm {n:Nat} {gs:FGs} (h:MG X io c tg (dTup n (oGs gs))):MG X io c tg (oG (gTp n gs)):=h.weak fun d δ K q96=>by
 obtain ⟨δ',h,k⟩:=q96
 unfold gTp at h
 split at h
 case h_2=>cases h
 split at h
 ·rename_i q; exact ⟨q,δ',h,k⟩
 ·cases h
theorem J6 (h:MIfs X io p es Z5o):MIfs X io p es (o2 Zhs):=h.weak fun δ K ⟨r,δ',h,k⟩=>by cases h; exact k
theorem Z1s {g:FG} {t:FT} {me:FE} {ds:List PyData} {δ0:Zh} {zs:List OT} {δe:Zh} (h:compLoop g t me ds δ0 = some (zs,δe)) :
  ∃ I:Nat→List OT→Zh→Prop,I 0 [] δ0 ∧
 (∀ (i:Nat) (d:PyData) (rs:List OT) (δ':Zh),ds[i]? = some d→I i rs δ'→oG g d δ' fun δ2=>o2 t δ2 fun b δ3=>if b = true then o2 me δ3 fun r δ4=>I (i + 1) (rs ++ [r]) δ4 else I (i + 1) rs δ3) ∧
 ∀ rs δ',I ds.length rs δ'→rs = zs∧δ' = δe:=by
 refine ⟨fun i rs δ'=>∃ ys,rs ++ ys = zs∧compLoop g t me (ds.drop i) δ' = some (ys,δe),⟨zs,rfl,by rw [List.drop_zero]; exact h⟩,?_,?_⟩
 ·rintro i d rs δ' hd ⟨ys,e,hl⟩
  obtain ⟨hi,hdi⟩:=List.getElem?_eq_some_iff.mp hd
  rw [List.drop_eq_getElem_cons hi,hdi] at hl
  unfold compLoop at hl
  obtain ⟨δ1,h1,hl⟩:=bs hl
  obtain ⟨⟨b,δ2⟩,h2,hl⟩:=bs hl
  refine ⟨δ1,h1,b,δ2,h2,?_⟩
  dsimp only at hl
  split at hl
  ·rename_i hb
   rw [if_pos hb]
   obtain ⟨⟨r,δ3⟩,h3,hl⟩:=bs hl
   obtain ⟨⟨ws,δ4⟩,h4,hl⟩:=bs hl
   cases hl
   exact ⟨r,δ3,h3,ws,by rw [List.append_assoc]; exact e,h4⟩
  ·rename_i hb
   rw [if_neg hb]
   exact ⟨ys,e,hl⟩
 ·rintro rs δ' ⟨ys,e,hl⟩
  rw [List.drop_length] at hl
  unfold compLoop at hl
  cases hl
  exact ⟨by rw [← e,List.append_nil],rfl⟩
theorem Zn4 {n:Nat} {caps:List Nat} {it:FI} {g:FG} {t:FT} {me:FE} {δ:Zh} {K:OT→Zh→Prop} (h:o2 (Yx n caps it g t me) δ K):Zfe n caps (o2 it) (oG g) (o2 t) (o2 me) δ K:=by
 obtain ⟨r,δ',h,k⟩:=h
 obtain ⟨⟨ds,δ1⟩,h1,h⟩:=bs h
 refine ⟨ds,δ1,h1,?_⟩
 dsimp only at h
 split at h
 case isFalse=>cases h
 rename_i hz
 obtain ⟨⟨zs,δe⟩,h2,h⟩:=bs h
 cases h
 obtain ⟨I,i0,st,en⟩:=Z1s h2
 refine ⟨hz,I,i0,st,fun rs δ'' q=>?_⟩
 obtain ⟨rfl,rfl⟩:=en rs δ'' q
 exact k
theorem Zba {n:Nat} {caps:List Nat} {it:FI} {g:FG} {t:FT} {me:FE} (h:ME X io p c e (Zfe n caps (o2 it) (oG g) (o2 t) (o2 me))):ME X io p c e (o2 (Yx n caps it g t me)):=h.weak fun δ K z=>Zn4 z
end
end L2
namespace L2
open PySem PySem.Spec PyProof.Rows
section
variable {X:Cx} {io:List Nat} {p c:Bool} {e tg iter:Expr} {es:List Expr} {st:Stmt} {sts:List Stmt} {fa fb fc:FE} {ra:FA} {ta tb:FT} {i:Nat} {f g u w:FS}
theorem Zit (h:MSs X io sts (Z8f (oS f) (oS g))):MSs X io sts (oS (Z3 f g)):=h.weak fun D δ h=>by
 unfold oS Z3 at h; unfold Z8f oS
 cases q:f δ <;> rw [q] at h <;> exact h
theorem Ze8 (h:MSs X io sts Z27):MSs X io sts (oS fNx):=h.weak fun D δ h=>h
theorem Zqd {k:OT→Zh→RS} {D:Zhv} {δ:Zh} (h:oS (wE fa k) D δ):o2 fa δ fun r δ'=>(k r δ').fits D:=by
 unfold oS wE at h
 split at h
 ·rename_i q; exact ⟨_,_,q,h⟩
 ·exact h.elim
theorem o2.imp {α:Type} {f:Zh→Option (α × Zh)} {δ:Zh} {K K':α→Zh→Prop} (h:o2 f δ K) (k:∀ r δ',K r δ'→K' r δ'):o2 f δ K':=let ⟨r,δ',e,q⟩:=h; ⟨r,δ',e,k r δ' q⟩
theorem Zoc {P:Prop} [Decidable P] {a:RS} {D:Zhv} (h:(if P then a else .bad:RS).fits D):P∧a.fits D:=by
 split at h
 ·exact ⟨‹_›,h⟩
 ·exact h.elim
theorem Z1q (h:MS X io st (Z4k (o2 fa))):MS X io st (oS (wE fa Zvt)):=h.weak fun D δ h=>Zqd h
theorem Zgp (h:MS X io st (Yak (o2 fa))):MS X io st (oS (wE fa W3)):=h.weak fun D δ h=>Zqd h
theorem Zck (h:MS X io st (Zwl i)):MS X io st (oS (Zd1 i)):=h.weak fun D δ h=>by
 unfold oS Zd1 at h; unfold Zwl
 split at h
 ·rename_i q; (try rw [q]); exact h
 ·exact h.elim
theorem Zp0 (h:MS X io st (Ybs (o2 ta) (oS u) (oS w))):MS X io st (oS (Zbe ta u w)):=h.weak fun D δ h=>by
 unfold oS Zbe at h
 split at h
 ·rename_i b δ' q
  refine ⟨b,δ',q,?_⟩
  split at h
  ·rename_i hb; rw [if_pos hb]; exact h
  ·rename_i hb; rw [if_neg hb]; exact h
 ·exact h.elim
theorem Z6m (h:MS X io st (Z2j i (o2 fa))):MS X io st (oS (wE fa (Y4 i))):=h.weak fun D δ h=>Zqd h
theorem Zyv (h:MS X io st (Zlm i (o2 fa))):MS X io st (oS (wE fa (Zbb i))):=h.weak fun D δ h=>Zqd h
section
variable {n:Nat} {caps:List Nat} {o q:Nat} {it:FI} {gg:FG} {t:FT} {me:FE}
theorem Znu (h:MS X io st (if true = true then Zlm i (Zfe n caps (o2 it) (oG gg) (o2 t) (o2 me)) else Z2j i (Zfe n caps (o2 it) (oG gg) (o2 t) (o2 me)))):MS X io st (oS (wE (Yx n caps it gg t me) (Zbb i))) :=
 h.weak fun D δ h=>by rw [if_pos rfl]; exact Zn4 (Zqd h)
theorem Znb (h:MS X io st (if false = true then Zlm i (Zfe n caps (o2 it) (oG gg) (o2 t) (o2 me)) else Z2j i (Zfe n caps (o2 it) (oG gg) (o2 t) (o2 me)))):MS X io st (oS (wE (Yx n caps it gg t me) (Y4 i))) :=
 h.weak fun D δ h=>by rw [if_neg Bool.false_ne_true]; exact Zn4 (Zqd h)
end
theorem Jd (h:MS X io st (Zj6 i (o2 fa))):MS X io st (oS (Y9 i fa)):=h.weak fun D δ h=>by
 unfold oS Y9 at h; unfold Zj6
 split at h
 case h_2=>exact h.elim
 rename_i q; (try rw [q])
 refine (Zqd h).imp fun r δ' z=>?_
 split at z
 ·rename_i q2; (try rw [q2]); exact Zoc z
 ·exact z.elim
theorem Zm5 (h:MS X io st (Z6a i (o2 fa) (o2 fb) (o2 fc))):MS X io st (oS (Zhh i fa fb fc)):=h.weak fun D δ h=>by
 refine (Zqd h).imp fun r δ' z=>?_
 split at z
 case h_2=>exact z.elim
 rename_i q; (try rw [q])
 refine (Zqd z).imp fun n δ2 z=>?_
 split at z
 case h_2=>exact z.elim
 rename_i k q2; (try rw [q2])
 show match ixN _ k with | some j=>_ | none=>_
 split at z
 case h_2=>exact z.elim
 rename_i q3; (try rw [q3])
 try dsimp only
 split at z
 case h_2=>exact z.elim
 rename_i q4; (try rw [q4])
 refine (Zqd z).imp fun n' δ3 z=>?_
 split at z
 case h_2=>exact z.elim
 rename_i k' q5; (try rw [q5])
 show match ixN _ k' with | some j=>_ | none=>_
 split at z
 ·rename_i q6; (try rw [q6]); exact z
 ·exact z.elim
theorem Zls (h:MS X io st (Zi6 i (oS u))):MS X io st (oS (Zfp i u)):=h.weak fun D δ h=>by
 unfold oS Zfp at h; unfold Zi6
 split at h
 ·rename_i q; (try rw [q]); exact h
 ·exact h.elim
theorem Jy {gg:FG} {d:PyData} {ds:List PyData} {δ:Zh}:forLoop gg u (d :: ds) δ = match gg d δ with
  | none=>.bad
  | some δ1=>match u δ1 with
   | .nx δ2=>forLoop gg u ds δ2
   | .ct δ2=>forLoop gg u ds δ2
   | .bk δ2=>.nx δ2
   | r=>r:=rfl
theorem Zxt {it:FI} {gg:FG} (h:MS X io st (Ycc (o2 it) (oG gg) (oS u))):MS X io st (oS (Jz it gg u)):=h.weak fun D δ h=>by
 unfold oS Jz at h
 split at h
 case h_2=>exact h.elim
 rename_i ds δ1 q
 refine ⟨ds,δ1,q,fun i δ'=>(forLoop gg u (ds.drop i) δ').fits D,by show RS.fits D (forLoop gg u (ds.drop 0) δ1); rw [List.drop_zero]; exact h,fun i d δ' hd z=>?_,fun δ' z=>?_⟩
 ·obtain ⟨hi,hdi⟩:=List.getElem?_eq_some_iff.mp hd
  replace z:RS.fits D (forLoop gg u (ds.drop i) δ'):=z
  rw [List.drop_eq_getElem_cons hi,hdi,Jy] at z
  split at z
  case h_1=>exact z.elim
  rename_i δ2 q2
  refine ⟨δ2,q2,?_⟩
  unfold oS
  cases q3:u δ2 <;> rw [q3] at z <;> (try rw [q3]) <;> exact z
 ·replace z:RS.fits D (forLoop gg u (ds.drop ds.length) δ'):=z
  rw [List.drop_length] at z; exact z
theorem Znw (h:MS X io st (Zxl (o2 ta) (oS u))):MS X io st (oS (Zi1 ta u)):=h.weak fun D δ h=>by
 unfold oS Zi1 at h
 split at h
 case isFalse=>exact h.elim
 rename_i hn
 refine ⟨fun n δ'=>(whileLoop ta u n δ').fits D,⟨_,h⟩,fun n δ' z=>?_⟩
 cases n with
 | zero=>exact z.elim
 | succ n =>
  unfold whileLoop at z
  split at z
  case h_1=>exact z.elim
  rename_i b δ1 q
  refine ⟨b,δ1,q,?_⟩
  split at z
  ·rename_i hb
   rw [if_pos hb]
   refine ⟨fun δ''=>(whileLoop ta u n δ'').fits D,fun δ'' y=>⟨n,Nat.lt_succ_self n,y⟩,?_⟩
   unfold oS
   cases q3:u δ1 <;> rw [q3] at z <;> exact z
  ·rename_i hb
   rw [if_neg hb]
   exact z
theorem Zdo {n m:Nat}:∀ {δ:Zh},whileLoop ta u n δ ≠ .bad→whileLoop ta u (n + m) δ = whileLoop ta u n δ:=by
 induction n with
 | zero=>intro δ h; exact absurd rfl h
 | succ n ih =>
  intro δ h
  rw [Nat.succ_add]
  unfold whileLoop at h ⊢
  cases q:ta δ with
  | none=>rfl
  | some x =>
   obtain ⟨b,δ1⟩:=x
   rw [q] at h
   try dsimp only at h ⊢
   split
   ·rename_i hb
    rw [if_pos hb] at h
    cases q3:u δ1 <;> rw [q3] at h <;> first | exact ih h | rfl
   ·rfl
theorem Zl4 {r:RS} {δ:Zh} (n:Nat) (h:whileLoop ta u n δ = r) (hr:r ≠ .bad):Zi1 ta u δ = r:=by
 have hn:∃ n,whileLoop ta u n δ ≠ .bad:=⟨n,by rw [h]; exact hr⟩
 unfold Zi1
 rw [dif_pos hn]
 have h1:=Classical.choose_spec hn
 have e1:=Zdo (m:=n) h1
 have e2:=Zdo (m:=Classical.choose hn) (show whileLoop ta u n δ ≠ .bad by rw [h]; exact hr)
 rw [Nat.add_comm] at e2
 rw [← e1,e2,h]
theorem Zny {cn:Str}:MS X io st (oS (Zoe cn)):=Zu4.weak fun D δ h=>h
class NoEx (f:FS):Prop where
 no:∀ δ cn δ',f δ ≠ .ex cn δ'
class NoExK (k:OT→Zh→RS):Prop where
 no:∀ r δ cn δ',k r δ ≠ .ex cn δ'
end
section
variable {P:Program} {w:World} {K:PySem.W.Frag} {mg:Str→Option Value} {base:Heap} {x qual:Str} {st:Stmt} {f:Addr} {fd:FuncData} {N ps:List Str} {n np nn:Nat} {S:FS}
theorem RS.told_fits {r:RS} {o:OT} {k:OT→Prop} (h:r.told = .ok o) (hk:k o):r.fits (Zy7 k):=by
 cases r <;> unfold RS.told at h <;> first | (cases h; exact hk) | cases h
theorem Z1 (F:Fun K x qual st f fd) (Sc:Zq N ps (Zk st)) (hN:N.length = nn) (hp:np = ps.length)
  (hb:∀ (cdv:Value) (A:Around) (outer:List Env) (s:Shared) (H:Hp) (E:XK),Room n (A.deeper (envOfC qual (Zk st) s.heap.objs.size f cdv))→MSs (Zya CX0 P w K mg base N qual (Zk st) f cdv A outer s H E).nox [] (Zb0 st) (oS S)) :
  FnOk P w K mg base CX0 (n + 1) f fd ps (spD K (sD (Je np nn S))):=by
 subst hN hp
 refine F.okD Sc (fun ds k h=>?_) fun cdv A outer s H E hr=>⟨_,hb cdv A outer s H E hr,fun ds k h=>?_⟩
 ·obtain ⟨r,h,_⟩:=h
  unfold Je at h
  split at h
  ·assumption
  ·cases h
 ·obtain ⟨r,h,hk⟩:=h
  unfold Je at h
  split at h
  ·exact RS.told_fits h hk
  ·cases h
end
end L2
namespace L2
open PySem PySem.Spec PyProof.Rows
noncomputable def i2 (g:Int→Int→PyData):PyData→PyData→Option PyData:=fun d e=>match d,e with | .int i,.int j=>some (g i j) | _,_=>none
noncomputable def i2c (c:Int→Int→Bool) (g:Int→Int→PyData):PyData→PyData→Option PyData:=fun d e=>match d,e with | .int i,.int j=>if c i j = true then some (g i j) else none | _,_=>none
theorem Zqa {g:Int→Int→PyData}:ByS (i2 g) (Zuj g):=fun d e r k h hk=>by
 unfold i2 at h
 split at h
 ·cases h; exact hk
 ·cases h
theorem Zol {c:Int→Int→Bool} {C:Int→Int→Prop} {g:Int→Int→PyData} (hc:∀ i j,c i j = true→C i j):ByS (i2c c g) (d2I C g):=fun d e r k h hk=>by
 unfold i2c at h
 split at h
 ·split at h
  ·cases h; exact ⟨hc _ _ ‹_›,hk⟩
  ·cases h
 ·cases h
noncomputable def Z0a (a b:Int):Bool:=!(decide (Builtin.Int.intBits a > shortFactorBits) && decide (Builtin.Int.intBits b > shortFactorBits) && Builtin.Int.intTooBig (Builtin.Int.intBits a + Builtin.Int.intBits b))
noncomputable def Z3n (_ j:Int):Bool:=decide (j ≠ 0) && decide (j.natAbs.log2 < 9000)
noncomputable def Ya0 (_ j:Int):Bool:=decide (j ≠ 0)
noncomputable def Yde (i j:Int):Bool:=decide (0 ≤ j∧j ≤ 1000000∧i.natAbs < 2 ^ 64)
theorem Zgj {a b:Int}:Z0a a b = true ↔ IntMulOk a b:=by
 unfold Z0a IntMulOk
 rw [Bool.not_eq_true',Bool.not_eq_true]
noncomputable def Zdp:=i2 fun i j=>.int (i + j)
noncomputable def gSb:=i2 fun i j=>.int (i - j)
noncomputable def Zfr:=i2c Z0a fun i j=>.int (i * j)
noncomputable def Zau:=i2c Z3n fun i j=>.int (i.fdiv j)
noncomputable def Zf6:=i2c Ya0 fun i j=>.int (i.fmod j)
noncomputable def Zuo:=i2c Yde fun i j=>.int (i ^ j.toNat)
noncomputable def gLt:=i2 fun i j=>.bool (decide (i < j))
noncomputable def gLe:=i2 fun i j=>.bool (decide (i ≤ j))
noncomputable def gGt:=i2 fun i j=>.bool (decide (j < i))
noncomputable def gGe:=i2 fun i j=>.bool (decide (j ≤ i))
theorem Z8d:ByS Zdp (Zuj fun i j=>.int (i + j)):=Zqa
theorem Z8k:ByS gSb (Zuj fun i j=>.int (i - j)):=Zqa
theorem Z9j:ByS Zfr (d2I MulOk fun i j=>.int (i * j)):=Zol fun i j h=>⟨Zgj.mp h⟩
theorem Z5u:ByS Zau (d2I Ybj fun i j=>.int (i.fdiv j)):=Zol fun i j h=>⟨by
 unfold Z3n at h
 rw [Bool.and_eq_true] at h
 exact ⟨of_decide_eq_true h.1,of_decide_eq_true h.2⟩⟩
theorem Z9s:ByS Zf6 (d2I (fun _ j=>j ≠ 0) fun i j=>.int (i.fmod j)):=Zol fun i j h=>of_decide_eq_true h
theorem Z8o:ByS Zuo (d2I Yae fun i j=>.int (i ^ j.toNat)):=Zol fun i j h=>⟨(of_decide_eq_true h:0 ≤ j∧j ≤ 1000000∧i.natAbs < 2 ^ 64)⟩
theorem Z7b:ByS gLt (Zuj fun i j=>.bool (decide (i < j))):=Zqa
theorem Yci:ByS gLe (Zuj fun i j=>.bool (decide (i ≤ j))):=Zqa
theorem Yc5:ByS gGt (Zuj fun i j=>.bool (decide (j < i))):=Zqa
theorem Yab:ByS gGe (Zuj fun i j=>.bool (decide (j ≤ i))):=Zqa
noncomputable def gEq:PyData→PyData→Option PyData:=fun d e=>if (SeqAt.shaped d && SeqAt.shaped e) = true then some (.bool (PyData.eqv d e)) else none
noncomputable def gNe:PyData→PyData→Option PyData:=fun d e=>if (SeqAt.shaped d && SeqAt.shaped e) = true then some (.bool (!PyData.eqv d e)) else none
theorem Z7r:ByS gEq dEq:=fun d e r k h hk=>by
 unfold gEq at h
 split at h
 ·rename_i q
  rw [Bool.and_eq_true] at q
  cases h
  exact ⟨⟨q.1⟩,⟨q.2⟩,hk⟩
 ·cases h
theorem Z63:ByS gNe dNe:=fun d e r k h hk=>by
 unfold gNe at h
 split at h
 ·rename_i q
  rw [Bool.and_eq_true] at q
  cases h
  exact ⟨⟨q.1⟩,⟨q.2⟩,hk⟩
 ·cases h
noncomputable def gIs:PyData→PyData→Option PyData:=fun d e=>match e with | .none=>some (.bool (Zfm d)) | _=>none
noncomputable def Zlc:PyData→PyData→Option PyData:=fun d e=>match e with | .none=>some (.bool (!Zfm d)) | _=>none
theorem Zq4:ByS Zlc Z3h:=fun d e r k h hk=>by
 unfold Zlc at h
 split at h
 ·cases h; exact ⟨rfl,hk⟩
 ·cases h
noncomputable def Zud (neg:Bool):PyData→PyData→Option PyData:=fun d e=>match Zx2 e with
 | some ds=>if (scD d && ds.all scD) = true then some (.bool (if neg then !memS d ds else memS d ds)) else none
 | none=>none
theorem Zwc {neg:Bool}:ByS (Zud neg) (dIn neg):=fun d e r k h hk=>by
 unfold Zud at h
 split at h
 case h_2=>cases h
 rename_i ds q
 split at h
 case isFalse=>cases h
 rename_i q2
 rw [Bool.and_eq_true] at q2
 cases h
 refine ⟨q2.1,?_⟩
 cases e <;> cases q
 ·exact ⟨q2.2,hk⟩
 ·exact ⟨q2.2,hk⟩
noncomputable def gIx:PyData→PyData→Option OT:=fun d e=>(ixD d e).bind fun x=>some (.fz x)
theorem Yc6:ByO gIx dIx:=fun d e r k h hk=>by
 obtain ⟨x,h1,h2⟩:=bs h
 cases h2
 unfold dIx
 rw [h1]
 exact hk
noncomputable def Zui:PyData→PyData→Option OT:=fun d e=>match d,e with | .list ds,.list es=>if ds.length + es.length ≤ sizeLine then some (.nd ((ds ++ es).map OT.fz)) else none | _,_=>none
theorem Zwz:ByO Zui dCat:=fun d e r k h hk=>by
 unfold Zui at h
 split at h
 ·split at h
  ·cases h; exact ⟨‹_›,hk⟩
  ·cases h
 ·cases h
noncomputable def Zcg:List PyData→Option PyData:=fun ds=>match ds with | [d]=>(Zwp d).bind fun n=>some (.int n) | _=>none
theorem Zy5:∀ ds r k,Zcg ds = some r→k r→Yap ds k:=fun ds r k h hk=>by
 unfold Zcg at h
 split at h
 ·obtain ⟨n,h1,h2⟩:=bs h
  cases h2
  show match Zwp _ with | some n=>_ | none=>_
  rw [h1]
  exact hk
 ·cases h
noncomputable def Z2g:List PyData→Option PyData:=fun ds=>match ds with | [.int i]=>some (.int (if i < 0 then -i else i)) | _=>none
theorem Z10:∀ ds r k,Z2g ds = some r→k r→Yaw ds k:=fun ds r k h hk=>by
 unfold Z2g at h
 split at h
 ·cases h; exact hk
 ·cases h
noncomputable def Ycq:List PyData→Option PyData:=fun ds=>match ds with | [.int i,.int j]=>some (.int (if j > i then j else i)) | _=>none
noncomputable def Zx6:List PyData→Option PyData:=fun ds=>match ds with | [.int i,.int j]=>some (.int (if j < i then j else i)) | _=>none
theorem Z3b:∀ ds r k,Zx6 ds = some r→k r→Ybh ds k:=fun ds r k h hk=>by
 unfold Zx6 at h
 split at h
 ·cases h; exact hk
 ·cases h
noncomputable def Yby:List PyData→Option PyData:=fun ds=>match ds with | [.int i]=>some (.int i) | [.bool b]=>some (.int (if b then 1 else 0)) | _=>none
noncomputable def Z46:List PyData→Option OT:=fun ds=>match ds with | [d]=>(Zx2 d).bind fun es=>some (.nd (es.map OT.fz)) | _=>none
noncomputable def Zet:List PyData→Option (List Int)
 | []=>some []
 | .int i :: r=>(Zet r).bind fun l=>some (i :: l)
 | _ :: _=>none
theorem Zef:∀ {ds:List PyData} {ns:List Int},Zet ds = some ns→ds = ns.map PyData.int
 | [],_,h=>by cases h; rfl
 | .int i :: r,_,h=>by
  obtain ⟨l,h1,h2⟩:=bs h
  cases h2
  rw [Zef h1]; rfl
 | .none :: _,_,h=>by cases h
 | .bool _ :: _,_,h=>by cases h
 | .str _ :: _,_,h=>by cases h
 | .list _ :: _,_,h=>by cases h
 | .tuple _ :: _,_,h=>by cases h
 | .dict _ :: _,_,h=>by cases h
@[simp] theorem Zao:∀ ns:List Int,Zet (ns.map PyData.int) = some ns
 | []=>rfl
 | n :: ns=>by rw [List.map_cons,Zet,Zao ns]; rfl
noncomputable def Z1d:List PyData→Option PyData:=fun ds=>match ds with | [.list es]=>(Zet es).bind fun ns=>some (.int ns.sum) | _=>none
theorem Z55:∀ ds r k,Z1d ds = some r→k r→Yb3 ds k:=fun ds r k h hk=>by
 unfold Z1d at h
 split at h
 ·obtain ⟨n,h1,h2⟩:=bs h
  cases h2
  exact ⟨n,by rw [Zef h1],hk⟩
 ·cases h
section
variable {X:Cx} {io:List Nat} {p c:Bool} {e tg:Expr} {es:List Expr} {st:Stmt} {fa fb fc:FE} {ra:FA} {i:Nat}
noncomputable def Ybr (a:FA):FE:=fun δ=>(a δ).bind fun p=>match OT.datas p.1 with | [.int j]=>if rOk j = true∧j.toNat ≤ sizeLine then some (.nd ((Ze0 0 j.toNat).map OT.fz),p.2) else none | _=>none
noncomputable def Zuk (a b:FE):FE:=fun δ=>(a δ).bind fun p=>(b p.2).bind fun q=>match q.1.data with | .int k=>if rOk k = true∧k.toNat ≤ sizeLine then some (.nd (List.replicate k.toNat (.fz p.1.data)),p.2) else none | _=>none
theorem Zxu (h:ME X io p c e (Yb0 (o2 fa) (o2 fb))):ME X io p c e (o2 (Zuk fa fb)):=h.weak fun δ K h=>by
 obtain ⟨r,δ',h,k⟩:=h
 obtain ⟨⟨x,δ1⟩,h1,h⟩:=bs h
 obtain ⟨⟨y,δ2⟩,h2,h⟩:=bs h
 refine ⟨x,δ1,h1,y,δ2,h2,?_⟩
 try dsimp only at h ⊢
 split at h
 case h_2=>cases h
 rename_i q
 (try rw [q])
 split at h
 case isFalse=>cases h
 rename_i b
 cases h
 have z:=Zfv b.1
 exact ⟨⟨by omega,by omega,b.2⟩,k⟩
noncomputable def Z2e (i:Nat) (a:FE):FE:=fun δ=>match δ[i]? with
 | some (some (.nd _))=>(a δ).bind fun p=>match p.2[i]? with
  | some (some (.nd ts))=>match p.1.data with
   | .int j=>match ixN ts.length j with
    | some k=>match ts[k]? with
     | some (.fz d)=>if ts.length ≤ sizeLine then some (.fz d,p.2.set i (some (.nd (ts.eraseIdx k)))) else none
     | _=>none
    | none=>none
   | _=>none
  | _=>none
 | _=>none
theorem Zx1 (h:ME X io p c e (Z7e i (o2 fa))):ME X io p c e (o2 (Z2e i fa)):=h.weak fun δ K h=>by
 obtain ⟨r,δ',h,k⟩:=h
 unfold Z2e at h; unfold Z7e
 split at h
 case h_2=>cases h
 rename_i q; (try rw [q])
 obtain ⟨⟨x,δ1⟩,h1,h⟩:=bs h
 refine ⟨x,δ1,h1,?_⟩
 try dsimp only at h ⊢
 split at h
 case h_2=>cases h
 rename_i q2; (try rw [q2])
 try dsimp only
 split at h
 case h_2=>cases h
 rename_i j q3; (try rw [q3])
 show match ixN _ j with | some k=>_ | none=>_
 split at h
 case h_2=>cases h
 rename_i q4; (try rw [q4]); (try dsimp only)
 split at h
 case h_2=>cases h
 rename_i q5; (try rw [q5])
 split at h
 case isFalse=>cases h
 cases h
 exact ⟨‹_›,k⟩
end
end L2
namespace L2
open PySem PySem.Spec PyProof.Rows
variable {G:PySem.W.Frag}
section
variable {X:Cx} {io:List Nat} {p c:Bool} {e a b:Expr} {es:List Expr} {m ma mb:MEt} {mr:MAt} {pos apos cpos px py pt sp kp:Pos} {i j:Nat} {x y:Str} {fa fb:FE} {ra:FA} {st:Stmt}
noncomputable def Z7i (a:FA):FE:=fun δ=>(a δ).bind fun p=>if p.1.length ≤ sizeLine then some (.tp p.1,p.2) else none
noncomputable def Zxx (i c:Nat) (e:FE):FS:=fun δ=>match δ[i]? with
 | some (some (.tp ts))=>match ts[c]? with
  | some (.nd us)=>wE e (fun r _=>if us.length < sizeLine then .nx (δ.set i (some (.tp (ts.set c (.nd (us ++ [.fz r.data])))))) else .bad) δ
  | _=>.bad
 | _=>.bad
noncomputable def Yb4 (i j:Nat) (a:FA):FS:=fun δ=>match a δ with
 | some (rs,δ1)=>match OT.datas rs with
  | [d,e]=>.nx ((δ1.set i (some (.fz d))).set j (some (.fz e)))
  | _=>.bad
 | none=>.bad
end
class NoStar (e:Expr):Prop where
 h:∀ es env,starEach (e :: es) env = (false,eval e env) :: starEach es env
instance nx_Name {x:Str} {p:Pos}:NoStar (.Name x p):=⟨fun _ _=>rfl⟩
instance nx_Constant {x k} {p:Pos}:NoStar (.Constant x k p):=⟨fun _ _=>rfl⟩
instance nx_BinOp {a o b} {p:Pos}:NoStar (.BinOp a o b p):=⟨fun _ _=>rfl⟩
instance nx_Call {f a k} {p:Pos}:NoStar (.Call f a k p):=⟨fun _ _=>rfl⟩
instance nx_List {a} {p:Pos}:NoStar (.List a p):=⟨fun _ _=>rfl⟩
instance nx_Tuple {a k} {p:Pos}:NoStar (.Tuple a k p):=⟨fun _ _=>rfl⟩
instance nx_Subscript {a b} {p:Pos}:NoStar (.Subscript a b p):=⟨fun _ _=>rfl⟩
instance nx_ListComp {a b s} {p:Pos}:NoStar (.ListComp a b s p):=⟨fun _ _=>rfl⟩
theorem Ze {X:Cx} {io:List Nat} {p p' c c' p2 c2:Bool} {e:Expr} {es:List Expr} {fa:FE} {ra:FA} [NoStar e] (ha:ME X io p c e (o2 fa)) (hr:MA X io p' c' es (o2 ra)) (hc:p' = true∨c = true:=by first | exact Or.inl rfl | exact Or.inr rfl) (h2:(p && p') = p2:=by rfl) (h3:(c && c') = c2:=by rfl):MA X io p2 c2 (e :: es) (o2 (Zc fa ra)) :=
 h2 ▸ h3 ▸ Z0p (Z0m ha hr hc (NoStar.h es X.env))
theorem Zm3 {X:Cx} {io:List Nat} {p p' c c':Bool} {e:Expr} {m:MEt} (h:ME X io p c e m) (h2:p = p':=by rfl) (h3:c = c':=by rfl):ME X io p' c' e m:=h2 ▸ h3 ▸ h
theorem Zyq {P:Program} {w:World} {K:PySem.W.Frag} {mg:Str→Option Value} {base:Heap} {CX:CXT} {k:Nat} {f:Addr} {fd:FuncData} {ps:List Str} {S:List PyData→(OT→Prop)→Prop} (h:∀ ds k,¬ S ds k):FnOk P w K mg base CX k f fd ps (spD K S):=by
 have h':∀ {vs H Q E},spD K S vs H Q E→False:=fun q=>by
  obtain ⟨_,ds,k,_,z,_⟩:=q
  exact h ds k z
 exact ⟨fun vs H Q E q=>(h' q).elim,fun A outer s H args us vs Q E _ _ _ _ q=>(h' q).elim⟩
end L2
namespace L2
open PySem PySem.Spec PyProof.Rows
variable {G:PySem.W.Frag}
section
variable {X:Cx} {io:List Nat} {p c:Bool} {e a b:Expr} {es:List Expr} {m ma mb:MEt} {mr:MAt} {pos apos cpos px py pt sp kp:Pos} {i j:Nat} {x y:Str} {fa fb:FE} {ra:FA} {st:Stmt} {u:FS}
noncomputable def insI (x:Int):List Int→List Int
 | []=>[x]
 | y :: ys=>if x ≤ y then x :: y :: ys else y :: insI x ys
noncomputable def Y0:List Int→List Int
 | []=>[]
 | x :: xs=>insI x (Y0 xs)
theorem insI_perm (x:Int):∀ l,(insI x l).Perm (x :: l)
 | []=>.refl _
 | y :: ys=>by
  unfold insI
  split
  ·exact .refl _
  ·exact ((insI_perm x ys).cons y).trans (.swap x y ys)
theorem Wo:∀ l,(Y0 l).Perm l
 | []=>.refl _
 | x :: xs=>(insI_perm x _).trans ((Wo xs).cons x)
theorem Zg2 (x:Int):∀ {l},l.Pairwise (· ≤ ·)→(insI x l).Pairwise (· ≤ ·)
 | [],_=>.cons (fun _ m=>nomatch m) .nil
 | y :: ys,h=>by
  unfold insI
  cases h with
  | cons h1 h2 =>
   split
   ·rename_i c
    refine .cons (fun z m=>?_) (.cons h1 h2)
    rcases List.mem_cons.mp m with rfl | m
    ·exact c
    ·exact Int.le_trans c (h1 z m)
   ·rename_i c
    refine .cons (fun z m=>?_) (Zg2 x h2)
    rcases List.mem_cons.mp ((insI_perm x ys).mem_iff.mp m) with rfl | m
    ·omega
    ·exact h1 z m
theorem Za4:∀ l,(Y0 l).Pairwise (· ≤ ·)
 | []=>.nil
 | x :: xs=>Zg2 x (Za4 xs)
theorem Zbq:∀ {l₁ l₂:List Int},l₁.Perm l₂→l₁.Pairwise (· ≤ ·)→l₂.Pairwise (· ≤ ·)→l₁ = l₂
 | [],l₂,h,_,_=>h.nil_eq
 | a :: l₁,[],h,_,_=>h.eq_nil
 | a :: l₁,b :: l₂,h,h1,h2=>by
  cases h1 with
  | cons p1 q1 =>
   cases h2 with
   | cons p2 q2 =>
    have e:a = b:=by
     have m1:a ∈ b :: l₂:=h.mem_iff.mp (.head _)
     have m2:b ∈ a :: l₁:=h.mem_iff.mpr (.head _)
     rcases List.mem_cons.mp m1 with e | m1
     ·exact e
     ·rcases List.mem_cons.mp m2 with e | m2
      ·exact e.symm
      ·have:=p2 a m1
       have:=p1 b m2
       omega
    subst e
    rw [Zbq h.cons_inv q1 q2]
noncomputable def Zyc (K:PySem.W.Frag):List V→Hp→VK→Prop:=fun xs H Q=>∃ (a:Addr) (ns:List Int),xs = [.ref a]∧SqL K H a (ns.map V.int)∧ns.length < 64∧∀ l,H l = none→Q (.ref l) (upd H l (.lst ((Y0 ns).map V.int)))
theorem Zzl:∀ {its:List Value} {ns:List Int},IntsAre its ns→Vals (ns.map V.int) its
 | [],_,h=>by cases h; exact .nil
 | v :: its,_,h=>by
  cases h with
  | cons n t h=>exact .cons ⟨_,rfl⟩ (Zzl h)
theorem Zpq {K:PySem.W.Frag} (hK:X.K = K):Zd9 X (.builtin "sorted") (Zyc K):=by
 subst hK
 intro pins s σ H xs us Q I r h
 obtain ⟨l,ns,rfl,hs,h64,q⟩:=h
 obtain ⟨u,rfl,ru⟩:=vals1 r
 cases (show u = Value.ref l from ru)
 obtain ⟨its,rv,pl,hz⟩:=I.list hs
 have hl:=rv.length
 rw [List.length_map] at hl
 refine sorted_ints pl.isList (Zj3 rv) (by omega) fun out ns' a1 a2 a3=>?_
 obtain ⟨e,he⟩:=sortedAll_at s.heap its out
 have en:ns' = Y0 ns:=Zbq (a2.trans (Wo ns).symm) a3 (Za4 ns)
 subst en
 refine ⟨.ref (s.heap.objs.size + 1),_,I.laid (t':=s.toks) (o:=.lst ((Y0 ns).map V.int)) (fun b ob q=>sortedAll_old q) (by omega) ⟨?_,out.toList,e,Zzl a1,he⟩,rfl,q _ (I.hok.fresh (by omega))⟩
 rw [List.length_map,(Wo ns).length_eq,sizeLine_eq]; omega
noncomputable def Zxj:List PyData→(OT→Prop)→Prop:=fun ds k=>n1 (fun d=>∃ ns:List Int,d = .list (ns.map PyData.int)∧ns.length < 64∧k (.nd (((Y0 ns).map PyData.int).map OT.fz))) ds
theorem Zvp:PN G (Zyc G) Zxj:=fun H L xs ds k Q hx h kk=>by
 obtain ⟨v,d,rfl,rfl,q,ns,e,h64,h⟩:=hx.one h
 have fin:∀ (p:Addr),H p = none→Q (.ref p) (upd H p (.lst ((Y0 ns).map V.int))):=fun p hp=>kk _ _ _ [p] (Yc hp _) (Own.list hp (Das.ints _)) (Zih p) (Zfs hp) h
 subst e
 generalize ed:PyData.list (ns.map PyData.int) = d at q
 cases q with
 | lst l e r =>
  cases ed
  exact ⟨_,ns,rfl,by rw [r.int_inv] at e; exact .inl e,h64,fin⟩
 | scr ks =>
  injection ed with ed
  have:ns = _:=List.map_inj_right (fun x y z=>by injection z) |>.mp ed
  subst this
  exact ⟨_,_,rfl,ks.sq,h64,fin⟩
 | _=>cases ed
noncomputable def Zon:List PyData→Option OT:=fun ds=>match ds with | [.list es]=>(Zet es).bind fun ns=>if ns.length < 64 then some (.nd (((Y0 ns).map PyData.int).map OT.fz)) else none | _=>none
theorem Zzt:∀ ds r k,Zon ds = some r→k r→Zxj ds k:=fun ds r k h hk=>by
 unfold Zon at h
 split at h
 case h_2=>cases h
 obtain ⟨ns,h1,h⟩:=bs h
 split at h
 case isFalse=>cases h
 rename_i h2
 cases h
 exact ⟨ns,by rw [Zef h1],h2,hk⟩
end
end L2
namespace L2
open PySem PySem.Spec PyProof.Rows
structure Gives (P:Program) (w:World) (it:Addr) (f:List Addr) (St:Heap→Prop) (x:Value) (St':Heap→Prop):Prop where
 mem:it ∈ f
 run:∀ {A:Around} {E:Value→Shared→Prop} {s:Shared} {Q:Value→Shared→Prop},St s.heap→(∀ h',St' h'→Heap.SameBut it s.heap h'→Q x { s with heap:=h' })→wpAny (model P w) A (Builtin.SmallTypes.nextOf (.ref it)) Q E s
 keep:∀ h h',(∀ c ∈ f,∀ o,h.get? c = some o→h'.get? c = some o)→St h→St h'
 keep':∀ h h',(∀ c ∈ f,∀ o,h.get? c = some o→h'.get? c = some o)→St' h→St' h'
structure Ziq (P:Program) (w:World) (it:Addr) (f:List Addr) (St:Heap→Prop):Prop where
 mem:it ∈ f
 run:∀ {A:Around} {E:Value→Shared→Prop} {s:Shared} {Q:Value→Shared→Prop},A.handled = none→St s.heap→(∀ h' e,Heap.ExtBut it s.heap h'→(∃ o,h'.get? e = some o∧o.cls = .type "StopIteration")→E (.ref e) { s with heap:=h' })→wpAny (model P w) A (Builtin.SmallTypes.nextOf (.ref it)) Q E s
 keep:∀ h h',(∀ c ∈ f,∀ o,h.get? c = some o→h'.get? c = some o)→St h→St h'
structure ZA (z TI TO i1 i2:Addr) (f1 f2:List Addr):Prop where
 TIz:TI ≠ z
 TOz:TO ≠ z
 a1:∀ c ∈ f1,c ≠ z∧c ≠ TO∧c ≠ i2
 a2:∀ c ∈ f2,c ≠ z∧c ≠ TO∧c ≠ i1
section
variable {P:Program} {w:World} {A:Around} {E:Value→Shared→Prop} {s:Shared}
theorem Zjb {T:Addr} {a b x:Value} {k:Nat} {Q:Unit→Shared→Prop} (hT:IsPair s.heap T a b) (h:∀ h',h'.get? T = some { cls:=.type "tuple", data:=.seq ((#[a,b]:Array Value).setIfInBounds k x) }→Heap.SameBut T s.heap h'→Q () { s with heap:=h' }) :
  wpAny (model P w) A (updateSeq T (·.setIfInBounds k x)) Q E s:=wpAny_updateSeq_pair hT h
theorem Zs1 {z TI TO i1 i2:Addr} {f1 f2:List Addr} {S1 T1 S2 T2:Heap→Prop} {x y a b:Value} {Q:Value→Shared→Prop} (D:ZA z TI TO i1 i2 f1 f2) (G1:Gives P w i1 f1 S1 x T1) (G2:Gives P w i2 f2 S2 y T2)
  (hz:IsZip s.heap z TI TO .none) (hTI:IsPair s.heap TI (.ref i1) (.ref i2)) (hTO:IsPair s.heap TO a b) (h1:S1 s.heap) (h2:S2 s.heap)
  (hQ:∀ h',IsZip h' z TI TO (rawInt s.heap.objs.size)→IsPair h' TO x y→T1 h'→T2 h'→IsPair h' s.heap.objs.size x y →
   (∀ c o,c ∉ [z,TO,i1,i2]→s.heap.get? c = some o→h'.get? c = some o)→Q (.ref s.heap.objs.size) { s with heap:=h' }) :
  wpAny (model P w) A (Builtin.«zip.__next__» ⟨[.ref z],[]⟩) (fun fin s'=>∃ v,fin = .done (.ret v)∧Q v s') E s:=by
 obtain ⟨i1z,i1O,i12⟩:=D.a1 i1 G1.mem
 obtain ⟨i2z,i2O,i21⟩:=D.a2 i2 G2.mem
 have r1:z ∉ f1∧TO ∉ f1∧i2 ∉ f1:=⟨fun m=>(D.a1 z m).1 rfl,fun m=>(D.a1 TO m).2.1 rfl,fun m=>(D.a1 i2 m).2.2 rfl⟩
 have r2:z ∉ f2∧TO ∉ f2∧i1 ∉ f2:=⟨fun m=>(D.a2 z m).1 rfl,fun m=>(D.a2 TO m).2.1 rfl,fun m=>(D.a2 i1 m).2.2 rfl⟩
 have st:∀ {b:Addr} {h h':Heap} {f:List Addr},Heap.SameBut b h h'→b ∉ f→∀ c ∈ f,∀ o,h.get? c = some o→h'.get? c = some o:=fun sb hb c hc o e=>sb.extBut _ _ (fun q=>hb (q ▸ hc)) e
 show wpAny _ _ (field (.ref z) 2 >>= _) _ _ _
 refine wpAny_bind (wpAny_field hz rfl (x:=.bool false) rfl ?_)
 show wpAny _ _ (field (.ref z) 3 >>= _) _ _ _
 refine wpAny_bind (wpAny_field hz rfl (x:=.ref TI) rfl (wpAny_bind (wpAny_seqItems hTI rfl ?_)))
 show wpAny _ _ (Builtin.SmallTypes.ownedTupleIsFree (.ref z) >>= _) _ _ _
 refine wpAny_bind ?_
 unfold Builtin.SmallTypes.ownedTupleIsFree
 refine wpAny_bind (wpAny_field hz rfl (x:=.none) rfl (wpAny_pure ?_))
 simp only [if_true]
 refine wpAny_bind (wpAny_rule (wpAny_bind (wpAny_field hz rfl (x:=.ref TO) rfl (wpAny_bind (wpAny_setField_rec hz (by simp) fun h3 z3 b3=>?_)))))
 replace z3:IsZip h3 z TI TO .ellipsis:=z3
 refine wpAny_bind ?_
 simp only [List.zipIdx_cons,List.zipIdx_nil,List.forIn_cons,List.forIn_nil]
 refine wpAny_bind (wpAny_bind (wpAny_onRaise ?_))
 show wpAny _ _ (Builtin.SmallTypes.nextOf (.ref i1) >>= _) _ _ _
 refine wpAny_bind (G1.run (s:={ s with heap:=h3 }) (G1.keep _ _ (st b3 r1.1) h1) fun h4 k4 b4=>wpAny_pure ?_)
 have o4:IsPair h4 TO a b:=b4.extBut _ _ i1O.symm (b3.extBut _ _ D.TOz hTO)
 refine wpAny_bind (wpAny_seqItems o4 rfl (wpAny_bind (Zjb (s:={ s with heap:=h4 }) o4 fun h5 o5 b5=>wpAny_bind (wpAny_letGo (wpAny_pure ?_)))))
 replace o5:IsPair h5 TO x b:=o5
 refine wpAny_bind (wpAny_bind (wpAny_onRaise ?_))
 show wpAny _ _ (Builtin.SmallTypes.nextOf (.ref i2) >>= _) _ _ _
 refine wpAny_bind (G2.run (s:={ s with heap:=h5 }) (G2.keep _ _ (st b5 r2.2.1) (G2.keep _ _ (st b4 r2.2.2) (G2.keep _ _ (st b3 r2.1) h2))) fun h6 k6 b6=>wpAny_pure ?_)
 have o6:IsPair h6 TO x b:=b6.extBut _ _ i2O.symm o5
 refine wpAny_bind (wpAny_seqItems o6 rfl (wpAny_bind (Zjb (s:={ s with heap:=h6 }) o6 fun h7 o7 b7=>wpAny_bind (wpAny_letGo (wpAny_pure (wpAny_pure ?_))))))
 replace o7:IsPair h7 TO x y:=o7
 refine wpAny_bind (wpAny_seqItems o7 rfl (wpAny_bind (wpAny_newTuple ?_)))
 have sz:h7.objs.size = s.heap.objs.size:=by rw [b7.1,b6.1,b5.1,b4.1,b3.1]
 have z7:IsZip h7 z TI TO .ellipsis:=b7.extBut _ _ D.TOz.symm (b6.extBut _ _ i2z.symm (b5.extBut _ _ D.TOz.symm (b4.extBut _ _ i1z.symm z3)))
 have t1:T1 h7:=G1.keep' _ _ (st b7 r1.2.1) (G1.keep' _ _ (st b6 r1.2.2) (G1.keep' _ _ (st b5 r1.2.1) k4))
 have t2:T2 h7:=G2.keep' _ _ (st b7 r2.2.1) k6
 have old:∀ c o,c ∉ [z,TO,i1,i2]→s.heap.get? c = some o→h7.get? c = some o:=fun c o n e=>by
  simp only [List.mem_cons,List.not_mem_nil,or_false,not_or] at n
  exact b7.extBut _ _ n.2.1 (b6.extBut _ _ n.2.2.2 (b5.extBut _ _ n.2.1 (b4.extBut _ _ n.2.2.1 (b3.extBut _ _ n.1 e))))
 show wpAny _ _ (Builtin.SmallTypes.ownedTupleHandOut (.ref z) (.ref h7.objs.size) >>= _) _ _ _
 refine wpAny_bind ?_
 unfold Builtin.SmallTypes.ownedTupleHandOut
 have zp:IsZip (h7.push { cls:=.type "tuple", data:=.seq #[x,y] }) z TI TO .ellipsis:=Heap.get?_push_of_some _ z7
 refine wpAny_bind (wpAny_setField_rec zp (by simp) fun h8 z8 b8=>?_)
 replace z8:IsZip h8 z TI TO (rawInt h7.objs.size):=z8
 refine wpAny_setField_rec z8 (by simp) fun h9 z9 b9=>?_
 replace z9:IsZip h9 z TI TO (rawInt h7.objs.size):=z9
 have up:∀ c o,c ≠ z→h7.get? c = some o→h9.get? c = some o:=fun c o n e=>b9.extBut _ _ n (b8.extBut _ _ n (Heap.get?_push_of_some _ e))
 have nz:h7.objs.size ≠ z:=Nat.ne_of_gt (Heap.lt_size z7)
 have p9:IsPair h9 h7.objs.size x y:=b9.extBut _ _ nz (b8.extBut _ _ nz (Heap.get?_push_size _ rfl))
 refine wpAny_pure ⟨_,rfl,?_⟩
 show Q (.ref h7.objs.size) _
 rw [sz] at z9 p9 ⊢
 exact hQ h9 z9 (up _ _ D.TOz o7) (G1.keep' _ _ (fun c hc o e=>up c o (fun q=>r1.1 (q ▸ hc)) e) t1) (G2.keep' _ _ (fun c hc o e=>up c o (fun q=>r2.1 (q ▸ hc)) e) t2) p9 fun c o n e=>up c o (fun q=>n (by simp [q])) (old c o n e)
theorem Zvj {z TI TO i1 i2:Addr} {f1 f2:List Addr} {S1 T1 S2:Heap→Prop} {a b:Value} {Q:Fin→Shared→Prop} (hh:A.handled = none) (D:ZA z TI TO i1 i2 f1 f2) (g1:Ziq P w i1 f1 S1∨(∃ x,Gives P w i1 f1 S1 x T1)∧Ziq P w i2 f2 S2)
  (hz:IsZip s.heap z TI TO .none) (hTI:IsPair s.heap TI (.ref i1) (.ref i2)) (hTO:IsPair s.heap TO a b) (h1:S1 s.heap) (h2:S2 s.heap)
  (hE:∀ h' e,(∀ c o,c ∉ [z,TO,i1,i2]→s.heap.get? c = some o→h'.get? c = some o)→(∃ o,h'.get? e = some o∧o.cls = .type "StopIteration")→E (.ref e) { s with heap:=h' }) :
  wpAny (model P w) A (Builtin.«zip.__next__» ⟨[.ref z],[]⟩) Q E s:=by
 have r1:z ∉ f1∧TO ∉ f1∧i2 ∉ f1:=⟨fun m=>(D.a1 z m).1 rfl,fun m=>(D.a1 TO m).2.1 rfl,fun m=>(D.a1 i2 m).2.2 rfl⟩
 have r2:z ∉ f2∧TO ∉ f2∧i1 ∉ f2:=⟨fun m=>(D.a2 z m).1 rfl,fun m=>(D.a2 TO m).2.1 rfl,fun m=>(D.a2 i1 m).2.2 rfl⟩
 have st:∀ {b:Addr} {h h':Heap} {f:List Addr},Heap.SameBut b h h'→b ∉ f→∀ c ∈ f,∀ o,h.get? c = some o→h'.get? c = some o:=fun sb hb c hc o e=>sb.extBut _ _ (fun q=>hb (q ▸ hc)) e
 show wpAny _ _ (field (.ref z) 2 >>= _) _ _ _
 refine wpAny_bind (wpAny_field hz rfl (x:=.bool false) rfl ?_)
 show wpAny _ _ (field (.ref z) 3 >>= _) _ _ _
 refine wpAny_bind (wpAny_field hz rfl (x:=.ref TI) rfl (wpAny_bind (wpAny_seqItems hTI rfl ?_)))
 show wpAny _ _ (Builtin.SmallTypes.ownedTupleIsFree (.ref z) >>= _) _ _ _
 refine wpAny_bind ?_
 unfold Builtin.SmallTypes.ownedTupleIsFree
 refine wpAny_bind (wpAny_field hz rfl (x:=.none) rfl (wpAny_pure ?_))
 simp only [if_true]
 refine wpAny_bind (wpAny_rule (wpAny_bind (wpAny_field hz rfl (x:=.ref TO) rfl (wpAny_bind (wpAny_setField_rec hz (by simp) fun h3 z3 b3=>?_)))))
 replace z3:IsZip h3 z TI TO .ellipsis:=z3
 refine wpAny_bind ?_
 simp only [List.zipIdx_cons,List.zipIdx_nil,List.forIn_cons,List.forIn_nil]
 refine wpAny_bind (wpAny_bind (wpAny_onRaise ?_))
 show wpAny _ _ (Builtin.SmallTypes.nextOf (.ref i1) >>= _) _ _ _
 rcases g1 with G1 | ⟨⟨x,G1⟩,G2⟩
 ·obtain ⟨i1z,i1O,i12⟩:=D.a1 i1 G1.mem
  refine wpAny_bind (G1.run (s:={ s with heap:=h3 }) hh (G1.keep _ _ (st b3 r1.1) h1) fun h4 e b4 he=>?_)
  obtain ⟨oe,hoe,hce⟩:=he
  have z4:IsZip h4 z TI TO .ellipsis:=b4 _ _ i1z.symm z3
  have ez:e ≠ z:=fun q=>by subst q; rw [z4] at hoe; cases hoe; simp at hce
  refine wpAny_setField_rec z4 (by simp) fun h5 _ b5=>hE h5 e (fun c o n q=>?_) ⟨oe,b5.extBut _ _ ez hoe,hce⟩
  simp only [List.mem_cons,List.not_mem_nil,or_false,not_or] at n
  exact b5.extBut _ _ n.1 (b4 _ _ n.2.2.1 (b3.extBut _ _ n.1 q))
 ·obtain ⟨i1z,i1O,i12⟩:=D.a1 i1 G1.mem
  obtain ⟨i2z,i2O,i21⟩:=D.a2 i2 G2.mem
  refine wpAny_bind (G1.run (s:={ s with heap:=h3 }) (G1.keep _ _ (st b3 r1.1) h1) fun h4 k4 b4=>wpAny_pure ?_)
  have o4:IsPair h4 TO a b:=b4.extBut _ _ i1O.symm (b3.extBut _ _ D.TOz hTO)
  refine wpAny_bind (wpAny_seqItems o4 rfl (wpAny_bind (Zjb (s:={ s with heap:=h4 }) o4 fun h5 o5 b5=>wpAny_bind (wpAny_letGo (wpAny_pure ?_)))))
  refine wpAny_bind (wpAny_bind (wpAny_onRaise ?_))
  show wpAny _ _ (Builtin.SmallTypes.nextOf (.ref i2) >>= _) _ _ _
  refine wpAny_bind (G2.run (s:={ s with heap:=h5 }) hh (G2.keep _ _ (st b5 r2.2.1) (G2.keep _ _ (st b4 r2.2.2) (G2.keep _ _ (st b3 r2.1) h2))) fun h6 e b6 he=>?_)
  obtain ⟨oe,hoe,hce⟩:=he
  have z6:IsZip h6 z TI TO .ellipsis:=b6 _ _ i2z.symm (b5.extBut _ _ D.TOz.symm (b4.extBut _ _ i1z.symm z3))
  have ez:e ≠ z:=fun q=>by subst q; rw [z6] at hoe; cases hoe; simp at hce
  refine wpAny_setField_rec z6 (by simp) fun h7 _ b7=>hE h7 e (fun c o n q=>?_) ⟨oe,b7.extBut _ _ ez hoe,hce⟩
  simp only [List.mem_cons,List.not_mem_nil,or_false,not_or] at n
  exact b7.extBut _ _ n.1 (b6 _ _ n.2.2.2 (b5.extBut _ _ n.2.1 (b4.extBut _ _ n.2.2.1 (b3.extBut _ _ n.1 q))))
theorem Zpf {z TI TO i1 i2:Addr} {f1 f2:List Addr} {S1 T1 S2 T2:Heap→Prop} {x y a b:Value} {Q:Option Value→Shared→Prop} (D:ZA z TI TO i1 i2 f1 f2) (G1:Gives P w i1 f1 S1 x T1) (G2:Gives P w i2 f2 S2 y T2)
  (hz:IsZip s.heap z TI TO .none) (hTI:IsPair s.heap TI (.ref i1) (.ref i2)) (hTO:IsPair s.heap TO a b) (h1:S1 s.heap) (h2:S2 s.heap)
  (hQ:∀ h',IsZip h' z TI TO (rawInt s.heap.objs.size)→IsPair h' TO x y→T1 h'→T2 h'→IsPair h' s.heap.objs.size x y →
   (∀ c o,c ∉ [z,TO,i1,i2]→s.heap.get? c = some o→h'.get? c = some o)→Q (some (.ref s.heap.objs.size)) { s with heap:=h' }):wpAny (model P w) A (pyNext (.ref z)) Q E s:=by
 have hT:s.TypeIs (.ref z) "zip" := ⟨_,hz,rfl⟩
 unfold pyNext
 exact wpAny_bind (wpAny_attempt (wpAny_callSpecial?_slot (name:=Str.ofString "__next__") hT F.slot_zip_next (wpAny_call_entry F.slot_zip_next hT F.entry_zip_next (Zs1 D G1 G2 hz hTI hTO h1 h2 fun h' a1 a2 a3 a4 a5 a6=>wpAny_pure (hQ h' a1 a2 a3 a4 a5 a6)) (F.args_zip_next_1 _))))
theorem Zr9 {z TI TO i1 i2:Addr} {f1 f2:List Addr} {S1 T1 S2:Heap→Prop} {a b:Value} {Q:Option Value→Shared→Prop} (hh:A.handled = none) (D:ZA z TI TO i1 i2 f1 f2) (g1:Ziq P w i1 f1 S1∨(∃ x,Gives P w i1 f1 S1 x T1)∧Ziq P w i2 f2 S2)
  (hz:IsZip s.heap z TI TO .none) (hTI:IsPair s.heap TI (.ref i1) (.ref i2)) (hTO:IsPair s.heap TO a b) (h1:S1 s.heap) (h2:S2 s.heap)
  (hQ:∀ h',(∀ c o,c ∉ [z,TO,i1,i2]→s.heap.get? c = some o→h'.get? c = some o)→Q none { s with heap:=h' }):wpAny (model P w) A (pyNext (.ref z)) Q E s:=by
 have hT:s.TypeIs (.ref z) "zip" := ⟨_,hz,rfl⟩
 unfold pyNext
 refine wpAny_bind (wpAny_attempt (wpAny_callSpecial?_slot (name:=Str.ofString "__next__") hT F.slot_zip_next (wpAny_call_entry F.slot_zip_next hT F.entry_zip_next (Zvj hh D g1 hz hTI hTO h1 h2 fun h' e hk he=>?_) (F.args_zip_next_1 _))))
 obtain ⟨o,ho,hc⟩:=he
 exact wpAny_bind (wpAny_isInstance (T := "StopIteration") (b:=true) ⟨o,ho,hc⟩ isSubtype_stop (wpAny_pure (hQ _ hk)))
theorem Zrb {it t:Addr} {i:Nat} {items:Array Value} {x:Value} (hx:items[i]? = some x):Gives P w it [it,t] (fun h=>IsTupIter h it t i∧IsTup h t items) x (fun h=>IsTupIter h it t (i + 1)) where
 mem:=by simp
 run:=fun {A E s Q} ⟨hit,ht⟩ hQ=>by
  obtain ⟨o,ho,hc,hd⟩:=id hit
  obtain ⟨ol,hol,_,nl,hdl⟩:=ht
  unfold Builtin.SmallTypes.nextOf
  refine wpAny_bind (wpAny_callSpecial?_slot (name:=Str.ofString "__next__") hit.typeIs slot_tupleiter_next (wpAny_call_entry slot_tupleiter_next hit.typeIs entry_tupleiter_next ?_ (args_tupleiter_next _)))
  show wpAny _ _ (field (.ref it) 0 >>= _) _ _ s
  refine wpAny_bind (wpAny_field ho hd (x:=.ref t) rfl ?_)
  show wpAny _ _ (if (Value.ref t == Value.none) = true then _ else _) _ _ s
  rw [if_neg (show ¬ ((Value.ref t == Value.none) = true) from Bool.false_ne_true)]
  show wpAny _ _ (field (.ref it) 1 >>= _) _ _ s
  refine wpAny_bind (wpAny_field ho hd (x:=.int i 0) rfl ?_)
  show wpAny _ _ (seqItems? (.ref t) >>= _) _ _ s
  refine wpAny_bind (wpAny_seqItems hol hdl ?_)
  simp only [Int.toNat_natCast,hx]
  refine wpAny_bind (wpAny_setField ho hd (by simp) (wpAny_pure ⟨x,rfl,wpAny_pure (hQ _ ?_ (Heap.SameBut.update ..))⟩))
  exact ⟨_,Heap.get?_update_self _ ho (Obj.isFreed_of_fields (Obj.data_mapFields hd _)),(Obj.cls_mapFields ..).trans hc,by rw [Obj.data_mapFields hd]; simp [rawInt]⟩
 keep:=fun h h' k ⟨⟨o,a1,a2⟩,⟨o',b1,b2⟩⟩=>⟨⟨o,k it (by simp) o a1,a2⟩,⟨o',k t (by simp) o' b1,b2⟩⟩
 keep':=fun h h' k ⟨o,a1,a2⟩=>⟨o,k it (by simp) o a1,a2⟩
theorem Zv2 {it t:Addr} {i:Nat} {items:Array Value} (hx:items[i]? = none):Ziq P w it [it,t] (fun h=>IsTupIter h it t i∧IsTup h t items) where
 mem:=by simp
 run:=fun {A E s Q} hh ⟨hit,ht⟩ hE=>by
  obtain ⟨o,ho,hc,hd⟩:=id hit
  obtain ⟨ol,hol,_,nl,hdl⟩:=ht
  unfold Builtin.SmallTypes.nextOf
  refine wpAny_bind (wpAny_callSpecial?_slot (name:=Str.ofString "__next__") hit.typeIs slot_tupleiter_next (wpAny_call_entry slot_tupleiter_next hit.typeIs entry_tupleiter_next ?_ (args_tupleiter_next _)))
  show wpAny _ _ (field (.ref it) 0 >>= _) _ _ s
  refine wpAny_bind (wpAny_field ho hd (x:=.ref t) rfl ?_)
  show wpAny _ _ (if (Value.ref t == Value.none) = true then _ else _) _ _ s
  rw [if_neg (show ¬ ((Value.ref t == Value.none) = true) from Bool.false_ne_true)]
  show wpAny _ _ (field (.ref it) 1 >>= _) _ _ s
  refine wpAny_bind (wpAny_field ho hd (x:=.int i 0) rfl ?_)
  show wpAny _ _ (seqItems? (.ref t) >>= _) _ _ s
  refine wpAny_bind (wpAny_seqItems hol hdl ?_)
  simp only [Int.toNat_natCast,hx]
  refine wpAny_bind (wpAny_rule (wpAny_bind (wpAny_setField ho hd (by simp) ?_)))
  show wpAny _ _ (newExc (.type "StopIteration") [] >>= _) _ _ _
  refine wpAny_bind ?_
  simp only [newExc,newTuple]
  refine wpAny_bind (wpAny_newObj_type ?_ (by size_fits))
  refine wpAny_bind (m:=firstArgMember _ _) (wpAny_of_eq (a:=Value.none) (by first | rfl | (simp only [firstArgMember]; rfl)) ?_)
  refine wpAny_newObj_type ?_ (by size_fits)
  simp only [raiseNew]
  refine wpAny_bind (wpAny_handled ?_)
  first | rw [show A.in1.handled = none from hh] | rw [hh]
  exact wpAny_bind (wpAny_pure (wpAny_throw (hE _ _ (((Heap.SameBut.update ..).extBut.push _).push _) ⟨_,Heap.get?_push_size _ rfl,rfl⟩)))
 keep:=fun h h' k ⟨⟨o,a1,a2⟩,⟨o',b1,b2⟩⟩=>⟨⟨o,k it (by simp) o a1,a2⟩,⟨o',k t (by simp) o' b1,b2⟩⟩
end
noncomputable abbrev zT1 (h:Heap) (a:Addr):Heap:=h.push { cls:=.type "tuple_iterator", data:=.fields #[.ref a,.int 0 0] }
noncomputable abbrev zT2 (h:Heap) (a b:Addr):Heap:=(zT1 h a).push { cls:=.type "tuple_iterator", data:=.fields #[.ref b,.int 0 0] }
noncomputable abbrev zT3 (h:Heap) (a b:Addr):Heap:=(zT2 h a b).push { cls:=.type "tuple", data:=.seq #[.ref h.objs.size,.ref (zT1 h a).objs.size] }
noncomputable abbrev zT4 (h:Heap) (a b:Addr):Heap:=(zT3 h a b).push { cls:=.type "tuple", data:=.seq #[.none,.none] }
noncomputable abbrev zT5 (h:Heap) (a b:Addr):Heap:=(zT4 h a b).push { cls:=.type "zip", data:=.fields #[.none,.bool false,.bool false,.ref (zT2 h a b).objs.size,.ref (zT3 h a b).objs.size] }
theorem Zw2 (a b:Addr) (xs ys:Array Value) :
  Meets (Builtin.«zip.__new__» ⟨[.type "zip", .ref a,.ref b],[]⟩) (fun _ R s=>IsTup s.heap a xs∧IsTup s.heap b ys∧R (.ok (.ret (.ref (zT4 s.heap a b).objs.size))) { s with heap:=zT5 s.heap a b }) :=
 .of_wp fun prog w A R s h=>by
  obtain ⟨hp,g,d,tk,os⟩:=s
  obtain ⟨h1,h2,h⟩:=h
  have hsub:=sub_zip
  have hL1:IsTup (Shared.heap ⟨hp,g,d,tk,os⟩) a xs:=h1
  have hL2:IsTup (Shared.heap ⟨hp.push { cls:=.type "tuple_iterator", data:=.fields #[.ref a,.int 0 0] },g,d,tk,os⟩) b ys:=h2.push _
  wp_walk using iter_tuple hL1,iter_tuple hL2
  exact ⟨_,rfl,h⟩
section
variable {P:Program} {w:World} {A:Around} {E:Value→Shared→Prop} {s:Shared}
theorem Zt9 {a b:Addr} {xs ys:Array Value} {Q:Value→Shared→Prop} (h1:IsTup s.heap a xs) (h2:IsTup s.heap b ys)
  (h:∀ h' n,n = s.heap.objs.size→IsZip h' (n + 4) (n + 2) (n + 3) .none→IsPair h' (n + 2) (.ref n) (.ref (n + 1))→IsPair h' (n + 3) .none .none→IsTupIter h' n a 0→IsTupIter h' (n + 1) b 0 →
   (∀ c o,s.heap.get? c = some o→h'.get? c = some o)→Q (.ref (n + 4)) { s with heap:=h' }):wpAny (model P w) A (call (.type "zip") [.ref a,.ref b]) Q E s:=by
 refine callType_new F.called_zip (by decide) (F.typeCall_zip_2 _ _) (F.newCall_zip_2 _ _) (fun obj=>F.args_object_init_3 obj _ _) F.entry_zip_new (Zw2 a b xs ys) ⟨h1,h2,?_⟩
 have e1:(zT1 s.heap a).objs.size = s.heap.objs.size + 1:=Heap.size_push ..
 have e2:(zT2 s.heap a b).objs.size = s.heap.objs.size + 2:=by rw [Heap.size_push,e1]
 have e3:(zT3 s.heap a b).objs.size = s.heap.objs.size + 3:=by rw [Heap.size_push,e2]
 have e4:(zT4 s.heap a b).objs.size = s.heap.objs.size + 4:=by rw [Heap.size_push,e3]
 have up:∀ {c o},(zT1 s.heap a).get? c = some o→(zT5 s.heap a b).get? c = some o:=fun x=>Heap.get?_push_of_some _ (Heap.get?_push_of_some _ (Heap.get?_push_of_some _ (Heap.get?_push_of_some _ x)))
 have p5:(zT5 s.heap a b).get? (zT4 s.heap a b).objs.size = some _:=Heap.get?_push_size _ rfl
 have p4:(zT5 s.heap a b).get? (zT3 s.heap a b).objs.size = some _:=Heap.get?_push_of_some _ (Heap.get?_push_size _ rfl)
 have p3:(zT5 s.heap a b).get? (zT2 s.heap a b).objs.size = some _:=Heap.get?_push_of_some _ (Heap.get?_push_of_some _ (Heap.get?_push_size _ rfl))
 have p2:(zT5 s.heap a b).get? (zT1 s.heap a).objs.size = some _:=Heap.get?_push_of_some _ (Heap.get?_push_of_some _ (Heap.get?_push_of_some _ (Heap.get?_push_size _ rfl)))
 have p1:(zT5 s.heap a b).get? s.heap.objs.size = some _:=up (Heap.get?_push_size _ rfl)
 show _∧_
 rw [e2,e3,e4] at p5
 rw [e1,e2] at p3
 rw [e3] at p4
 rw [e1] at p2
 rw [e4]
 exact ⟨⟨_,p5,rfl⟩,h _ _ rfl p5 p3 p4 ⟨_,p1,rfl,rfl⟩ ⟨_,p2,rfl,rfl⟩ fun c o x=>up (Heap.get?_push_of_some _ x)⟩
end
theorem nn {n a b:Nat} (h:a ≠ b):n + a ≠ n + b:=fun e=>h (Nat.add_left_cancel e)
theorem n0 {n b:Nat} (h:0 ≠ b):n ≠ n + b:=fun e=>h (Nat.add_left_cancel (n:=n) e)
theorem nlt {n a c:Nat} (h:a < n):a ≠ n + c:=Nat.ne_of_lt (Nat.lt_of_lt_of_le h (Nat.le_add_right ..))
theorem ZA.new {n a b:Nat} (h1:a < n) (h2:b < n):ZA (n + 4) (n + 2) (n + 3) n (n + 1) [n,a] [n + 1,b] where
 TIz:=(by first | exact nn (by decide) | exact n0 (by decide) | exact (n0 (by decide)).symm | exact nlt h1 | exact nlt h2 | exact (nlt h1).symm | exact (nlt h2).symm | exact Nat.ne_of_lt h1 | exact Nat.ne_of_lt h2 | exact Nat.ne_of_gt h1 | exact Nat.ne_of_gt h2 | omega)
 TOz:=(by first | exact nn (by decide) | exact n0 (by decide) | exact (n0 (by decide)).symm | exact nlt h1 | exact nlt h2 | exact (nlt h1).symm | exact (nlt h2).symm | exact Nat.ne_of_lt h1 | exact Nat.ne_of_lt h2 | exact Nat.ne_of_gt h1 | exact Nat.ne_of_gt h2 | omega)
 a1:=fun c hc=>by
  simp only [List.mem_cons,List.not_mem_nil,or_false] at hc
  rcases hc with rfl | rfl
  ·exact ⟨(by first | exact nn (by decide) | exact n0 (by decide) | exact (n0 (by decide)).symm | exact nlt h1 | exact nlt h2 | exact (nlt h1).symm | exact (nlt h2).symm | exact Nat.ne_of_lt h1 | exact Nat.ne_of_lt h2 | exact Nat.ne_of_gt h1 | exact Nat.ne_of_gt h2 | omega),(by first | exact nn (by decide) | exact n0 (by decide) | exact (n0 (by decide)).symm | exact nlt h1 | exact nlt h2 | exact (nlt h1).symm | exact (nlt h2).symm | exact Nat.ne_of_lt h1 | exact Nat.ne_of_lt h2 | exact Nat.ne_of_gt h1 | exact Nat.ne_of_gt h2 | omega),(by first | exact nn (by decide) | exact n0 (by decide) | exact (n0 (by decide)).symm | exact nlt h1 | exact nlt h2 | exact (nlt h1).symm | exact (nlt h2).symm | exact Nat.ne_of_lt h1 | exact Nat.ne_of_lt h2 | exact Nat.ne_of_gt h1 | exact Nat.ne_of_gt h2 | omega)⟩
  ·exact ⟨(by first | exact nn (by decide) | exact n0 (by decide) | exact (n0 (by decide)).symm | exact nlt h1 | exact nlt h2 | exact (nlt h1).symm | exact (nlt h2).symm | exact Nat.ne_of_lt h1 | exact Nat.ne_of_lt h2 | exact Nat.ne_of_gt h1 | exact Nat.ne_of_gt h2 | omega),(by first | exact nn (by decide) | exact n0 (by decide) | exact (n0 (by decide)).symm | exact nlt h1 | exact nlt h2 | exact (nlt h1).symm | exact (nlt h2).symm | exact Nat.ne_of_lt h1 | exact Nat.ne_of_lt h2 | exact Nat.ne_of_gt h1 | exact Nat.ne_of_gt h2 | omega),(by first | exact nn (by decide) | exact n0 (by decide) | exact (n0 (by decide)).symm | exact nlt h1 | exact nlt h2 | exact (nlt h1).symm | exact (nlt h2).symm | exact Nat.ne_of_lt h1 | exact Nat.ne_of_lt h2 | exact Nat.ne_of_gt h1 | exact Nat.ne_of_gt h2 | omega)⟩
 a2:=fun c hc=>by
  simp only [List.mem_cons,List.not_mem_nil,or_false] at hc
  rcases hc with rfl | rfl
  ·exact ⟨(by first | exact nn (by decide) | exact n0 (by decide) | exact (n0 (by decide)).symm | exact nlt h1 | exact nlt h2 | exact (nlt h1).symm | exact (nlt h2).symm | exact Nat.ne_of_lt h1 | exact Nat.ne_of_lt h2 | exact Nat.ne_of_gt h1 | exact Nat.ne_of_gt h2 | omega),(by first | exact nn (by decide) | exact n0 (by decide) | exact (n0 (by decide)).symm | exact nlt h1 | exact nlt h2 | exact (nlt h1).symm | exact (nlt h2).symm | exact Nat.ne_of_lt h1 | exact Nat.ne_of_lt h2 | exact Nat.ne_of_gt h1 | exact Nat.ne_of_gt h2 | omega),(by first | exact nn (by decide) | exact n0 (by decide) | exact (n0 (by decide)).symm | exact nlt h1 | exact nlt h2 | exact (nlt h1).symm | exact (nlt h2).symm | exact Nat.ne_of_lt h1 | exact Nat.ne_of_lt h2 | exact Nat.ne_of_gt h1 | exact Nat.ne_of_gt h2 | omega)⟩
  ·exact ⟨(by first | exact nn (by decide) | exact n0 (by decide) | exact (n0 (by decide)).symm | exact nlt h1 | exact nlt h2 | exact (nlt h1).symm | exact (nlt h2).symm | exact Nat.ne_of_lt h1 | exact Nat.ne_of_lt h2 | exact Nat.ne_of_gt h1 | exact Nat.ne_of_gt h2 | omega),(by first | exact nn (by decide) | exact n0 (by decide) | exact (n0 (by decide)).symm | exact nlt h1 | exact nlt h2 | exact (nlt h1).symm | exact (nlt h2).symm | exact Nat.ne_of_lt h1 | exact Nat.ne_of_lt h2 | exact Nat.ne_of_gt h1 | exact Nat.ne_of_gt h2 | omega),(by first | exact nn (by decide) | exact n0 (by decide) | exact (n0 (by decide)).symm | exact nlt h1 | exact nlt h2 | exact (nlt h1).symm | exact (nlt h2).symm | exact Nat.ne_of_lt h1 | exact Nat.ne_of_lt h2 | exact Nat.ne_of_gt h1 | exact Nat.ne_of_gt h2 | omega)⟩
theorem ZA.new2 (n:Nat):(n + 2:Nat) ≠ n + 3∧(n + 2:Nat) ≠ n∧(n + 2:Nat) ≠ n + 1:=⟨nn (by decide),(n0 (by decide)).symm,nn (by decide)⟩
section
variable {X:Cx} {io:List Nat} {p c:Bool} {a b:Expr} {mr:MAt}
noncomputable def Z2h (ds:List PyData):Option (List PyData):=match ds with | [.list as,.list bs]=>some (Zhy as bs) | [.tuple as,.tuple bs]=>some (Zhy as bs) | _=>none
noncomputable def Zdm (a:FA):FI:=fun δ=>(a δ).bind fun p=>(Z2h (OT.datas p.1)).bind fun ds=>some (ds,p.2)
end
end L2
namespace L2
open PySem PySem.Spec PyProof.Rows
section
variable {X:Cx} {e:Expr} {te:TE} {lo hi:Option Expr} {se:Expr} {tl th ts:TO} {pos p2:Pos}
end
section
variable {X:Cx} {io:List Nat} {p c:Bool} {a e:Expr} {ma:MEt} {lo hi:Option Expr} {se:Expr} {ml mh ms:MOt} {pos p2:Pos} {fa:FE}
end
end L2
namespace L2
open PySem PySem.Spec PyProof.Rows
section
variable {X:Cx} {io:List Nat} {c1 c2 c3 c4 p:Bool} {a b e d:Expr} {ma mb mc md:MEt} {pos:Pos} {f g h:Int→Int→Bool} {ta tb tc td:TE} {fa fb fc fd:FE} {G:PySem.W.Frag}
end
end L2
namespace L2
open PySem PySem.Spec PyProof.Rows
variable {G:PySem.W.Frag}
section
variable {X:Cx} {io:List Nat} {p c:Bool} {a b e:Expr} {mr:MAt} {ra:FA} {i:Nat}
noncomputable def isFn (y:Str) (d:PyData):Bool:=match d with | .dict [(.str x,.bool true)]=>decide (x = y) | _=>false
theorem Z0r {y:Str} {d:PyData} (h:isFn y d = true):d = fnD y:=by
 unfold isFn at h
 split at h
 ·rw [of_decide_eq_true h]; rfl
 ·cases h
theorem Zy1 (y:Str):isFn y (fnD y) = true:=decide_eq_true rfl
noncomputable def Zev (i:Nat) (y:Str) (F:FD) (a:FA):FE:=fun δ=>match δ[i]? with
 | some (some (.fz d))=>if isFn y d = true then Zt F a δ else none
 | _=>none
theorem Zos {y:Str} {F:FD} (h:ME X io p c e (Zx3 i y (sD F) (o2 ra))):ME X io p c e (o2 (Zev i y F ra)):=h.weak fun δ K h=>by
 obtain ⟨r,δ',h,k⟩:=h
 unfold Zev at h
 split at h
 ·rename_i d hd
  by_cases hf:isFn y d = true
  ·rw [if_pos hf] at h
   refine ⟨by rw [hd,Z0r hf],?_⟩
   obtain ⟨⟨x,δ1⟩,h1,h⟩:=bs h
   refine ⟨x,δ1,h1,?_⟩
   dsimp only at h
   split at h
   ·rename_i q; cases h; exact ⟨_,q,k⟩
   ·cases h
  ·rw [if_neg hf] at h; cases h
 ·cases h
end
noncomputable def Z8u:List Int→Int
 | []=>0
 | x :: xs=>xs.foldl min x
theorem Zt3 (xs:List Int) (x:Int):xs.foldl min x ∈ x :: xs∧∀ a ∈ x :: xs,xs.foldl min x ≤ a:=by
 induction xs generalizing x with
 | nil=>exact ⟨.head _,fun a h=>by rw [List.mem_singleton.mp h]; exact Int.le_refl _⟩
 | cons y ys ih =>
  obtain ⟨h1,h2⟩:=ih (min x y)
  rw [List.foldl_cons]
  refine ⟨?_,fun a h=>?_⟩
  ·rcases List.mem_cons.mp h1 with h | h
   ·rw [h]
    rcases Int.le_total x y with z | z
    ·rw [Int.min_eq_left z]; exact .head _
    ·rw [Int.min_eq_right z]; exact .tail _ (.head _)
   ·exact .tail _ (.tail _ h)
  ·have h0:=h2 _ (.head _)
   rcases List.mem_cons.mp h with rfl | h
   ·exact Int.le_trans h0 (Int.min_le_left ..)
   ·rcases List.mem_cons.mp h with rfl | h
    ·exact Int.le_trans h0 (Int.min_le_right ..)
    ·exact h2 a (.tail _ h)
theorem Zr3 {ns:List Int} (h:0 < ns.length):Z8u ns ∈ ns∧∀ a ∈ ns,Z8u ns ≤ a:=by
 cases ns with
 | nil=>cases h
 | cons x xs=>exact Zt3 xs x
noncomputable def Ybm (K:PySem.W.Frag) (l:Addr):It :=
 ⟨fun i H=>∃ xs x,SqL K H l xs∧xs[i]? = some x,
   fun i H v H'=>∃ p x,H p = none∧v = .ref p∧H' = upd H p (.tup [.int i,x])∧∀ xs,SqL K H l xs→xs[i]? = some x,
   fun i H=>∃ xs,SqL K H l xs∧xs.length ≤ i⟩
noncomputable def StE (z it l:Addr) (i:Nat) (h:Heap):Prop:=(∃ old,IsEnum h z it (i:Int) old)∧h.IsListIter it l i
theorem Ztf {P:Program} {w:World} {K:PySem.W.Frag} {es:List Expr} {kk:Nat} {pos:Pos} {z it l:Addr} (hne:z ≠ it):Turn P w K (.Tuple es kk pos) (Ybm K l) [z,it] z (StE z it l) where
 mem:=.head _
 obj:=fun i h st b hb=>by
  obtain ⟨⟨old,s1⟩,o4,e4,_,d4⟩:=st
  rcases List.mem_cons.mp hb with rfl | hb
  ·exact ⟨_,s1,fun v q=>by cases q⟩
  ·rcases List.mem_singleton.mp hb with rfl
   exact ⟨_,e4,fun v q=>by rw [d4] at q; cases q⟩
 keep:=fun i h h' st k=>by
  obtain ⟨⟨old,s1⟩,s4⟩:=st
  exact ⟨⟨old,k z (.head _) _ s1⟩,s4.at fun o e=>k it (.tail _ (.head _)) o e⟩
 item:=by
  intro X hP hw hK hc i pins s σ H E I hf st hg
  subst hP hw hK
  obtain ⟨⟨old,s1⟩,s4⟩:=st
  obtain ⟨xs,x,hx,ex⟩:=hg
  obtain ⟨its,rx,px,hzx⟩:=I.list hx
  obtain ⟨u,hu,ru⟩:=rx.get ex
  refine wpAny_pyNext_enum_item s1 s4 px.isList (by simpa using hu) hne fun h' g1 g2 g3 g4 g5=>?_
  refine ⟨_,rfl,wpAny_letOwnedTupleGo_enum (s:={ s with heap:=h',toks:=s.toks + 1 }) g1 fun h2 z2 sb=>?_⟩
  have hTz:s.heap.objs.size ≠ z:=Nat.ne_of_gt (Heap.lt_size s1)
  have up:∀ c o,c ≠ z→h'.get? c = some o→h2.get? c = some o:=fun c o n e=>(sb.2 c n).trans e
  have kp:∀ b o,b ∉ [z,it]→s.heap.get? b = some o→h2.get? b = some o:=fun b o n e=>by
   have n1:b ≠ z:=fun q=>n (q ▸ .head _)
   exact up b o n1 (g5 b o n1 (fun q=>n (q ▸ .tail _ (.head _))) e)
  have t5:=up _ _ hTz g3
  have g2':h2.IsListIter it l (i + 1):=g2.at fun o e=>up _ o (Ne.symm hne) e
  have I2:Inv X pins σ (upd H s.heap.objs.size (.tup [.int i,x])) { s with heap:=h2,toks:=s.toks + 1 }:=by
   refine (I.tok (s.toks + 1)).turnTup (ch:=[z,it]) (its:=[.int i s.toks,u]) (fun b hb=>hf b hb) kp (fun b hb=>?_) (Nat.le_refl _) Zyh (.cons ⟨_,rfl⟩ (.cons ru .nil)) ⟨_,t5,rfl,0,rfl⟩
   rcases List.mem_cons.mp hb with rfl | hb
   ·exact ⟨_,z2⟩
   ·rcases List.mem_singleton.mp hb with rfl
    obtain ⟨o4,e4,_⟩:=g2'
    exact ⟨_,e4⟩
  refine ⟨.ref s.heap.objs.size,_,I2,rfl,⟨_,x,I.fresh,rfl,rfl,fun ys hy=>by rw [I.list_inj hy hx]; exact ex⟩,⟨⟨_,z2⟩,g2'⟩,fun b hb=>?_⟩
  have:b ≠ s.heap.objs.size:=by
   rcases List.mem_cons.mp hb with rfl | hb
   ·exact Nat.ne_of_lt (Heap.lt_size s1)
   ·rcases List.mem_singleton.mp hb with rfl
    obtain ⟨o4,e4,_⟩:=s4
    exact Nat.ne_of_lt (Heap.lt_size e4)
  rw [Zy this]; exact (hf b hb).1
 done:=by
  intro X hP hw hK hc i pins s σ H E I hf st hg
  subst hP hw hK
  obtain ⟨⟨old,s1⟩,s4⟩:=st
  obtain ⟨xs,hx,he⟩:=hg
  obtain ⟨its,rx,px,hzx⟩:=I.list hx
  have l1:=rx.length
  refine wpAny_pyNext_enum_end (I.ok.hd hc) s1 s4 px.isList (by simp; omega) fun h' k=>⟨rfl,I.turnAll (ch:=[it]) (fun b hb=>hf b (.tail _ hb)) fun b o n e=>k b o (fun q=>n (q ▸ .head _)) e⟩
 self:=fun _ _ _ _ _ st h=>by
  obtain ⟨⟨old,s1⟩,_⟩:=st
  exact wpAny_pyIter_enum s1 h
noncomputable def Ydm (K:PySem.W.Frag) (ta:TA):TI:=fun σ H R=>ta σ H fun vs H1=>∃ l,vs = [.ref l]∧(∃ xs,SqL K H1 l xs)∧R (Ybm K l) H1
theorem Z0d {X:Cx} {K:PySem.W.Frag} {a:Expr} {ta:TA} {p pos pt:Pos} {es:List Expr} {kk:Nat} (hK:X.K = K) (hg:Gl X "enumerate") (hm:X.mg "enumerate" = none) (hv:bootBuiltins "enumerate" = some (.type "enumerate")) (ha:PA X [a] ta)
  (he:starEach [a] X.env = (false,eval a X.env) :: starEach [] X.env:=by rfl) (hpl:(backTo pos (starEach [] X.env)).any (·.1) = false:=by rfl) :
  PI X (.Tuple es kk pt) (.Call (.Name "enumerate" p) [a] [] pos) (Ydm K ta):=by
 subst hK
 intro pins s σ H R I h
 refine wpAny_Call_Name_kw (Zhq I hg hm hv ?_ (by decide) (by decide))
 refine PyProof.Rows.callWith_type1 (thn (ha pos pins s σ H _ I h) fun us s1 q=>?_) he hpl
 obtain ⟨vs,H1,I1,r1,l,e1,⟨xs,hx⟩,q⟩:=q
 subst e1
 obtain ⟨u,rfl,ru⟩:=vals1 r1
 cases (show u = Value.ref l from ru)
 obtain ⟨its,rx,px,hzx⟩:=I1.list hx
 refine call_enumerate_list px.isList fun h' g1 g2 g3 g4=>?_
 have I2:Inv X pins σ H1 { s1 with heap:=h' }:=I1.kept (t':=s1.toks) g4
 refine wpAny_pyIter_enum (s:={ s1 with heap:=h' }) g1 ?_
 refine ⟨_,[_,_],StE _ _ _,_,H1,rfl,I2,Ztf (Nat.ne_of_gt (Nat.lt_succ_self _)),⟨⟨_,g1⟩,g2⟩,fun b hb=>?_,q⟩
 have hb':s1.heap.objs.size ≤ b:=by
  rcases List.mem_cons.mp hb with rfl | hb
  ·exact Nat.le_succ _
  ·rcases List.mem_singleton.mp hb with rfl
   exact Nat.le_refl _
 exact I1.fpOk hb' (I1.hok.fresh hb')
noncomputable def Zi7 (as:List PyData):List PyData:=as.zipIdx.map fun p=>.tuple [.int p.2,p.1]
theorem Zkd {as:List PyData} {i:Nat} {d:PyData} (h:(Zi7 as)[i]? = some d):∃ x,as[i]? = some x∧d = .tuple [.int i,x]:=by
 unfold Zi7 at h
 rw [List.getElem?_map,List.getElem?_zipIdx] at h
 cases e:as[i]? with
 | none=>rw [e] at h; cases h
 | some x =>
  rw [e] at h
  cases h
  exact ⟨x,rfl,by rw [Nat.zero_add]⟩
theorem Zpb {as:List PyData} {i:Nat} (h:(Zi7 as)[i]? = none):as.length ≤ i:=by
 have:=List.getElem?_eq_none_iff.mp h
 unfold Zi7 at this
 simpa using this
section
variable {X:Cx} {io:List Nat} {p c:Bool} {a:Expr} {mr:MAt} {ra:FA}
noncomputable def iEn (mr:MAt):MIt:=fun δ K=>mr δ fun rs δ'=>match OT.datas rs with | [.list as]=>K (Zi7 as) δ' | _=>False
theorem Z0u {p' pos pt:Pos} {es:List Expr} {kk:Nat} (hg:Gl X "enumerate") (hm:X.mg "enumerate" = none) (hv:bootBuiltins "enumerate" = some (.type "enumerate")) (ha:MA X io p c [a] mr)
  (he:starEach [a] X.env = (false,eval a X.env) :: starEach [] X.env:=by rfl) (hpl:(backTo pos (starEach [] X.env)).any (·.1) = false:=by rfl):MI X io p c (.Tuple es kk pt) (.Call (.Name "enumerate" p') [a] [] pos) (iEn mr):=by
 obtain ⟨_,A,s⟩:=ha
 refine ⟨_,Z0d rfl hg hm hv A he hpl,fun C H σ δ fp ex K' Q R h kk=>s C H σ δ fp ex _ _ R h fun H1 vs rs δ1 fp1 new r1 h1=>?_⟩
 have q:=r1.das R
 generalize OT.datas rs = ds at q h1
 split at h1
 case h_2=>exact h1.elim
 rename_i as
 cases q with
 | cons q1 q2 =>
  cases q2
  have R1:=r1.base
  obtain ⟨l1,xs,rfl,k1⟩:=R1.keptList q1
  have e1:=k1 H1 fun _ _ e _=>e
  refine ⟨l1,rfl,⟨_,e1.1⟩,kk _ H1 _ δ1 fp1 R1 r1.stp (fun H' kp i=>?_) h1⟩
  obtain ⟨s1,d1⟩:=k1 H' kp
  refine ⟨fun d hd=>?_,fun hd=>?_⟩
  ·obtain ⟨x,hx,rfl⟩:=Zkd hd
   obtain ⟨u,hu,qu⟩:=d1.get hx
   refine ⟨⟨_,u,s1,hu⟩,fun v H'' hyl=>?_⟩
   obtain ⟨t,u',ht,rfl,rfl,hu'⟩:=hyl
   have eu:=hu' _ s1
   rw [hu] at eu
   cases eu
   exact ⟨Yc ht _,.tup Z7 (.cons (.int _) (.cons (qu.same (Yc ht _)) .nil))⟩
  ·exact ⟨_,s1,by rw [d1.length]; exact Zpb hd⟩
noncomputable def Zwo (a:FA):FI:=fun δ=>(a δ).bind fun p=>match OT.datas p.1 with | [.list as]=>some (Zi7 as,p.2) | _=>none
theorem Z09 {tg e:Expr} (h:MI X io p c tg e (iEn (o2 ra))):MI X io p c tg e (o2 (Zwo ra)):=h.weak fun δ K h=>by
 obtain ⟨r,δ',h,k⟩:=h
 obtain ⟨⟨x,δ1⟩,h1,h⟩:=bs h
 dsimp only at h
 split at h
 ·rename_i q
  injection h with h
  injection h with e1 e2
  subst e1 e2
  refine ⟨x,_,h1,?_⟩
  dsimp only
  rw [q]; exact k
 ·cases h
end
end L2
namespace L2
open PySem PySem.Spec PyProof.Rows
variable {G:PySem.W.Frag}
theorem Z5m {α:Type} {p:α→Prop} {a b c d:α} (h1:p a) (h2:p b) (h3:p c) (h4:p d):∀ x ∈ [a,b,c,d],p x:=by
 intro x hx
 rcases List.mem_cons.mp hx with rfl | hx
 ·exact h1
 rcases List.mem_cons.mp hx with rfl | hx
 ·exact h2
 rcases List.mem_cons.mp hx with rfl | hx
 ·exact h3
 rcases List.mem_singleton.mp hx with rfl
 exact h4
theorem Z7v {α:Type} {p:α→Prop} {a b c d e:α} (h1:p a) (h2:p b) (h3:p c) (h4:p d) (h5:p e):∀ x ∈ [a,b,c,d,e],p x:=fun x hx=>(List.mem_cons.mp hx).elim (fun q=>q ▸ h1) (Z5m h2 h3 h4 h5 x)
theorem no4 {α:Type} {a b c d x:α} (h1:x ≠ a) (h2:x ≠ b) (h3:x ≠ c) (h4:x ≠ d):x ∉ [a,b,c,d]:=fun hx=>Z5m (p:=fun y=>x ≠ y) h1 h2 h3 h4 x hx rfl
noncomputable def SqB (K:PySem.W.Frag) (t:Bool) (H:Hp) (a:Addr) (xs:List V):Prop:=match t with | true=>H a = some (.tup xs) | false=>SqL K H a xs
noncomputable def IsB (t:Bool) (h:Heap) (a:Addr) (its:Array Value):Prop:=match t with | true=>IsTup h a its | false=>h.IsList a its
noncomputable def ItB (t:Bool) (h:Heap) (it a:Addr) (i:Nat):Prop:=match t with | true=>IsTupIter h it a i | false=>h.IsListIter it a i
theorem ItB.at {t:Bool} {h h':Heap} {it a:Addr} {i:Nat} (x:ItB t h it a i) (k:∀ o,h.get? it = some o→h'.get? it = some o):ItB t h' it a i:=by
 cases t with
 | false=>exact Heap.IsListIter.at x k
 | true =>
  obtain ⟨o,ho,r⟩:=x
  exact ⟨o,k o ho,r⟩
theorem ItB.obj {t:Bool} {h:Heap} {it a:Addr} {i:Nat} (x:ItB t h it a i):∃ o,h.get? it = some o∧∀ v,o.data ≠ .cell v:=by
 cases t with
 | false =>
  obtain ⟨o,ho,_,d⟩:=x
  exact ⟨o,ho,fun v q=>by rw [d] at q; cases q⟩
 | true =>
  obtain ⟨o,ho,_,d⟩:=x
  exact ⟨o,ho,fun v q=>by rw [d] at q; cases q⟩
theorem IsB.lt {t:Bool} {h:Heap} {a:Addr} {its:Array Value} (x:IsB t h a its):a < h.objs.size:=by
 cases t with
 | false =>
  obtain ⟨o,ho,_⟩:=x
  exact Heap.lt_size ho
 | true =>
  obtain ⟨o,ho,_⟩:=x
  exact Heap.lt_size ho
theorem SqB.its {X:Cx} {pins:List (Addr × Obj)} {σ:St} {H:Hp} {s:Shared} {t:Bool} {a:Addr} {xs:List V} (I:Inv X pins σ H s) (h:SqB X.K t H a xs):∃ its:List Value,Vals xs its∧IsB t s.heap a its.toArray:=by
 cases t with
 | false =>
  obtain ⟨its,r,p,_⟩:=I.list h
  exact ⟨its,r,p.isList⟩
 | true =>
  obtain ⟨_,its,r,p⟩:=(show ObjOk X.prog X.w H s.heap a (.tup xs) from I.hok a _ h)
  exact ⟨its,r,p⟩
theorem SqB.inj {X:Cx} {pins:List (Addr × Obj)} {σ:St} {H:Hp} {s:Shared} {t:Bool} {a:Addr} {xs ys:List V} (I:Inv X pins σ H s) (h:SqB X.K t H a xs) (k:SqB X.K t H a ys):xs = ys:=by
 cases t with
 | false=>exact I.list_inj h k
 | true =>
  have:=(show H a = some (.tup xs) from h).symm.trans k
  cases this
  rfl
section
variable {P:Program} {w:World}
theorem Zs8 {t:Bool} {it a:Addr} {i:Nat} {items:Array Value} {x:Value} (hx:items[i]? = some x):Gives P w it [it,a] (fun h=>ItB t h it a i∧IsB t h a items) x (fun h=>ItB t h it a (i + 1)):=by
 cases t with
 | true=>exact Zrb hx
 | false =>
  exact ⟨.head _,fun st hQ=>wpAny_nextOf_list_item st.1 st.2 hx hQ,fun h h' k st=>⟨Heap.IsListIter.at st.1 fun o e=>k it (.head _) o e,by
   obtain ⟨o,ho,r⟩:=st.2
   exact ⟨o,k a (.tail _ (.head _)) o ho,r⟩⟩,fun h h' k st=>Heap.IsListIter.at st fun o e=>k it (.head _) o e⟩
theorem Z6l {t:Bool} {it a:Addr} {i:Nat} {items:Array Value} (hx:items[i]? = none):Ziq P w it [it,a] (fun h=>ItB t h it a i∧IsB t h a items):=by
 cases t with
 | true=>exact Zv2 hx
 | false =>
  exact ⟨.head _,fun hh st hE=>wpAny_nextOf_list_end hh st.1 st.2 hx hE,fun h h' k st=>⟨Heap.IsListIter.at st.1 fun o e=>k it (.head _) o e,by
   obtain ⟨o,ho,r⟩:=st.2
   exact ⟨o,k a (.tail _ (.head _)) o ho,r⟩⟩⟩
end
noncomputable def Yca (K:PySem.W.Frag) (t:Bool) (a b:Addr):It :=
 ⟨fun i H=>∃ xs ys x y,SqB K t H a xs∧SqB K t H b ys∧xs[i]? = some x∧ys[i]? = some y,
   fun i H v H'=>∃ p x y,H p = none∧v = .ref p∧H' = upd H p (.tup [x,y])∧(∀ xs,SqB K t H a xs→xs[i]? = some x)∧∀ ys,SqB K t H b ys→ys[i]? = some y,
   fun i H=>∃ xs ys,SqB K t H a xs∧SqB K t H b ys∧(xs.length ≤ i∨ys.length ≤ i)⟩
noncomputable def Ybi (t:Bool) (z TI TO i1 i2 a b:Addr) (i:Nat) (h:Heap):Prop:=IsZip h z TI TO .none∧IsPair h TI (.ref i1) (.ref i2)∧(∃ x y,IsPair h TO x y)∧ItB t h i1 a i∧ItB t h i2 b i
theorem Zqt {P:Program} {w:World} {K:PySem.W.Frag} {es:List Expr} {kk:Nat} {pos:Pos} {t:Bool} {z TI TO i1 i2 a b:Addr} (D:ZA z TI TO i1 i2 [i1,a] [i2,b]) (D2:TI ≠ TO∧TI ≠ i1∧TI ≠ i2):Turn P w K (.Tuple es kk pos) (Yca K t a b) [z,TI,TO,i1,i2] z (Ybi t z TI TO i1 i2 a b) where
 mem:=.head _
 obj:=fun i h st=>by
  obtain ⟨s1,s2,⟨x,y,s3⟩,s4,s5⟩:=st
  exact Z7v ⟨_,s1,fun v q=>by cases q⟩ ⟨_,s2,fun v q=>by cases q⟩ ⟨_,s3,fun v q=>by cases q⟩ s4.obj s5.obj
 keep:=fun i h h' st k=>by
  obtain ⟨s1,s2,⟨x,y,s3⟩,s4,s5⟩:=st
  have m2:TI ∈ [z,TI,TO,i1,i2]:=.tail _ (.head _)
  have m3:TO ∈ [z,TI,TO,i1,i2]:=.tail _ (.tail _ (.head _))
  have m4:i1 ∈ [z,TI,TO,i1,i2]:=.tail _ (.tail _ (.tail _ (.head _)))
  have m5:i2 ∈ [z,TI,TO,i1,i2]:=.tail _ (.tail _ (.tail _ (.tail _ (.head _))))
  exact ⟨k z (.head _) _ s1,k TI m2 _ s2,⟨x,y,k TO m3 _ s3⟩,s4.at (k i1 m4),s5.at (k i2 m5)⟩
 item:=by
  intro X hP hw hK hc i pins s σ H E I hf st hg
  subst hP hw hK
  obtain ⟨s1,s2,⟨x0,y0,s3⟩,s4,s5⟩:=st
  obtain ⟨xs,ys,x,y,hx,hy,ex,ey⟩:=hg
  obtain ⟨its,rx,px⟩:=hx.its I
  obtain ⟨its',ry,py⟩:=hy.its I
  obtain ⟨u,hu,ru⟩:=rx.get ex
  obtain ⟨u',hu',ru'⟩:=ry.get ey
  rw [← List.getElem?_toArray] at hu hu'
  refine Zpf D (Zs8 hu) (Zs8 hu') s1 s2 s3 ⟨s4,px⟩ ⟨s5,py⟩ fun h' g1 g2 g3 g4 g5 g6=>?_
  refine ⟨_,rfl,wpAny_letOwnedTupleGo_zip (s:={ s with heap:=h' }) g1 fun h2 z2 sb=>?_⟩
  have up:∀ c o,c ≠ z→h'.get? c = some o→h2.get? c = some o:=fun c o n e=>(sb.2 c n).trans e
  have kp:∀ c o,c ∉ [z,TO,i1,i2]→s.heap.get? c = some o→h2.get? c = some o:=fun c o n e=>up c o (fun q=>n (q ▸ .head _)) (g6 c o n e)
  have t5:IsPair h2 s.heap.objs.size u u':=up _ _ (Nat.ne_of_gt (Heap.lt_size s1)) g5
  have i1z:=(D.a1 i1 (.head _)).1
  have i2z:=(D.a2 i2 (.head _)).1
  have n3:=g3.at (up i1 · i1z)
  have n4:=g4.at (up i2 · i2z)
  obtain ⟨f1,f2,f3,f4,f5⟩:(Zi2 X pins H z∧Zi2 X pins H TI∧Zi2 X pins H TO∧Zi2 X pins H i1∧Zi2 X pins H i2):=⟨hf _ (.head _),hf _ (.tail _ (.head _)),hf _ (.tail _ (.tail _ (.head _))),hf _ (.tail _ (.tail _ (.tail _ (.head _)))),hf _ (.tail _ (.tail _ (.tail _ (.tail _ (.head _)))))⟩
  have I2:Inv X pins σ (upd H s.heap.objs.size (.tup [x,y])) { s with heap:=h2 } :=
   I.turnTup (ch:=[z,TO,i1,i2]) (its:=[u,u']) (Z5m f1 f3 f4 f5) kp (Z5m ⟨_,z2⟩ ⟨_,up _ _ D.TOz g2⟩ (n3.obj.imp fun _ q=>q.1) (n4.obj.imp fun _ q=>q.1)) (Nat.le_refl _) Zyh (.cons ru (.cons ru' .nil)) ⟨_,t5,rfl,0,rfl⟩
  have lt:∀ {c:Addr} {o:Obj},s.heap.get? c = some o→Zi2 X pins H c→upd H s.heap.objs.size (.tup [x,y]) c = none:=fun e f=>by rw [Zy (Nat.ne_of_lt (Heap.lt_size e))]; exact f.1
  refine ⟨.ref s.heap.objs.size,_,I2,rfl,⟨_,x,y,I.fresh,rfl,rfl,fun zs hz=>by rw [hz.inj I hx]; exact ex,fun zs hz=>by rw [hz.inj I hy]; exact ey⟩,⟨z2,kp TI _ (no4 D.TIz D2.1 D2.2.1 D2.2.2) s2,⟨_,_,up _ _ D.TOz g2⟩,n3,n4⟩,?_⟩
  obtain ⟨o4,e4,_⟩:=s4.obj
  obtain ⟨o5,e5,_⟩:=s5.obj
  exact Z7v (lt s1 f1) (lt s2 f2) (lt s3 f3) (lt e4 f4) (lt e5 f5)
 done:=by
  intro X hP hw hK hc i pins s σ H E I hf st hg
  subst hP hw hK
  obtain ⟨s1,s2,⟨x0,y0,s3⟩,s4,s5⟩:=st
  obtain ⟨xs,ys,hx,hy,he⟩:=hg
  obtain ⟨its,rx,px⟩:=hx.its I
  obtain ⟨its',ry,py⟩:=hy.its I
  have l1:=rx.length
  have l2:=ry.length
  refine Zr9 (I.ok.hd hc) D (S1:=fun h=>ItB t h i1 a i∧IsB t h a its.toArray) (T1:=fun h=>ItB t h i1 a (i + 1)) (S2:=fun h=>ItB t h i2 b i∧IsB t h b its'.toArray) ?_ s1 s2 s3 ⟨s4,px⟩ ⟨s5,py⟩ fun h' k=>⟨rfl,I.turnAll (ch:=[z,TO,i1,i2]) (Z5m (hf _ (.head _)) (hf _ (.tail _ (.tail _ (.head _)))) (hf _ (.tail _ (.tail _ (.tail _ (.head _))))) (hf _ (.tail _ (.tail _ (.tail _ (.tail _ (.head _))))))) k⟩
  cases q:its.toArray[i]? with
  | none=>exact .inl (Z6l q)
  | some v =>
   refine .inr ⟨⟨v,Zs8 q⟩,Z6l ?_⟩
   have:=(Array.getElem?_eq_some_iff.mp q).1
   rw [List.size_toArray] at this
   rw [Array.getElem?_eq_none_iff,List.size_toArray]
   omega
 self:=fun _ _ _ _ _ st h=>wpAny_pyIter_zip st.1 h
theorem Ztj {P:Program} {w:World} {A:Around} {E:Value→Shared→Prop} {s:Shared} {t:Bool} {a b:Addr} {xs ys:Array Value} {Q:Value→Shared→Prop} (h1:IsB t s.heap a xs) (h2:IsB t s.heap b ys)
  (h:∀ h' n,n = s.heap.objs.size→IsZip h' (n + 4) (n + 2) (n + 3) .none→IsPair h' (n + 2) (.ref n) (.ref (n + 1))→IsPair h' (n + 3) .none .none→ItB t h' n a 0→ItB t h' (n + 1) b 0 →
   (∀ c o,s.heap.get? c = some o→h'.get? c = some o)→Q (.ref (n + 4)) { s with heap:=h' }):wpAny (model P w) A (call (.type "zip") [.ref a,.ref b]) Q E s:=by
 cases t with
 | true=>exact Zt9 h1 h2 h
 | false=>exact call_zip_2 h1 h2 fun h' g1 g2 g3 g4 g5 _ g7=>h h' _ rfl g1 g2 g3 g4 g5 g7
noncomputable def Z82 (K:PySem.W.Frag) (ta:TA):TI:=fun σ H R=>ta σ H fun vs H1=>∃ t a b,vs = [.ref a,.ref b]∧(∃ xs,SqB K t H1 a xs)∧(∃ ys,SqB K t H1 b ys)∧R (Yca K t a b) H1
theorem Z06 {X:Cx} {K:PySem.W.Frag} {a b:Expr} {ta:TA} {p pos pt:Pos} {es:List Expr} {kk:Nat} (hK:X.K = K) (hg:Gl X "zip") (hm:X.mg "zip" = none) (hv:bootBuiltins "zip" = some (.type "zip")) (ha:PA X [a,b] ta)
  (he:starEach [a,b] X.env = (false,eval a X.env) :: starEach [b] X.env:=by rfl) (hpl:(backTo pos (starEach [b] X.env)).any (·.1) = false:=by rfl) :
  PI X (.Tuple es kk pt) (.Call (.Name "zip" p) [a,b] [] pos) (Z82 K ta):=by
 subst hK
 intro pins s σ H R I h
 refine wpAny_Call_Name_kw (Zhq I hg hm hv ?_ (by decide) (by decide))
 refine PyProof.Rows.callWith_type1 (thn (ha pos pins s σ H _ I h) fun us s1 q=>?_) he hpl
 obtain ⟨vs,H1,I1,r1,t,l1,l2,e1,⟨xs,hx⟩,⟨ys,hy⟩,q⟩:=q
 subst e1
 obtain ⟨u,u',rfl,ru,ru'⟩:=vals2 r1
 cases (show u = Value.ref l1 from ru)
 cases (show u' = Value.ref l2 from ru')
 obtain ⟨its,rx,px⟩:=hx.its I1
 obtain ⟨its',ry,py⟩:=hy.its I1
 refine Ztj px py fun h' n en g1 g2 g3 g4 g5 g7=>?_
 have I2:Inv X pins σ H1 { s1 with heap:=h' }:=I1.kept (t':=s1.toks) g7
 refine wpAny_pyIter_zip (s:={ s1 with heap:=h' }) g1 ?_
 refine ⟨_,[_,_,_,_,_],Ybi _ _ _ _ _ _ _ _,_,H1,rfl,I2,Zqt (ZA.new (en ▸ px.lt) (en ▸ py.lt)) (ZA.new2 n),⟨g1,g2,⟨_,_,g3⟩,g4,g5⟩,?_,q⟩
 subst en
 have ok:∀ k:Nat,Zi2 X pins H1 (s1.heap.objs.size + k):=fun k=>I1.fpOk (Nat.le_add_right _ _) (I1.hok.fresh (Nat.le_add_right _ _))
 exact Z7v (ok 4) (ok 2) (ok 3) (ok 0) (ok 1)
section
variable {X:Cx} {io:List Nat} {p c:Bool} {a b:Expr} {mr:MAt} {ra:FA}
noncomputable def Z6y (t:Bool) (as:List PyData):PyData:=match t with | true=>.tuple as | false=>.list as
theorem Rel.keptSq {C:MC G} {H:Hp} {σ:St} {δ:Zh} {fp:Fp} {ex:Addr→Prop} {v:V} {t:Bool} {ds:List PyData} (R:Rel C io H σ δ fp ex) (q:Da G H (fun a=>c = true→Lf C fp ex a) v (Z6y t ds)) :
  ∃ a xs,v = .ref a∧∀ H':Hp,(∀ b o,H b = some o→(c = false∨¬ Foot fp b)→H' b = some o)→SqB G t H' a xs∧Das G H' (fun a=>c = true→(Lf C fp ex a∧H a ≠ none)) xs ds:=by
 cases t with
 | false=>exact R.keptList q
 | true =>
  generalize hd:Z6y true ds = d at q
  cases q with
  | tup e r =>
   cases hd
   rename_i a0 xs0
   refine ⟨a0,xs0,rfl,fun H' kp=>?_⟩
   obtain ⟨f1,f2⟩:=R.kept kp
   exact ⟨f2 _ (.tup _) e,r.frame f1 f2⟩
  | _=>cases hd
theorem Zwx {ds es:List PyData} (h:Z2h ds = some es):∃ t as bs,ds = [Z6y t as,Z6y t bs]∧es = Zhy as bs:=by
 unfold Z2h at h
 split at h
 ·cases h; exact ⟨false,_,_,rfl,rfl⟩
 ·cases h; exact ⟨true,_,_,rfl,rfl⟩
 ·cases h
noncomputable def iZB (mr:MAt):MIt:=fun δ K=>mr δ fun rs δ'=>∃ es,Z2h (OT.datas rs) = some es∧K es δ'
theorem Zft {p' pos pt:Pos} {es:List Expr} {kk:Nat} (hg:Gl X "zip") (hm:X.mg "zip" = none) (hv:bootBuiltins "zip" = some (.type "zip")) (ha:MA X io p c [a,b] mr)
  (he:starEach [a,b] X.env = (false,eval a X.env) :: starEach [b] X.env:=by rfl) (hpl:(backTo pos (starEach [b] X.env)).any (·.1) = false:=by rfl):MI X io p c (.Tuple es kk pt) (.Call (.Name "zip" p') [a,b] [] pos) (iZB mr):=by
 obtain ⟨_,A,s⟩:=ha
 refine ⟨_,Z06 rfl hg hm hv A he hpl,fun C H σ δ fp ex K' Q R h kk=>s C H σ δ fp ex _ _ R h fun H1 vs rs δ1 fp1 new r1 h1=>?_⟩
 have q:=r1.das R
 obtain ⟨es,hz,h1⟩:=h1
 obtain ⟨t,as,bs,e,rfl⟩:=Zwx hz
 rw [e] at q
 cases q with
 | cons q1 q2 =>
  cases q2 with
  | cons q2 q3 =>
   cases q3
   have R1:=r1.base
   obtain ⟨l1,xs,rfl,k1⟩:=R1.keptSq q1
   obtain ⟨l2,ys,rfl,k2⟩:=R1.keptSq q2
   refine ⟨t,l1,l2,rfl,⟨_,(k1 H1 fun _ _ e _=>e).1⟩,⟨_,(k2 H1 fun _ _ e _=>e).1⟩,kk _ H1 _ δ1 fp1 R1 r1.stp (fun H' kp i=>?_) h1⟩
   obtain ⟨s1,d1⟩:=k1 H' kp
   obtain ⟨s2,d2⟩:=k2 H' kp
   refine ⟨fun d hd=>?_,fun hd=>⟨_,_,s1,s2,by rw [d1.length,d2.length]; exact Zqn hd⟩⟩
   obtain ⟨x,y,hx,hy,rfl⟩:=Zn7 hd
   obtain ⟨u,hu,qu⟩:=d1.get hx
   obtain ⟨w,hw,qw⟩:=d2.get hy
   refine ⟨⟨_,_,u,w,s1,s2,hu,hw⟩,fun v H'' hyl=>?_⟩
   obtain ⟨t',u',w',ht,rfl,rfl,hu',hw'⟩:=hyl
   cases hu.symm.trans (hu' _ s1)
   cases hw.symm.trans (hw' _ s2)
   exact ⟨Yc ht _,.tup Z7 (.cons (qu.same (Yc ht _)) (.cons (qw.same (Yc ht _)) .nil))⟩
theorem Ze7 {tg e:Expr} (g:MI X io p c tg e (iZB (o2 ra))):MI X io p c tg e (o2 (Zdm ra)):=g.weak fun δ K h=>by
 obtain ⟨r,δ',h,k⟩:=h
 obtain ⟨⟨x,δ1⟩,h1,h⟩:=bs h
 obtain ⟨ds,h2,h⟩:=bs h
 cases h
 exact ⟨x,_,h1,_,h2,k⟩
end
end L2
namespace L2
open PySem PySem.Spec PyProof.Rows PySem.W
noncomputable def kEv {α:Type} (lt:Nat→Nat→Bool):KasT α→α
 | .ret a=>a
 | .ask i j k=>kEv lt (k (lt i j))
noncomputable def kGood {α:Type} (n:Nat) (P:α→Prop):KasT α→Prop
 | .ret a=>P a
 | .ask i j k=>i < n∧j < n∧∀ b,kGood n P (k b)
theorem kGood.bind {α β:Type} {n:Nat} {P:α→Prop} {R:β→Prop} {f:α→KasT β} (hf:∀ a,P a→kGood n R (f a)) {t:KasT α} (h:kGood n P t):kGood n R (t.bind f):=by
 induction t with
 | ret a=>exact hf a h
 | ask i j k ih=>exact ⟨h.1,h.2.1,fun b=>ih b (h.2.2 b)⟩
theorem kGood.ev {α:Type} {n:Nat} {P:α→Prop} {lt:Nat→Nat→Bool} {t:KasT α} (h:kGood n P t):P (kEv lt t):=by
 induction t with
 | ret a=>exact h
 | ask i j k ih=>exact ih _ (h.2.2 _)
theorem kGood.wp {α:Type} {n:Nat} {P:α→Prop} {lt:Nat→Nat→Bool} {cmp:Nat→Nat→(Bool→Shared→Prop)→Shared→Prop} {s:Shared} {Q:α→Shared→Prop} (hc:∀ i j C,i < n→j < n→C (lt i j) s→cmp i j C s) {t:KasT α} (h:kGood n P t) (q:Q (kEv lt t) s):t.kasWp cmp Q s:=by
 induction t with
 | ret a=>exact q
 | ask i j k ih=>exact hc i j _ h.1 h.2.1 (ih _ (h.2.2 _) q)
noncomputable def kP (n:Nat) (p:Array Nat):Prop:=p.toList.Perm (List.range n)
theorem kP.at {n:Nat} {p:Array Nat} (h:kP n p) (h0:0 < n) (i:Nat):p.getD i 0 < n:=by
 by_cases c:i < p.size
 ·have e:p.getD i 0 = p[i]:=by simp [Array.getD,c]
  rw [e]
  exact List.mem_range.mp (h.mem_iff.mp (Array.getElem_mem_toList c))
 ·have e:p.getD i 0 = 0:=by simp [Array.getD,c]
  rw [e]; exact h0
theorem kP.rev {n:Nat} {p:Array Nat} (h:kP n p) (i j:Nat):kP n (kas_rev p i j):=(Array.perm_iff_toList_perm.mp (mirror_perm p i j _)).trans h
theorem kP.bub {n:Nat} {p:Array Nat} (h:kP n p) (i j:Nat):kP n (bubble p i j):=(Array.perm_iff_toList_perm.mp (bubble_perm p i j)).trans h
theorem Zn5 {n:Nat} {p:Array Nat} (h:kP n p) (h0:0 < n) (f m:Nat):kGood n (fun _=>True) (kas_asc p f m):=by
 induction f generalizing m with
 | zero=>exact trivial
 | succ f ih =>
  refine ⟨h.at h0 _,h.at h0 _,fun b=>?_⟩
  cases b
  ·exact ih _
  ·exact trivial
theorem Zrs {n:Nat} (h0:0 < n) (f:Nat) {p:Array Nat} (h:kP n p) (m q:Nat):kGood n (fun r:Array Nat × Nat × Nat=>kP n r.1) (kas_desc f p m q):=by
 induction f generalizing p m q with
 | zero=>exact h
 | succ f ih =>
  refine ⟨h.at h0 _,h.at h0 _,fun b=>?_⟩
  cases b
  ·refine ⟨h.at h0 _,h.at h0 _,fun b=>?_⟩
   cases b
   ·exact ih h _ _
   ·exact h
  ·show kGood n _ (if q > 0 then _ else _)
   split
   ·exact ih (h.rev _ _) _ _
   ·exact ih h _ _
theorem Zj7 {n:Nat} {p:Array Nat} (h:kP n p) (h0:0 < n) (m r:Nat):kGood n (fun r:Nat × Array Nat=>kP n r.2) (kas_tail3 m r p):=by
 refine kGood.bind (P:=fun _=>True) (fun a _=>?_) (Zn5 (h.rev _ _) h0 _ _)
 exact h.rev _ _
theorem Zey {n:Nat} {p:Array Nat} (h:kP n p) (h0:0 < n) (m r:Nat):kGood n (fun r:Nat × Array Nat=>kP n r.2) (kas_descPart m r p) :=
 (Zrs h0 _ h _ _).bind fun x hx=>by
  show kGood n _ (if x.2.2 > 0 then _ else _)
  split
  ·exact Zj7 (hx.rev _ _) h0 _ _
  ·exact Zj7 hx h0 _ _
theorem Zpy {n:Nat} {p:Array Nat} (h:kP n p) (h0:0 < n) (r:Nat):kGood n (fun r:Nat × Array Nat=>kP n r.2) (kas_count r p) :=
 (Zn5 h h0 _ _).bind fun m _=>by
  show kGood n _ (if (m == r) = true then _ else if m > 1 then _ else _)
  split
  ·exact h
  ·split
   ·refine ⟨h.at h0 _,h.at h0 _,fun b=>?_⟩
    cases b
    ·exact Zey (h.rev _ _) h0 _ _
    ·exact h
   ·exact Zey h h0 _ _
theorem Zpr {n:Nat} {p:Array Nat} (h:kP n p) (h0:0 < n) (k f l r:Nat):kGood n (fun _=>True) (kas_place p k f l r):=by
 induction f generalizing l r with
 | zero=>exact trivial
 | succ f ih =>
  show kGood n _ (if l ≥ r then _ else _)
  split
  ·exact trivial
  ·refine ⟨h.at h0 _,h.at h0 _,fun b=>?_⟩
   cases b
   ·exact ih _ _
   ·exact ih _ _
theorem Zwh {n:Nat} (h0:0 < n) (f:Nat) {p:Array Nat} (h:kP n p) (k:Nat):kGood n (kP n) (kas_bin f p k):=by
 induction f generalizing p k with
 | zero=>exact h
 | succ f ih=>exact (Zpr h h0 _ _ _ _).bind fun l _=>ih (h.bub _ _) _
theorem Zl0 {n:Nat} (h0:0 < n):kGood n (kP n) (kas_sort n) :=
 (Zpy (p:=List.toArray (List.range n)) (.refl _) h0 n).bind fun r hr=>by
  show kGood n _ (if r.1 < n then _ else _)
  split
  ·exact Zwh h0 _ hr _
  ·exact hr
noncomputable def Z2i (lt:Nat→Nat→Bool) (n:Nat):List Nat:=(kEv lt (kas_sort n)).toList
theorem Zl1 {lt:Nat→Nat→Bool} {n:Nat} (h0:0 < n):(Z2i lt n).Perm (List.range n):=(Zl0 h0).ev (P:=kP n)
end L2
namespace L2
open PySem PySem.Spec PyProof.Rows PySem.W PySem.SeqAt
open AutoSeq1 (wpAny_loadPart')
open MeetsSeq MeetsSeq2 MeetsSeq3 SeqRoads2
noncomputable def ltI:List Int→List Int→Bool
 | [],[]=>false
 | [],_ :: _=>true
 | _ :: _,[]=>false
 | x :: xs,y :: ys=>if x = y then ltI xs ys else decide (x < y)
theorem Zxy {vs:List Value} {ns:List Int} (h:IntsAre vs ns) (i:Nat) (hi:i < vs.length):∃ x t,vs[i]? = some (.int x t)∧ns.drop i = x :: ns.drop (i + 1):=by
 induction h generalizing i with
 | nil=>exact absurd hi (Nat.not_lt_zero i)
 | cons n t h ih =>
  cases i with
  | zero=>exact ⟨n,t,rfl,rfl⟩
  | succ i=>exact ih i (Nat.lt_of_succ_lt_succ hi)
theorem Zns {vs:List Value} {ns:List Int} (h:IntsAre vs ns):vs.length = ns.length:=by
 induction h with
 | nil=>rfl
 | cons n t h ih=>exact congrArg Nat.succ ih
theorem Zte {xs ys:List Int} (h:xs = []∨ys = []):ltI xs ys = decide (xs.length < ys.length):=by
 cases xs <;> cases ys <;> first | rfl | (rcases h with h | h <;> cases h) | exact (decide_eq_true (Nat.succ_pos _)).symm
theorem Zrq (l b:Addr) (items items2:Array Value) (n n2:Nat) (dd dd2:Option Addr) (sl sl2:Array (Option Value)) {xs ys:List Int} (h1:IntsAre items.toList xs) (h2:IntsAre items2.toList ys) (k:Nat) :
  ∀ i:Nat,items.size - i = k→i ≤ items.size→i ≤ items2.size→Meets (Builtin.«list.__eq__.loop» ⟨[.ref l,.ref b,rawInt i,rawInt 0],[]⟩)
   (fun A R s=>s.heap.get? l = some { cls:=.type "list", dict:=dd,data:=.seq items n,slots:=sl }∧s.heap.get? b = some { cls:=.type "list", dict:=dd2,data:=.seq items2 n2,slots:=sl2 } ∧
    R (.ok (.ret (.bool (ltI (xs.drop i) (ys.drop i))))) s):=by
 have e1:items.size = xs.length:=Zns h1
 have e2:items2.size = ys.length:=Zns h2
 have fin:∀ i,i ≤ items.size→i ≤ items2.size→(i = items.size∨i = items2.size)→ltI (xs.drop i) (ys.drop i) = decide (items.size < items2.size):=fun i u1 u2 c=>by
  rw [Zte (c.imp (fun c=>List.drop_eq_nil_of_le (by omega)) fun c=>List.drop_eq_nil_of_le (by omega)),List.length_drop,List.length_drop]
  exact decide_eq_decide.mpr (by omega)
 induction k with
 | zero =>
  intro i hk u1 u2 prog w A R s h
  obtain ⟨hp,g,d,tk,os⟩:=s; obtain ⟨hl,hb,h⟩:=h
  wp_walk using wpAny_loadPart' hl,wpAny_loadPart' hb
  have hi1:items[((i:Nat):Int).toNat]? = none:=by simp; omega
  rw [fin i u1 u2 (.inl (by omega))] at h
  rw [hi1]
  wp_walk using wpAny_loadPart' hl,wpAny_loadPart' hb
  exact h
 | succ k ih =>
  intro i hk u1 u2 prog w A R s h
  obtain ⟨hp,g,d,tk,os⟩:=s; obtain ⟨hl,hb,h⟩:=h
  have hlt:i < items.size:=by omega
  obtain ⟨x,t,q1,q2⟩:=Zxy h1 i hlt
  have hi1:items[((i:Nat):Int).toNat]? = some (.int x t):=by rw [Int.toNat_natCast,← q1,Array.getElem?_toList]
  wp_walk using wpAny_loadPart' hl,wpAny_loadPart' hb
  by_cases c:i < items2.size
  ·obtain ⟨y,u,q3,q4⟩:=Zxy h2 i c
   have hi2:items2[((i:Nat):Int).toNat]? = some (.int y u):=by rw [Int.toNat_natCast,← q3,Array.getElem?_toList]
   have hc:((i:Int) + 1) = ((i + 1:Nat):Int):=by push_cast; rfl
   rw [q2,q4] at h
   unfold ltI at h
   rw [hi1,hi2]
   refine wpAny_bind (EqAt.int_int x t y u prog w _ _ ?_)
   by_cases cx:x = y
   ·rw [if_pos cx] at h
    rw [beq_iff_eq.mpr cx]
    wp_walk
    rw [hc]
    exact ⟨plainId_quiet plain_eq_loop _,codeAny_builtin entry_eq_loop (by
     rw [Around.under_plainId plain_eq_loop _]
     exact ih (i + 1) (by omega) (by omega) (by omega) prog w A R _ ⟨hl,hb,h⟩)⟩
   ·rw [if_neg cx] at h
    rw [beq_eq_false_iff_ne.mpr cx]
    wp_walk using wpAny_loadPart' hl,wpAny_loadPart' hb
    rw [hi1,hi2]
    refine wpAny_bind (lt_int ?_)
    wp_walk
    exact h
  ·have hi2:items2[((i:Nat):Int).toNat]? = none:=by simp; omega
   rw [fin i u1 u2 (.inr (by omega))] at h
   rw [hi1,hi2]
   wp_walk using wpAny_loadPart' hl,wpAny_loadPart' hb
   exact h
theorem Zqq (l b:Addr) (items items2:Array Value) (n n2:Nat) (dd dd2:Option Addr) (sl sl2:Array (Option Value)) {xs ys:List Int} (h1:IntsAre items.toList xs) (h2:IntsAre items2.toList ys) :
  Meets (Builtin.«list.__lt__» ⟨[.ref l,.ref b],[]⟩)
   (fun A R s=>s.heap.get? l = some { cls:=.type "list", dict:=dd,data:=.seq items n,slots:=sl }∧s.heap.get? b = some { cls:=.type "list", dict:=dd2,data:=.seq items2 n2,slots:=sl2 } ∧
    R (.ok (.ret (.bool (ltI xs ys)))) s):=by
 intro prog w A R s h
 obtain ⟨hp,g,d,tk,os⟩:=s; obtain ⟨hl,hb,h⟩:=h
 have f3:=AutoSeq1.sub_list_list
 wp_walk using wpAny_loadPart' hl,wpAny_loadPart' hb
 exact ⟨plainId_quiet plain_eq_loop _,codeAny_builtin entry_eq_loop (by
  rw [Around.under_plainId plain_eq_loop _]
  exact Zrq l b items items2 n n2 dd dd2 sl sl2 h1 h2 _ 0 rfl (Nat.zero_le _) (Nat.zero_le _) prog w A R _ ⟨hl,hb,h⟩)⟩
section
variable {prog:Program} {w:World} {A:Around} {E:Value→Shared→Prop} {s:Shared}
theorem Zo7 {l b:Addr} {items items2:Array Value} {xs ys:List Int} {Q:Bool→Shared→Prop} (hu:A.units < cLine) (hl:s.heap.IsList l items) (hb:s.heap.IsList b items2) (h1:IntsAre items.toList xs) (h2:IntsAre items2.toList ys) (h:Q (ltI xs ys) s) :
  wpAny (model prog w) A (oneLt' true (.ref l) (.ref b)) Q E s:=by
 obtain ⟨⟨cls,dd,data,sl⟩,hl,hc,n,hd⟩:=hl
 obtain ⟨⟨cls2,dd2,data2,sl2⟩,hb,hc2,n2,hd2⟩:=hb
 simp only at hc hd hc2 hd2
 subst hc hd hc2 hd2
 rw [oneLt'_eq]
 simp only [if_true]
 refine wpAny_bind (wpAny_cRoomFor hu ?_)
 refine wpAny_bind (wpAny_callSpecialIfBound?_slot ⟨_,hl,rfl⟩ F.slot_list_lt (call_meets F.slot_list_lt ⟨_,hl,rfl⟩ F.entry_list_lt (F.args_list_lt_2 _ _) (Zqq l b items items2 n n2 dd dd2 sl sl2 h1 h2) ⟨hl,hb,?_⟩))
 exact wpAny_truthy_bool h
end
section
variable {prog:Program} {w:World} {A:Around} {E:Value→Shared→Prop} {s:Shared}
end
end L2
namespace L2
open PySem PySem.Spec PyProof.Rows PySem.W
noncomputable def sLay {α:Type} (d:α) (lt:Nat→Nat→Bool) (vs:List α):List α:=if vs.length < 2 then vs else (Z2i lt vs.length).map fun i=>vs.getD i d
theorem Zpe {α:Type} (d:α) (vs:List α):((List.range vs.length).map fun i=>vs.getD i d) = vs:=by
 refine List.ext_getElem? fun i=>?_
 rw [List.getElem?_map]
 by_cases c:i < vs.length
 ·rw [List.getElem?_range c,List.getElem?_eq_getElem c]
  show some (vs.getD i d) = _
  rw [List.getD_eq_getElem?_getD,List.getElem?_eq_getElem c]; rfl
 ·rw [List.getElem?_eq_none (by rw [List.length_range]; omega),List.getElem?_eq_none (by omega)]; rfl
theorem Zhe {α:Type} (d:α) (lt:Nat→Nat→Bool) (vs:List α):(sLay d lt vs).Perm vs:=by
 unfold sLay
 split
 ·exact .refl _
 ·have:=(Zl1 (lt:=lt) (n:=vs.length) (by omega)).map fun i=>vs.getD i d
  rwa [Zpe] at this
theorem Zra {lt:Nat→Nat→Bool} {xs:List V} {us:List Value} (h:Vals xs us):Vals (sLay .non lt xs) (sLay .none lt us):=by
 unfold sLay
 rw [h.length]
 split
 ·exact h
 ·generalize Z2i lt _ = l
  induction l with
  | nil=>exact .nil
  | cons i l ih =>
   refine .cons ?_ ih
   show RelV (xs.getD i V.non) (us.getD i Value.none)
   rw [List.getD_eq_getElem?_getD,List.getD_eq_getElem?_getD]
   cases e:xs[i]? with
   | some x =>
    obtain ⟨u,e',r⟩:=h.get e
    rw [e']; exact r
   | none =>
    have:us[i]? = none:=List.getElem?_eq_none (by rw [← h.length]; exact List.getElem?_eq_none_iff.mp e)
    rw [this]; exact rfl
section
variable {prog:Program} {w:World} {A:Around} {E:Value→Shared→Prop} {s:Shared}
theorem Zpa {κ:SortKind} {lt:Nat→Nat→Bool} {h0:Heap} {a:Addr} {vs:List Value} {n:Nat} {P:PySem.Fin→Shared→Prop} (ho:s.heap.get? a = some (seqObj "list" vs.toArray n))
  (k0:∀ b o,h0.get? b = some o→s.heap.get? b = some o) (ha0:h0.get? a = none) (h64:vs.length < 64)
  (hk:2 ≤ vs.length→∀ s':Shared,(∀ b o,h0.get? b = some o→s'.heap.get? b = some o)→∀ Q:SortKind→Shared→Prop,Q κ s'→wpAny (model prog w) A (keyKind' vs.toArray) Q E s')
  (hc:2 ≤ vs.length→∀ s':Shared,(∀ b o,h0.get? b = some o→s'.heap.get? b = some o)→∀ i j C,i < vs.length→j < vs.length→C (lt i j) s'→kas_ask prog w A κ vs i j C s')
  (h:P (.done (.ret .none)) { s with heap:=sortedHeap s.heap a vs (List.toArray (sLay Value.none lt vs)) }):wpAny (model prog w) A (Builtin.«list.sort» ⟨[.ref a],[]⟩) P E s:=by
 have ha:a < s.heap.objs.size:=Heap.lt_size ho
 obtain ⟨e1,ho1⟩:∃ e1,(s.heap.update a (Obj.mapSeq fun _=>(#[]:Array Value))).get? a = some (seqObj "list" #[] e1):=⟨_,get?_update_seq ho fun _=>#[]⟩
 have ho6:(((s.heap.update a (Obj.mapSeq fun _=>(#[]:Array Value))).push (seqObj "tuple" vs.toArray 0)).push (seqObj "list" #[] 0)).get? a = some (seqObj "list" #[] e1):=Heap.get?_push_of_some _ (Heap.get?_push_of_some _ ho1)
 have k6:∀ b o,h0.get? b = some o→(((s.heap.update a (Obj.mapSeq fun _=>(#[]:Array Value))).push (seqObj "tuple" vs.toArray 0)).push (seqObj "list" #[] 0)).get? b = some o:=fun b o e=>by
  refine Heap.get?_push_of_some _ (Heap.get?_push_of_some _ ?_)
  rw [Heap.get?_update_ne _ _ _ _ (fun q=>by rw [q,ha0] at e; cases e)]
  exact k0 b o e
 rw [list_sort_plain]
 refine wpAny_bind (listItems_at ho rfl ?_)
 refine wpAny_bind (listUpdate_at ho rfl ?_ (by rw [List.size_toArray,sizeLine_eq]; omega) (Nat.zero_le _))
 refine wpAny_bind (seqEpoch_at ho1 rfl ?_)
 refine wpAny_bind (wpAny_newTuple ?_ (by show vs.length ≤ _; rw [sizeLine_eq]; omega))
 refine wpAny_bind (wpAny_newList ?_ (Nat.zero_le _))
 refine wpAny_holding ?_
 show wpAny (model prog w) A _ P E { s with heap:=((s.heap.update a (Obj.mapSeq fun _=>(#[]:Array Value))).push (seqObj "tuple" vs.toArray 0)).push (seqObj "list" #[] 0) }
 dsimp only
 have hs:vs.toArray.size = vs.length:=List.size_toArray ..
 by_cases h2:vs.toArray.size < 2
 ·have el:sLay Value.none lt vs = vs:=if_pos (hs ▸ h2)
  rw [el] at h
  rw [if_pos h2,if_pos h2]
  refine wpAny_bind (wpAny_pure ?_)
  rw [StateT.run_pure]
  refine wpAny_bind (wpAny_pure ?_)
  dsimp only
  refine wpAny_bind (seqEpoch_at ho6 rfl ?_)
  have ez:((vs.toArray.zip vs.toArray).map (·.2)) = vs.toArray:=by
   apply Array.toList_inj.mp
   rw [Array.toList_map,Array.toList_zip,List.map_snd_zip (Nat.le_refl _)]
  show wpAny _ _ (Builtin.List.listUpdate _ (fun _=>(vs.toArray.zip vs.toArray).map (·.2)) >>= _) _ _ _
  rw [ez]
  refine wpAny_bind (listUpdate_at ho6 rfl ?_ (Nat.zero_le _) (by rw [hs,sizeLine_eq]; omega))
  simp only [bne_self_eq_false,Bool.false_eq_true,if_false]
  exact wpAny_pure h
 ·rw [if_neg h2,if_neg h2]
  have h2':2 ≤ vs.length:=by omega
  have el:sLay Value.none lt vs = (Z2i lt vs.length).map fun i=>vs.getD i Value.none:=if_neg (by omega)
  rw [el] at h
  refine wpAny_bind (hk h2' _ k6 _ ?_)
  have est:SortSt.mk' κ (vs.toArray.zip vs.toArray) #[] 7 none = kas_st κ (pairsOf vs) (List.toArray (List.range vs.length)):=by
   have e:=kas_range (pairsOf vs)
   rw [pairsOf_size] at e
   show SortSt.mk' κ (pairsOf vs) #[] 7 none = SortSt.mk' κ ((List.toArray (List.range vs.length)).map (kas_item (pairsOf vs))) #[] 7 none
   rw [e]
  have run:=kas_runs (prog:=prog) (w:=w) (A:=A) (κ:=κ) (it:=pairsOf vs) (E:=E) (s:={ s with heap:=((s.heap.update a (Obj.mapSeq fun _=>(#[]:Array Value))).push (seqObj "tuple" vs.toArray 0)).push (seqObj "list" #[] 0) })
   (Q:=fun _ st' s'=>arrOf st' = (kEv lt (kas_sort vs.length)).map (kas_item (pairsOf vs))∧failedOf st' = none∧s' = { s with heap:=((s.heap.update a (Obj.mapSeq fun _=>(#[]:Array Value))).push (seqObj "tuple" vs.toArray 0)).push (seqObj "list" #[] 0) })
   (G:=fun p s'=>p = kEv lt (kas_sort vs.length)∧s' = { s with heap:=((s.heap.update a (Obj.mapSeq fun _=>(#[]:Array Value))).push (seqObj "tuple" vs.toArray 0)).push (seqObj "list" #[] 0) })
   h2' h64 (fun p' st' s' _ a2 a3 a4=>⟨a4.1 ▸ a2,a3,a4.2⟩) (by
    rw [← kas_ask_eq]
    exact (Zl0 (n:=vs.length) (by omega)).wp (hc h2' _ k6) ⟨rfl,rfl⟩)
  rw [← est] at run
  refine wpAny_bind (wpAny_mono run ?_ fun _ _ e=>e)
  intro r s' z
  obtain ⟨har,hf,rfl⟩:=z
  have hout:(arrOf r.2).map (·.2) = List.toArray ((Z2i lt vs.length).map fun i=>vs.getD i Value.none):=by
   apply Array.toList_inj.mp
   rw [har,Array.map_map,Array.toList_map]
   exact List.map_congr_left fun i _=>by show (kas_item (pairsOf vs) i).2 = _; rw [kas_item_eq]
  rw [hout]
  refine wpAny_bind (seqEpoch_at ho6 rfl ?_)
  refine wpAny_bind (listUpdate_at ho6 rfl ?_ (Nat.zero_le _) (by rw [List.size_toArray,List.length_map,(Zl1 (by omega)).length_eq,List.length_range,sizeLine_eq]; omega))
  rw [hf]
  simp only [bne_self_eq_false,Bool.false_eq_true,if_false]
  exact wpAny_pure h
theorem Zzy {κ:SortKind} {lt:Nat→Nat→Bool} {l:Addr} {vs:List Value} {Q:Value→Shared→Prop} (hl:s.heap.IsList l vs.toArray) (h64:vs.length < 64)
  (hk:2 ≤ vs.length→∀ s':Shared,(∀ b o,s.heap.get? b = some o→s'.heap.get? b = some o)→∀ Q:SortKind→Shared→Prop,Q κ s'→wpAny (model prog w) A.in1.in1 (keyKind' vs.toArray) Q E s')
  (hc:2 ≤ vs.length→∀ s':Shared,(∀ b o,s.heap.get? b = some o→s'.heap.get? b = some o)→∀ i j C,i < vs.length→j < vs.length→C (lt i j) s'→kas_ask prog w A.in1.in1 κ vs i j C s')
  (h:Q (.ref (s.heap.objs.size + 1)) { s with heap:=sortedAll s.heap vs (List.toArray (sLay Value.none lt vs)) }):wpAny (model prog w) A (call (.builtin "sorted") [.ref l]) Q E s:=by
 refine Calls.call_function_entry kind_sorted plain_sorted entry_sorted (args_sorted1 _) ?_
 unfold Builtin.«sorted»
 refine wpAny_bind (m:=checkCount "sorted" 1 1 _) (wpAny_pure ?_)
 refine wpAny_bind (collect_list hl ?_ (by rw [sizeLine_eq]; omega))
 refine wpAny_bind (wpAny_newList ?_ (by rw [sizeLine_eq]; omega))
 have hsz:((s.heap.push (seqObj "list" #[] 0)).update s.heap.objs.size (Obj.mapSeq (· ++ vs.toArray))).objs.size = s.heap.objs.size + 1:=by
  rw [Heap.size_update,size_push']
 have hoL:(((s.heap.push (seqObj "list" #[] 0)).update s.heap.objs.size (Obj.mapSeq (· ++ vs.toArray))).push (seqObj "list" vs.toArray 0)).get? (s.heap.objs.size + 1) = some (seqObj "list" vs.toArray 0):=by
  rw [← hsz]; exact Heap.get?_push_size _ rfl
 have keep:∀ b o,s.heap.get? b = some o→(((s.heap.push (seqObj "list" #[] 0)).update s.heap.objs.size (Obj.mapSeq (· ++ vs.toArray))).push (seqObj "list" vs.toArray 0)).get? b = some o:=fun b o q=>by
  have hlt:b < s.heap.objs.size:=Heap.lt_size q
  rw [Heap.get?_push_ne _ _ _ (by rw [hsz]; exact Nat.ne_of_lt (Nat.lt_succ_of_lt hlt)),Heap.get?_update_ne _ _ _ _ (Nat.ne_of_lt hlt),Heap.get?_push_ne _ _ _ (Nat.ne_of_lt hlt)]
  exact q
 show wpAny _ _ _ _ _ { s with heap:=((s.heap.push (seqObj "list" #[] 0)).update s.heap.objs.size (Obj.mapSeq (· ++ vs.toArray))).push (seqObj "list" vs.toArray 0) }
 rw [hsz]
 refine wpAny_bind (wpAny_holding (wpAny_call_entry slot_list_sort ⟨_,hoL,rfl⟩ entry_list_sort (Zpa (h0:=s.heap) hoL keep (Heap.get?_none_of_le (Nat.le_succ _)) h64 hk hc ⟨_,rfl,?_⟩) (args_list_sort _)))
 exact wpAny_pure ⟨_,rfl,h⟩
end
end L2
namespace L2
open PySem PySem.Spec PyProof.Rows PySem.W
variable {G:PySem.W.Frag}
structure Ya9 {α:Type} (kd:PyData→Option α) (lt:α→α→Bool):Prop where
 lay:∀ d k,kd d = some k→d.canLay0 = true
 run:∃ κ:SortKind,(∀ (prog:Program) (w:World) (A:Around) (E:Value→Shared→Prop) (s:Shared) (vs:List Value) (ds:List PyData) (as:List Addr) (Q:SortKind→Shared→Prop),2 ≤ vs.length→ReadsAll s.heap vs ds as→(∀ d ∈ ds,∃ k,kd d = some k)→Q κ s→wpAny (model prog w) A (keyKind' vs.toArray) Q E s) ∧
  ∀ (prog:Program) (w:World) (A:Around) (E:Value→Shared→Prop) (s:Shared) (u v:Value) (d e:PyData) (as bs:List Addr) (k m:α) (C:Bool→Shared→Prop),A.units + 32 < cLine→Reads s.heap u d as→Reads s.heap v e bs→kd d = some k→kd e = some m→C (lt k m) s→wpAny (model prog w) A (keyLt' κ u v) C E s
theorem readsAll_ints {h:Heap} (ns:List Int) {vs:List Value} {as:List Addr} (r:ReadsAll h vs (ns.map PyData.int) as):IntsAre vs ns:=by
 induction ns generalizing vs as with
 | nil=>cases r; exact .nil
 | cons n ns ih =>
  cases r with
  | cons r q =>
   cases r
   exact .cons _ _ (ih q)
theorem Zfn {h:Heap} {ns:List Int} {u:Value} {as:List Addr} (r:Reads h u (.list (ns.map PyData.int)) as):∃ a items,u = .ref a∧h.IsList a items∧IntsAre items.toList ns:=by
 cases r with
 | list e c d q=>exact ⟨_,_,rfl,⟨_,e,c,_,d⟩,readsAll_ints ns q⟩
theorem readsAll_get {h:Heap} {vs:List Value} {ds:List PyData} {as:List Addr} (r:ReadsAll h vs ds as):vs.length = ds.length∧∀ (i:Nat) d,ds[i]? = some d→∃ v bs,vs[i]? = some v∧Reads h v d bs:=by
 induction ds generalizing vs as with
 | nil=>cases r; exact ⟨rfl,fun i d e=>by rw [List.getElem?_nil] at e; cases e⟩
 | cons d ds ih =>
  cases r with
  | cons r q =>
   obtain ⟨z1,z2⟩:=ih q
   refine ⟨congrArg Nat.succ z1,fun i e he=>?_⟩
   cases i with
   | zero=>cases he; exact ⟨_,_,rfl,r⟩
   | succ i=>exact z2 i e he
theorem lay_ints (ns:List Int):Sh 1 (.list (ns.map PyData.int)):=Ztg fun d m=>by
 obtain ⟨x,_,rfl⟩:=List.mem_map.mp m
 exact Zyd x
theorem Zo2 {M:Model} {h:Heap} {a:Addr} {items:Array Value} (e:h.IsList a items):Looks M h (typeOf (.ref a)) (.type "list"):=by
 obtain ⟨o,e,c,_⟩:=e
 have:Looks M h (typeOf (.ref a)) o.cls:=(Looks.ld e).andThen .now
 rwa [c] at this
noncomputable def kdL:PyData→Option (List Int):=fun d=>match d with | .list es=>Zet es | _=>none
theorem Zgm {d:PyData} {k:List Int} (h:kdL d = some k):d = .list (k.map PyData.int):=by
 cases d with
 | list es=>exact congrArg PyData.list (Zef h)
 | _=>cases h
theorem Zrn {h:Heap} {vs:List Value} {ds:List PyData} {as:List Addr} (r:ReadsAll h vs ds as) {v:Value} (hv:v ∈ vs):∃ d ∈ ds,∃ bs,Reads h v d bs:=by
 obtain ⟨i,hi⟩:=List.getElem?_of_mem hv
 obtain ⟨z1,z2⟩:=readsAll_get r
 have c:i < ds.length:=z1 ▸ (List.getElem?_eq_some_iff.mp hi).1
 obtain ⟨v',bs,e,q⟩:=z2 i _ (List.getElem?_eq_getElem c)
 rw [hi] at e
 cases e
 exact ⟨_,List.getElem_mem c,bs,q⟩
theorem Z6f:Ya9 kdL ltI:=by
 refine ⟨fun d k h=>by rw [Zgm h]; exact (lay_ints k).1,oneType',fun prog w A E s vs ds as Q h2 r hk q=>kas_kind (T:=.type "list") h2 (fun v hv=>?_) rfl rfl q,fun prog w A E s u v d e as bs k m C hu r1 r2 h1 h2 h=>?_⟩
 ·obtain ⟨d,hd,bs,z⟩:=Zrn r hv
  obtain ⟨k,hk⟩:=hk d hd
  rw [Zgm hk] at z
  obtain ⟨a,items,rfl,e,_⟩:=Zfn z
  exact Zo2 e
 ·rw [Zgm h1] at r1
  rw [Zgm h2] at r2
  obtain ⟨a,i1,rfl,e1,z1⟩:=Zfn r1
  obtain ⟨b,i2,rfl,e2,z2⟩:=Zfn r2
  rw [keyLt'_oneType]
  exact Zo7 (by omega) e1 e2 z1 z2 h
theorem Zsh (a b:List Int):PyData.eqv (.list (a.map PyData.int)) (.list (b.map PyData.int)) = decide (a = b):=by
 have p:∀ l:List Int,Ws (.list (l.map PyData.int)) = true:=fun l=>by rw [Ws]; induction l with | nil=>rfl | cons x l ih=>exact ih
 have inj:∀ {l m:List Int},PyData.list (l.map PyData.int) = .list (m.map PyData.int)→l = m:=fun h=>by
  injection h with h
  exact (List.map_inj_right fun x y z=>by injection z).mp h
 by_cases c:a = b
 ·rw [Zxs (p a) (p b) (by rw [c]),decide_eq_true c]
 ·rw [Z21 (p a) (p b) fun z=>c (inj z),decide_eq_false c]
end L2
namespace L2
open PySem PySem.Spec PyProof.Rows PySem.W
variable {G:PySem.W.Frag}
noncomputable def lk {α:Type} (kd:PyData→Option α) (lt:α→α→Bool) (es:List PyData):Nat→Nat→Bool:=fun i j=>((kd (es.getD i .none)).bind fun a=>(kd (es.getD j .none)).map fun b=>lt a b).getD false
noncomputable def keyed {α:Type} (kd:PyData→Option α) (es:List PyData):Prop:=∀ d ∈ es,∃ k,kd d = some k
theorem Zpp {es:List PyData} (h:∀ d ∈ es,d.canLay0 = true):PyData.canLayAll0 es = true:=by
 induction es with
 | nil=>rw [PyData.canLayAll0]
 | cons d es ih=>rw [PyData.canLayAll0,h d (.head _),ih fun d m=>h d (.tail _ m)]; rfl
theorem Das.sLay {H:Hp} {L:Addr→Prop} {lt:Nat→Nat→Bool} {xs:List V} {ds:List PyData} (h:Das G H L xs ds):Das G H L (L2.sLay .non lt xs) (L2.sLay .none lt ds):=by
 unfold L2.sLay
 rw [h.length]
 split
 ·exact h
 ·generalize Z2i lt _ = l
  induction l with
  | nil=>exact .nil
  | cons i l ih =>
   refine .cons ?_ ih
   show Da G H L (xs.getD i .non) (ds.getD i .none)
   rw [List.getD_eq_getElem?_getD,List.getD_eq_getElem?_getD]
   cases e:xs[i]? with
   | some x =>
    obtain ⟨u,e',r⟩:=h.get' e
    rw [e']; exact r
   | none =>
    have:ds[i]? = none:=List.getElem?_eq_none (by rw [← h.length]; exact List.getElem?_eq_none_iff.mp e)
    rw [this]; exact .non
noncomputable def Zyf {α:Type} (kd:PyData→Option α) (lt:α→α→Bool) (K:PySem.W.Frag):List V→Hp→VK→Prop:=fun xs H Q=>∃ (a:Addr) (vs:List V) (L:Addr→Prop) (es:List PyData),xs = [.ref a]∧SqL K H a vs∧Das K H L vs es∧vs.length < 64∧keyed kd es∧∀ l,H l = none→Q (.ref l) (upd H l (.lst (sLay .non (lk kd lt es) vs)))
section
variable {X:Cx} {α:Type} {kd:PyData→Option α} {lt:α→α→Bool}
theorem Zo4 {K:PySem.W.Frag} (S:Ya9 kd lt) (hK:X.K = K) (hu:X.A.units + 64 < cLine):Zd9 X (.builtin "sorted") (Zyf kd lt K):=by
 subst hK
 intro pins s σ H xs us Q I r h
 obtain ⟨l,vs,L,es,rfl,hs,hd,h64,hk,q⟩:=h
 obtain ⟨u,rfl,ru⟩:=vals1 r
 cases (show u = Value.ref l from ru)
 obtain ⟨its,rv,pl,hz⟩:=I.list hs
 have hl:=rv.length
 obtain ⟨as,ra⟩:=hd.reads rfl I rv (Zpp fun d m=>by obtain ⟨k,e⟩:=hk d m; exact S.lay d k e)
 obtain ⟨κ,S1,S2⟩:=S.run
 obtain ⟨z1,z2⟩:=readsAll_get ra
 refine Zzy (κ:=κ) (lt:=lk kd lt es) pl.isList (by omega) (fun h2 s' k Q q=>S1 _ _ _ _ s' _ es as Q h2 (ReadsAll.keeps k ra) hk q) (fun h2 s' k i j C hi hj hc=>?_) ?_
 ·rw [z1] at hi hj
  obtain ⟨v,b1,e1,r1⟩:=z2 i _ (List.getElem?_eq_getElem hi)
  obtain ⟨w,b2,e2,r2⟩:=z2 j _ (List.getElem?_eq_getElem hj)
  obtain ⟨k1,q1⟩:=hk _ (List.getElem_mem hi)
  obtain ⟨k2,q2⟩:=hk _ (List.getElem_mem hj)
  have ek:lk kd lt es i j = lt k1 k2:=by
   unfold lk
   rw [List.getD_eq_getElem?_getD,List.getD_eq_getElem?_getD,List.getElem?_eq_getElem hi,List.getElem?_eq_getElem hj]
   show ((kd es[i]).bind fun a=>(kd es[j]).map fun b=>lt a b).getD false = _
   rw [q1,q2]; rfl
  rw [ek] at hc
  unfold kas_ask
  rw [List.getD_eq_getElem?_getD,List.getD_eq_getElem?_getD,e1,e2]
  exact S2 _ _ _ _ s' v w _ _ _ _ k1 k2 C (show X.A.units + 1 + 1 + 32 < cLine by omega) (Reads.keeps k r1) (Reads.keeps k r2) q1 q2 hc
 ·obtain ⟨e,he⟩:=sortedAll_at s.heap its (List.toArray (sLay Value.none (lk kd lt es) its))
  refine ⟨.ref (s.heap.objs.size + 1),_,I.laid (t':=s.toks) (o:=.lst (sLay .non (lk kd lt es) vs)) (fun b ob q=>sortedAll_old q) (by omega) ⟨?_,sLay Value.none (lk kd lt es) its,e,Zra rv,he⟩,rfl,q _ (I.hok.fresh (by omega))⟩
  rw [(Zhe _ _ _).length_eq,sizeLine_eq]; omega
noncomputable def Zx5 (kd:PyData→Option α) (lt:α→α→Bool):List PyData→(OT→Prop)→Prop:=fun ds k=>n1 (fun d=>∃ es:List PyData,d = .list es∧es.length < 64∧keyed kd es∧k (.nd ((sLay .none (lk kd lt es) es).map OT.fz))) ds
theorem Zuq:PN G (Zyf kd lt G) (Zx5 kd lt):=fun H L xs ds k Q hx h kk=>by
 obtain ⟨v,d,rfl,rfl,q,es,e,h64,hk,h⟩:=hx.one h
 have fin:∀ (vs:List V) (p:Addr),Das G H L vs es→H p = none→Q (.ref p) (upd H p (.lst (sLay .non (lk kd lt es) vs))):=fun vs p hv hp=>kk _ _ _ [p] (Yc hp _) (Own.list hp hv.sLay) (Zih p) (Zfs hp) h
 subst e
 generalize ed:PyData.list es = d at q
 cases q with
 | lst l e r =>
  cases ed
  exact ⟨_,_,L,es,rfl,.inl e,r,by rw [r.length]; exact h64,hk,fun p hp=>fin _ p r hp⟩
 | scr ks =>
  cases ed
  exact ⟨_,_,L,_,rfl,ks.sq,Das.ints _,by rw [(Das.ints (G:=G) (H:=H) (L:=L) _).length]; exact h64,hk,fun p hp=>fin _ p (Das.ints _) hp⟩
 | _=>cases ed
noncomputable def Ziv (kd:PyData→Option α) (lt:α→α→Bool):List PyData→Option OT:=fun ds=>match ds with | [.list es]=>if (decide (es.length < 64) && es.all fun d=>(kd d).isSome) = true then some (.nd ((sLay .none (lk kd lt es) es).map OT.fz)) else none | _=>none
theorem Z0q:∀ ds r k,Ziv kd lt ds = some r→k r→Zx5 kd lt ds k:=fun ds r k h hk=>by
 unfold Ziv at h
 split at h
 case h_2=>cases h
 split at h
 case isFalse=>cases h
 rename_i h2
 rw [Bool.and_eq_true] at h2
 cases h
 exact ⟨_,rfl,of_decide_eq_true h2.1,fun d m=>Option.isSome_iff_exists.mp (List.all_eq_true.mp h2.2 d m),hk⟩
end
end L2
namespace L2
open PySem PySem.Spec PyProof.Rows
variable {G:PySem.W.Frag}
end L2
namespace L2
open PySem PySem.Spec PyProof.Rows
section
variable {X:Cx} {io:List Nat} {p p' c c' q r:Bool} {a b e:Expr} {fa fb:FE} {es:List Expr} {ra:FA} {st:Stmt} {sts ss ss':List Stmt} {f g:FS} {ta:FT}
theorem xv (i:Nat) {x:Str} {pos:Pos} (hN:X.N[i]? = some x:=by rfl) (hv:Vis X.env.scope x:=by first | exact Or.inl rfl | exact Or.inr (Or.inl rfl) | exact Or.inr (Or.inr rfl)) (hd:(x == ("__debug__" : Str)) = false:=by decide) (he:(x == ("__classdict__" : Str)) = false:=by decide):ME X io true true (.Name x pos) (o2 (Zd i)):=W2 (mv i hN hv hd he)
theorem xo (i:Nat) {x:Str} {pos:Pos} (hN:X.N[i]? = some x:=by rfl) (hv:Vis X.env.scope x:=by first | exact Or.inl rfl | exact Or.inr (Or.inl rfl) | exact Or.inr (Or.inr rfl)) (hd:(x == ("__debug__" : Str)) = false:=by decide) (he:(x == ("__classdict__" : Str)) = false:=by decide):ME X io true false (.Name x pos) (o2 (Zma i)):=Z6g (mo i hN hv hd he)
theorem xci {i:Int} {j:Nat} {pos:Pos}:ME X io true true (.Constant (.int i) j pos) (o2 (fC (.int i))):=Zjk Z3d
theorem xix {pos:Pos} (ha:ME X io p c a (o2 fa)) (hb:ME X io p' c' b (o2 fb)) (hc:p' = true∨c = true:=by first | exact Or.inl rfl | exact Or.inr rfl) (hs:Zgq b:=by exact fun _ _=>rfl) (h2:(p && p') = q:=by rfl) (h3:(c && c') = r:=by rfl):ME X io q r (.Subscript a b pos) (o2 (Yg gIx fa fb)):=h2 ▸ h3 ▸ Ziy Yc6 (Ycp (Ztr rfl) Z8n ha hb hc (hs:=hs))
theorem xa0:MA X io true true [] (o2 Zo):=Zld Zk4
theorem xa1 [NoStar e] (ha:ME X io p c e (o2 fa)) (h2:(p && true) = q:=by rfl) (h3:(c && true) = r:=by rfl):MA X io q r [e] (o2 (Zc fa Zo)):=Ze ha xa0 (.inl rfl) h2 h3
theorem xsq (h:MS X io st (oS f)) (k:MSs X io sts (oS g)):MSs X io (st :: sts) (oS (Z3 f g)):=Zit (Zdi h k)
theorem xst {pos px:Pos} (i:Nat) {x:Str} (hN:X.N.Nodup) (he:ME X io p true e (o2 fa)) (hi:X.N[i]? = some x:=by rfl) (hx:Loc X.env.scope x:=by first | exact Or.inl rfl | exact Or.inr rfl) (hio:i ∉ io:=by decide) (hs:swapsWith e (some (.Name x px)) pos.line X.env = pure false:=by rfl) (hf:X.fn x = true∨X.env.scope.names.lookup x = some .local:=by first | exact .inl rfl | exact .inr rfl | assumption):MS X io (.Assign [.Name x px] e pos) (oS (wE fa (Y4 i))):=Z6m (Z6i hN hi hx he hio hs hf)
theorem xrt {pos:Pos} (h:ME X io p true e (o2 fa)):MS X io (.Return (some e) pos) (oS (wE fa W3)):=Zgp (Zgn h)
theorem xg {pos:Pos} (i:Nat) {x:Str} (hN:X.N.Nodup) (hi:X.N[i]? = some x:=by rfl) (hx:Loc X.env.scope x:=by first | exact Or.inl rfl | exact Or.inr rfl) (hio:i ∉ io:=by decide) (hf:X.fn x = true∨X.env.scope.names.lookup x = some .local:=by first | exact .inl rfl | exact .inr rfl | assumption):MG X io true (.Name x pos) (oG (gNm i)):=Zmb (Zne hN hi hx hio hf)
theorem xif {pos:Pos} (h:MT X io p e (o2 ta)) (k:MSs X io ss (oS f)) (l:MSs X io ss' (oS g)):MS X io (.If e ss ss' pos) (oS (Zbe ta f g)):=Zp0 (Zo8 h k l)
theorem xnl:MSs X io [] (oS fNx):=Ze8 Ze3
theorem xtp {pos:Pos} {n:Nat} (h:MA X io p c es (o2 ra)):ME X io p c (.Tuple es n pos) (o2 (Zez ra)):=Z3j (Z94 h)
theorem xls {pos:Pos} (h:MA X io p c es (o2 ra)):ME X io p c (.List es pos) (o2 (Zf4 ra)):=Z4p (Z93 h)
theorem xil {tg:Expr} (h:ME X io p c e (o2 fa)):MI X io p c tg e (o2 (Zer fa)):=Zyt (Zzz h)
theorem xno {pos:Pos} (h:MT X io p e (o2 ta)):MT X io p (.UnaryOp .Not e pos) (o2 (tNo ta)):=Zx8 (Zxq h)
theorem Zj4 {pos:Pos} (ha:ME X io p c a (o2 fa)) (hb:ME X io p' c' b (o2 fb)) (hc:p' = true∨c = true:=by first | exact Or.inl rfl | exact Or.inr rfl) (h2:(p && p') = q:=by rfl):ME X io q true (.BinOp a .Add b pos) (o2 (Zj Zdp fa fb)):=h2 ▸ Jm Z8d (Zp5 Z5t Zs9 ha hb hc)
theorem Z62 {pos:Pos} (ha:ME X io p c a (o2 fa)) (hb:ME X io p' c' b (o2 fb)) (hc:p' = true∨c = true:=by first | exact Or.inl rfl | exact Or.inr rfl) (h2:(p && p') = q:=by rfl):ME X io q true (.BinOp a .Sub b pos) (o2 (Zj gSb fa fb)):=h2 ▸ Jm Z8k (Zp5 Z40 Zs9 ha hb hc)
theorem Zlf {pos:Pos} (ha:ME X io p c a (o2 fa)) (hb:ME X io p' c' b (o2 fb)) (hc:p' = true∨c = true:=by first | exact Or.inl rfl | exact Or.inr rfl) (h2:(p && p') = q:=by rfl):ME X io q true (.BinOp a .Mult b pos) (o2 (Zj Zfr fa fb)):=h2 ▸ Jm Z9j (Zp5 Zyw Z42 ha hb hc)
theorem Zna {pos:Pos} (ha:ME X io p c a (o2 fa)) (hb:ME X io p' c' b (o2 fb)) (hc:p' = true∨c = true:=by first | exact Or.inl rfl | exact Or.inr rfl) (h2:(p && p') = q:=by rfl):ME X io q true (.BinOp a .Mod b pos) (o2 (Zj Zf6 fa fb)):=h2 ▸ Jm Z9s (Zp5 Zz4 Z2m ha hb hc)
theorem Zqe {pos:Pos} (ha:ME X io p c a (o2 fa)) (hb:ME X io p' c' b (o2 fb)) (hc:p' = true∨c = true:=by first | exact Or.inl rfl | exact Or.inr rfl) (h2:(p && p') = q:=by rfl):ME X io q true (.BinOp a .FloorDiv b pos) (o2 (Zj Zau fa fb)):=h2 ▸ Jm Z5u (Zp5 Zvq Z4w ha hb hc)
theorem Z8g {pos:Pos} (ha:ME X io p c a (o2 fa)) (hb:ME X io p' c' b (o2 fb)) (hc:p' = true∨c = true:=by first | exact Or.inl rfl | exact Or.inr rfl) (h2:(p && p') = q:=by rfl):ME X io q true (.BinOp a .Pow b pos) (o2 (Zj Zuo fa fb)):=h2 ▸ Jm Z8o (Zp5 Z0i Z36 ha hb hc)
theorem xeq {pos:Pos} (hu:X.A.units + 64 < cLine) (ha:ME X io p c a (o2 fa)) (hb:ME X io p' c' b (o2 fb)) (hc:p' = true∨c = true:=by first | exact Or.inl rfl | exact Or.inr rfl) (h2:(p && p') = q:=by rfl):MT X io q (.Compare a [.Eq] [b] pos) (o2 (tV (Zj gEq fa fb))):=h2 ▸ Zbo Z7r (Zbi (Zr0 hu) Zza ha hb hc (hm:=Jw _))
theorem xne {pos:Pos} (hu:X.A.units + 64 < cLine) (ha:ME X io p c a (o2 fa)) (hb:ME X io p' c' b (o2 fb)) (hc:p' = true∨c = true:=by first | exact Or.inl rfl | exact Or.inr rfl) (h2:(p && p') = q:=by rfl):MT X io q (.Compare a [.NotEq] [b] pos) (o2 (tV (Zj gNe fa fb))):=h2 ▸ Zbo Z63 (Zbi (Znk hu) Zvo ha hb hc (hm:=Jw _))
theorem xlt {pos:Pos} (ha:ME X io p c a (o2 fa)) (hb:ME X io p' c' b (o2 fb)) (hc:p' = true∨c = true:=by first | exact Or.inl rfl | exact Or.inr rfl) (h2:(p && p') = q:=by rfl):MT X io q (.Compare a [.Lt] [b] pos) (o2 (tV (Zj gLt fa fb))):=h2 ▸ Zbo Z7b (Zbi Zwd Zf0 ha hb hc (hm:=Jw _))
theorem xgt {pos:Pos} (ha:ME X io p c a (o2 fa)) (hb:ME X io p' c' b (o2 fb)) (hc:p' = true∨c = true:=by first | exact Or.inl rfl | exact Or.inr rfl) (h2:(p && p') = q:=by rfl):MT X io q (.Compare a [.Gt] [b] pos) (o2 (tV (Zj gGt fa fb))):=h2 ▸ Zbo Yc5 (Zbi Z8i Zf0 ha hb hc (hm:=Jw _))
theorem xle {pos:Pos} (ha:ME X io p c a (o2 fa)) (hb:ME X io p' c' b (o2 fb)) (hc:p' = true∨c = true:=by first | exact Or.inl rfl | exact Or.inr rfl) (h2:(p && p') = q:=by rfl):MT X io q (.Compare a [.LtE] [b] pos) (o2 (tV (Zj gLe fa fb))):=h2 ▸ Zbo Yci (Zbi Z8x Zf0 ha hb hc (hm:=Jw _))
theorem xge {pos:Pos} (ha:ME X io p c a (o2 fa)) (hb:ME X io p' c' b (o2 fb)) (hc:p' = true∨c = true:=by first | exact Or.inl rfl | exact Or.inr rfl) (h2:(p && p') = q:=by rfl):MT X io q (.Compare a [.GtE] [b] pos) (o2 (tV (Zj gGe fa fb))):=h2 ▸ Zbo Yab (Zbi Z3v Zf0 ha hb hc (hm:=Jw _))
theorem xfr {pos:Pos} {tg:Expr} {it:FI} {gg:FG} (hp:PassesOwn (model X.prog X.w) X.A X.env X.xe) (hc:X.calm = true) (hi:MI X io p true tg e (o2 it)) (hg:MG X io true tg (oG gg)) (hb:MSs X io ss (oS f)) (hs:∀ x,foldedSetIterable e X.env x = pure x:=by intro _; rfl):MS X io (.For tg e ss [] pos) (oS (Jz it gg f)):=Zxt (Zx7 hp hc hi hg hb hs)
theorem xg2 {pos:Pos} {n:Nat} {g1 g2:FG} (hc:X.calm = true) (ha:MG X io true a (oG g1)) (hb:MG X io true b (oG g2)) (h1:List.map (fun x=>x.snd) (assignEach [a,b] X.env) = assign a X.env :: List.map (fun x=>x.snd) (assignEach [b] X.env):=by rfl) (h2:List.map (fun x=>x.snd) (assignEach [b] X.env) = assign b X.env :: List.map (fun x=>x.snd) (assignEach [] X.env):=by rfl) (h3:(assignEach [a,b] X.env).length = 2:=by rfl) (h4:List.findIdx? (fun x=>x.fst) (assignEach [a,b] X.env) = none:=by rfl):MG X io true (.Tuple [a,b] n pos) (oG (gTp 2 (gCn g1 (gCn g2 gNl)))):=Zqm (Ztt (n:=2) hc (Zax (Za5 ha (Zax (Za5 hb (Zl7 Zmq) h2)) h1)) h3 h4)
theorem xso {pos px:Pos} (i:Nat) {x:Str} (hN:X.N.Nodup) (he:ME X io p true e (o2 fa)) (hi:X.N[i]? = some x:=by rfl) (hx:Loc X.env.scope x:=by first | exact Or.inl rfl | exact Or.inr rfl) (hio:i ∉ io:=by decide) (hs:swapsWith e (some (.Name x px)) pos.line X.env = pure false:=by rfl) (hf:X.fn x = true∨X.env.scope.names.lookup x = some .local:=by first | exact .inl rfl | exact .inr rfl | assumption):MS X io (.Assign [.Name x px] e pos) (oS (wE fa (Zbb i))):=Zyv (Z1w hN hi hx he hio hs hf)
theorem xcl {pos pp:Pos} {k:Nat} {f:Addr} {fd:FuncData} {ps:List Str} {x:Str} {F:FD} (G:FnOk X.prog X.w X.K X.mg X.base CX0 k f fd ps (spD X.K (sD F))) (hr:Room k X.A) (hm:X.mg x = some (.ref f)) (hk:PySem.W.keepIn X.K (.ref f) = true) (hb:Binds X.K fd ps []) (ha:MA X io p c (e :: es) (o2 ra)) (hg:Gl X x:=by rfl) (h1:(x == ("__debug__" : Str)) = false:=by decide) (h2:starEach (e :: es) X.env = (false,eval e X.env) :: starEach es X.env:=by rfl) (h3:((backTo pos (starEach es X.env)).any fun x=>x.fst) = false:=by rfl):ME X io p c (.Call (.Name x pp) (e :: es) [] pos) (o2 (Zt F ra)):=Zqv (Zxw G hr hg hm hk hb Zve ha h1 h2 h3)
theorem xln {pos pp:Pos} (hm:X.mg "len" = none) (ha:MA X io p c [e] (o2 ra)) (hg:Gl X "len" := by rfl) (h2:starEach [e] X.env = (false,eval e X.env) :: starEach [] X.env:=by rfl):ME X io p true (.Call (.Name "len" pp) [e] [] pos) (o2 (Za9 Zcg ra)):=Zdn Zy5 (Zht Zto (Zhb rfl) hg hm L2.B.boot_len ha (by decide) (by decide) h2 (by rfl))
end
end L2
namespace L2
open PySem PySem.Spec PyProof.Rows
section
variable {X:Cx} {tg:Expr} {io:List Nat} {p c:Bool} {a b d e:Expr} {mr:MAt} {ra:FA}
end
end L2
namespace L2
open PySem PySem.Spec PyProof.Rows
section
variable {prog:Program} {w:World} {A:Around} {R:Result→Shared→Prop} {I:Addr} {fp wr:List Addr} {n:Nat} {P:Nat→Value→Prop} {St:Nat→Heap→Prop}
end
section
variable {prog:Program} {w:World} {A:Around} {E:Value→Shared→Prop} {s:Shared}
end
section
variable {X:Cx} {p c:Bool} {io:List Nat} {e kw:Expr} {pp pos kp:Pos} {t:TA} {mr:MAt}
end
end L2
namespace L2
open PySem PySem.Spec PyProof.Rows
noncomputable def tbl (P:List Nat) (led:Bool):SetTable:={ mask:=7,place:=P.toArray,dummies:=#[],finger:=0,led,moves:=0,plain:=true }
noncomputable def hT (k:List Int):Int:=reduceHash (Builtin.Tuple.tupleHashOf (k.map hashInt))
noncomputable def hAt (ks:List (List Int)) (i:Nat):Int:=(ks[i]?.map hT).getD 0
noncomputable def Z79 (P:List Nat) (j:Nat):List Nat:=((tbl P false).put j).1.place.toList
noncomputable def Yal (P:List Nat) (j:Nat):Nat:=((tbl P false).put j).2
noncomputable def Ydt (ks:List (List Int)) (p:Nat) (k:List Int):List (List Int):=ks.take p ++ k :: ks.drop p
noncomputable def Ydo (P:List Nat) (ks:List (List Int)) (k:List Int):Option (List Nat × List (List Int)) :=
 match (tbl P false).probe (hAt ks) (hT k) ((tbl P false).probeStart (hT k)) with
 | some (.empty j none)=>if (tbl (Z79 P j) false).tooFull = false∧(Z79 P j).length = ks.length + 1∧ks.length ≤ 6∧Yal P j ≤ ks.length then some (Z79 P j,Ydt ks (Yal P j) k) else none
 | some (.candidate _ i _)=>if ks[i]? = some k then some (P,ks) else none
 | _=>none
noncomputable def grow (K:List (List Int)):Nat→List (List Nat × List (List Int))→List (List Nat × List (List Int))
 | 0,S=>S
 | n + 1,S=>grow K n (S ++ (S.flatMap fun s=>K.filterMap fun k=>Ydo s.1 s.2 k).filter fun s=>!S.contains s)
noncomputable def K2:List (List Int):=[[0,0],[0,1],[1,0],[1,1]]
noncomputable def S2:List (List Nat × List (List Int)):=(grow K2 4 [([],[])]).eraseDups
section
variable {prog:Program} {w:World} {A:Around} {E:Value→Shared→Prop} {s:Shared}
inductive KeysIn (U:Addr→List Int→Prop):List (List Int)→List (Int × Value)→Prop
 | nil:KeysIn U [] []
 | cons {k:List Int} {a:Addr} {ks:List (List Int)} {l:List (Int × Value)} (h:U a k) (t:KeysIn U ks l):KeysIn U (k :: ks) ((hT k,.ref a) :: l)
theorem KeysIn.len {U:Addr→List Int→Prop} {ks:List (List Int)} {l:List (Int × Value)} (h:KeysIn U ks l):ks.length = l.length:=by
 induction h with
 | nil=>rfl
 | cons _ _ ih=>rw [List.length_cons,List.length_cons,ih]
theorem KeysIn.hash {U:Addr→List Int→Prop} {ks:List (List Int)} {l:List (Int × Value)} (h:KeysIn U ks l):l.map (·.1) = ks.map hT:=by
 induction h with
 | nil=>rfl
 | cons _ _ ih=>rw [List.map_cons,List.map_cons,ih]
noncomputable abbrev IK (prog:Program) (w:World) (h:Heap) (k:List Int) (a:Addr):Prop:=IsTupleKey (intKind prog w) h k a
theorem items_int {ks:List Int} {vs:List Value} (h:ItemsAre (intKind prog w) ks vs):∀ v ∈ vs,∃ i t,v = .int i t:=by
 induction h with
 | nil=>exact fun _ m=>nomatch m
 | cons h _ ih =>
  intro v hv
  rcases List.mem_cons.mp hv with rfl | hv
  ·obtain ⟨t,e⟩:=Value.isInt_shape h
   exact ⟨_,t,e⟩
  ·exact ih v hv
theorem KeysIn.at {U:Addr→List Int→Prop} {ks:List (List Int)} {es:Array (Int × Value)} (h:KeysIn U ks es.toList) (i:Nat):(es[i]?.map (·.1)).getD 0 = hAt ks i:=by
 unfold hAt
 rw [← List.getElem?_map,← h.hash,List.getElem?_map,Array.getElem?_toList]
end
section
variable {prog:Program} {w:World} {A:Around} {R:Result→Shared→Prop} {I:Addr} {fp wr:List Addr} {n:Nat} {Pv:Nat→Value→Prop} {St:Nat→Heap→Prop}
end
end L2
namespace L2
open PySem PySem.Spec PyProof.Rows
section
variable {prog:Program} {w:World} {A:Around} {E:Value→Shared→Prop} {s:Shared}
end
end L2
namespace L2
open PySem PySem.Spec PyProof.Rows
inductive Z9k (H:Hp):List V→List (List Int)→Prop
 | nil:Z9k H [] []
 | cons {a:Addr} {k:List Int} {xs:List V} {ks:List (List Int)} (h:H a = some (.tup (k.map V.int))) (t:Z9k H xs ks):Z9k H (.ref a :: xs) (k :: ks)
section
variable {X:Cx} {p c:Bool} {io:List Nat} {a e:Expr} {pos pos' pl pr:Pos} {t:TA} {mr:MAt} {ra:FA}
end
end L2
namespace L2
open PySem PySem.Spec PyProof.Rows
section
variable {G:PySem.W.Frag} {io:List Nat} {p pt pe:Bool} {own:List Str} {caps:List Nat} {g:MGt} {mt:MTt} {me:MEt} {i:Nat}
noncomputable def Zk6:List OT→Bool
 | []=>true
 | .fz _ :: r=>Zk6 r
 | _ :: _=>false
theorem Owns.fz_das {H:Hp} {L:Addr→Prop}:∀ {ts:List OT} {xs:List V} {bs:List Addr},Owns G H L xs ts bs→Zk6 ts = true→Das G H L xs (OT.datas ts):=fun {ts}=>by
 induction ts with
 | nil =>
  intro xs bs h _
  cases h
  rw [Zep]; exact .nil
 | cons t ts ih =>
  intro xs bs h a
  cases t with
  | fz d =>
   cases h with
   | cons h r =>
    cases h with
    | fz q =>
     rw [Zdg,OT.data_fz]
     exact .cons q (ih r a)
  | nd _=>cases a
  | tp _=>cases a
  | dc _ _ _=>cases a
end
section
variable {X:Cx} {io:List Nat} {p pt pe:Bool} {own:List Str} {caps:List Nat} {N':List Str} {sc:Scope} {i:Nat} {x:Str} {px:Pos} {tg elt:Expr} {ifs:List Expr} {g:MGt} {mt:MTt} {me:MEt} {pos:Pos}
noncomputable def Z2n (o:Option (Option OT)):Option (List OT):=match o with | some (some (.nd ts))=>if Zk6 ts = true then some ts else none | _=>none
theorem Zse {o:Option (Option OT)} {ts:List OT} (h:Z2n o = some ts):o = some (some (.nd ts))∧Zk6 ts = true:=by
 unfold Z2n at h
 split at h
 ·split at h
  ·cases h; exact ⟨rfl,‹_›⟩
  ·cases h
 ·cases h
end
end L2
namespace L2
open PySem PySem.Spec PyProof.Rows
section
variable {X:Cx} {G:PySem.W.Frag}
end
end L2
namespace L2
open PySem PySem.Spec PyProof.Rows
noncomputable abbrev Yc8 (h:Heap) (T:Addr) (a b c:Value):Prop:=h.get? T = some { cls:=.type "tuple", data:=.seq #[a,b,c] }
structure Z3A (z TI TO i1 i2 i3:Addr) (f1 f2 f3:List Addr):Prop where
 TIz:TI ≠ z
 TOz:TO ≠ z
 a1:∀ c ∈ f1,c ≠ z∧c ≠ TO∧c ≠ i2∧c ≠ i3
 a2:∀ c ∈ f2,c ≠ z∧c ≠ TO∧c ≠ i1∧c ≠ i3
 a3:∀ c ∈ f3,c ≠ z∧c ≠ TO∧c ≠ i1∧c ≠ i2
section
variable {P:Program} {w:World} {A:Around} {E:Value→Shared→Prop} {s:Shared}
end
noncomputable abbrev z3A (h:Heap) (a:Addr):Heap:=h.push { cls:=.type "list_iterator", data:=.fields #[.ref a,.int 0 0] }
noncomputable abbrev z3B (h:Heap) (a b:Addr):Heap:=z3A (z3A h a) b
noncomputable abbrev z3C (h:Heap) (a b c:Addr):Heap:=z3A (z3B h a b) c
noncomputable abbrev z3D (h:Heap) (a b c:Addr):Heap:=(z3C h a b c).push { cls:=.type "tuple", data:=.seq #[.ref h.objs.size,.ref (z3A h a).objs.size,.ref (z3B h a b).objs.size] }
noncomputable abbrev z3E (h:Heap) (a b c:Addr):Heap:=(z3D h a b c).push { cls:=.type "tuple", data:=.seq #[.none,.none,.none] }
noncomputable abbrev z3F (h:Heap) (a b c:Addr):Heap:=(z3E h a b c).push { cls:=.type "zip", data:=.fields #[.none,.bool false,.bool false,.ref (z3C h a b c).objs.size,.ref (z3D h a b c).objs.size] }
section
variable {P:Program} {w:World} {A:Around} {E:Value→Shared→Prop} {s:Shared}
end
section
variable {X:Cx} {io:List Nat} {p c:Bool} {a b e:Expr} {mr:MAt} {ra:FA}
end
end L2
namespace L2
open PySem PySem.Spec PyProof.Rows
variable {G:PySem.W.Frag}
end L2
namespace L2
open PySem PySem.Spec PyProof.Rows
variable {G:PySem.W.Frag}
section
variable {X:Cx} {io:List Nat} {p c:Bool} {e:Expr} {m:MEt} {pos apos cpos px:Pos} {i:Nat} {x:Str} {st:Stmt} {fa:FE}
noncomputable def Zi3 (i:Nat) (m:MEt):MSt:=fun D δ=>match δ[i]? with
 | some (some (.nd _))=>m δ fun r δ1=>match r,δ1[i]? with
  | .nd rs,some (some (.nd ts))=>ts.length + rs.length ≤ sizeLine∧D.nx (δ1.set i (some (.nd (ts ++ (OT.datas rs).map OT.fz))))
  | _,_=>False
 | _=>False
theorem Owns.app {H:Hp} {L:Addr→Prop} {ds:List PyData}:∀ {zs xs:List V} {ts:List OT} {bs:List Addr},Owns G H L xs ts bs→Das G H L zs ds→Owns G H L (xs ++ zs) (ts ++ ds.map OT.fz) bs:=by
 induction ds with
 | nil =>
  intro zs xs ts bs h g
  cases g
  rw [List.append_nil,List.map_nil,List.append_nil]; exact h
 | cons d ds ih =>
  intro zs xs ts bs h g
  cases g with
  | cons q g =>
   have:=ih (h.snoc (.fz q)) g
   rw [List.append_nil,List.append_assoc,List.append_assoc] at this
   exact this
theorem Zrl (i:Nat) (he:ME X io p true e m) (hN:X.N[i]? = some x:=by rfl) (hv:Vis X.env.scope x:=by first | exact Or.inl rfl | exact Or.inr (Or.inl rfl) | exact Or.inr (Or.inr rfl)) (hd:(x == ("__debug__" : Str)) = false:=by decide)
  (hcd:(x == ("__classdict__" : Str)) = false:=by decide)
  (hbase:attributeBase (.Name x px) "extend" X.env (eval (.Name x px) X.env) = eval (.Name x px) X.env:=by rfl)
  (hfew:((backTo cpos (starEach [e] X.env)).all (fun x=>!x.1) && (backToKw cpos (keywordEach [] X.env)).all (fun x=>x.1.isSome)
   && decide ([e].length + ([]:List Keyword).length + (if ([]:List Keyword).isEmpty then 0 else 1) < 30)) = true:=by rfl)
  (hline:(apos.endLine == cpos.line) = true:=by rfl) (hs:starEach [e] X.env = (false,eval e X.env) :: starEach [] X.env:=by rfl) (hplain:(backTo cpos (starEach [] X.env)).any (·.1) = false:=by rfl)
  (hsw:swapsWith (.Call (.Attribute (.Name x px) "extend" apos) [e] [] cpos) none pos.line X.env = pure false:=by rfl) :
  MS X io (.Expr (.Call (.Attribute (.Name x px) "extend" apos) [e] [] cpos) pos) (Zi3 i m):=by
 obtain ⟨_,A,s⟩:=he
 refine ⟨_,Znc (Zz0 PySem.F.plainAttrs_list PySem.F.slot_list_extend PySem.F.type_list_extend Zsc (pv i hN hv hd hcd) (Zc7 A Zgu hs) hbase hfew hline hs hplain) hsw,fun C H σ δ fp ex D D' R h E=>?_⟩
 unfold Zi3 at h
 split at h
 case h_2=>exact h.elim
 rename_i ts0 hi0
 obtain ⟨a',xs0,bs0,hv0,hx0,_,_⟩:=R.ownNd hi0
 refine ⟨_,hv0,.inl ⟨rfl,xs0,.inl (.inl hx0)⟩,?_⟩
 refine s C H σ δ fp ex _ _ R h fun H1 v r δ1 fp1 new r1 h1=>?_
 split at h1
 case h_2=>exact h1.elim
 rename_i rs ts1 hi1
 have R1:=r1.base
 obtain ⟨a1,xs1,bs1,hv1,hx1,o1,hf1⟩:=R1.ownNd hi1
 rw [hv0] at hv1
 cases hv1
 obtain ⟨b,zs,rfl,hb,lz,qs⟩:∃ b zs,v = .ref b∧H1 b = some (.lst zs)∧zs.length = rs.length∧Das X.K H1 (Lf C fp1 ex) zs (OT.datas rs):=by
  have ow:=r1.own
  have nw:∀ a ∈ new,Lf C fp1 ex a:=fun a m=>by
   refine ⟨fun qz=>?_,(R.newOk (r1.fresh a m)).2.1,.inr (R.newOk (r1.fresh a m)).2.2⟩
   obtain ⟨i,z⟩:=qz
   exact r1.rel.dx i a z (.inr m)
  cases ow with
  | nd hb r=>exact ⟨_,_,rfl,hb,r.length,r.das (fun a l _=>⟨(l rfl).1,fun z=>(l rfl).2.1 (.inl z),(l rfl).2.2⟩) fun a m=>nw a (.tail _ m)⟩
 refine ⟨a',b,xs1,zs,rfl,rfl,hx1,hb,by rw [o1.length,lz]; exact h1.1,?_⟩
 obtain ⟨R2,S2⟩:=R1.top hi1 hv0 hf1 hx1 (o1.app qs) (List.Sublist.refl _)
 exact E.nx _ σ _ _ R2 (r1.stp.kp.trans S2.kp) h1.2
noncomputable def Ze6 (i:Nat) (e:FE):FS:=fun δ=>match δ[i]? with
 | some (some (.nd _))=>wE e (fun r δ1=>match r,δ1[i]? with
  | .nd rs,some (some (.nd ts))=>if ts.length + rs.length ≤ sizeLine then .nx (δ1.set i (some (.nd (ts ++ (OT.datas rs).map OT.fz)))) else .bad
  | _,_=>.bad) δ
 | _=>.bad
theorem Zty (h:MS X io st (Zi3 i (o2 fa))):MS X io st (oS (Ze6 i fa)):=h.weak fun D δ h=>by
 unfold oS Ze6 at h; unfold Zi3
 split at h
 case h_2=>exact h.elim
 rename_i q; (try rw [q])
 refine (Zqd h).imp fun r δ' z=>?_
 split at z
 ·rename_i q2; (try rw [q2]); exact Zoc z
 ·exact z.elim
end
end L2
namespace L2
open PySem PySem.Spec PyProof.Rows
noncomputable def Up (xs:List Nat):Prop:=xs.Pairwise (· < ·)
structure Tb (b:Bool) (t:SetTable):Prop where
 led:t.led = b
 up:t.plain = true→Up t.place.toList
end L2
namespace L2
open PySem PySem.Spec PyProof.Rows
noncomputable def vI:Value→Int
 | .int k _=>k
 | _=>0
noncomputable def SetI (prog:Program) (w:World) (b:Bool) (h:Heap) (S:Addr) (ks:List Int):Prop :=
 ∃ o es ep t,h.get? S = some o∧o.ExactSet∧o.data = .set es ep t∧ElemsOf (intKind prog w) es.toList∧es.size < scanBound∧t.fits es.size = true∧Tb b t∧es.toList.map (fun e=>vI e.2) = ks
section
variable {prog:Program} {w:World} {A:Around} {E:Value→Shared→Prop} {s:Shared} {b:Bool}
theorem SetI.len {h:Heap} {S:Addr} {ks:List Int} (hS:SetI prog w b h S ks):ks.length < scanBound:=by
 obtain ⟨o,es,ep,t,_,_,_,_,l,_,_,rfl⟩:=hS
 rw [List.length_map,Array.length_toList]; exact l
end
end L2
namespace L2
open PySem PySem.Spec PyProof.Rows
noncomputable def OfL {α:Type} (ks ns:List α):Prop:=ks.Nodup∧∀ x,x ∈ ks ↔ x ∈ ns
noncomputable abbrev Of (ks ns:List Int):Prop:=OfL ks ns
structure Ydy {τ:Type} (prog:Program) (w:World) (A:Around) (S:Addr) (T:Heap→List τ→Prop) (h0:Heap) (n:Nat) (Ok:Value→τ→Prop):Prop where
 stay:∀ h h' ks,T h ks→(∀ o,h.get? S = some o→h'.get? S = some o)→T h' ks
 add:∀ (s:Shared) (E:Value→Shared→Prop) (v:Value) (k:τ) (ks:List τ) (Q:Bool→Shared→Prop),Ok v k→(∀ b o,b < S→h0.get? b = some o→s.heap.get? b = some o)→T s.heap ks→ks.length < n→(∀ c h' tk ks',Heap.SameBut S s.heap h'→T h' ks'→(k ∈ ks→ks' = ks)→(k ∉ ks→ks'.Perm (ks ++ [k]))→Q c { s with heap:=h',toks:=tk })→wpAny (model prog w) A (setAdd S v) Q E s
section
variable {prog:Program} {w:World} {A:Around} {R:Result→Shared→Prop} {I S:Addr} {fp wr:List Addr} {n:Nat} {Pv:Nat→Value→Prop} {St:Nat→Heap→Prop} {τ:Type} {T:Heap→List τ→Prop} {h0:Heap} {Ok:Value→τ→Prop}
end
section
variable {prog:Program} {w:World} {A:Around} {E:Value→Shared→Prop} {s:Shared}
end
end L2
namespace L2
open PySem PySem.Spec PyProof.Rows
section
variable {prog:Program} {w:World} {A:Around} {E:Value→Shared→Prop} {s:Shared}
end
end L2
namespace L2
open PySem PySem.Spec PyProof.Rows
section
variable {prog:Program} {w:World} {A:Around} {E:Value→Shared→Prop} {s:Shared}
end
end L2
namespace L2
open PySem PySem.Spec PyProof.Rows
section
variable {prog:Program} {w:World} {A:Around} {E:Value→Shared→Prop} {s:Shared}
end
end L2
namespace L2
open PySem PySem.Spec PyProof.Rows
section
variable {prog:Program} {w:World} {A:Around} {E:Value→Shared→Prop} {s:Shared}
end
end L2
namespace L2
open PySem PySem.Spec PyProof.Rows
section
variable {prog:Program} {w:World} {A:Around} {E:Value→Shared→Prop} {s:Shared}
end
end L2
namespace L2
open PySem PySem.Spec PyProof.Rows
section
variable {prog:Program} {w:World} {A:Around} {E:Value→Shared→Prop} {s:Shared}
end
end L2
namespace L2
open PySem PySem.Spec PyProof.Rows
section
variable {prog:Program} {w:World} {A:Around} {E:Value→Shared→Prop} {s:Shared}
end
end L2
namespace L2
open PySem PySem.Spec PyProof.Rows
section
variable {X:Cx} {p c:Bool} {io:List Nat} {a e:Expr} {pos pos' pl pr:Pos} {t:TA} {mr:MAt} {ra:FA}
end
end L2
namespace L2
open PySem PySem.Spec PyProof.Rows
section
variable {X:Cx} {io:List Nat} {st:Stmt} {ra:FA}
end
end L2
namespace L2
open PySem PySem.Spec PyProof.Rows
section
variable {κ:Type} [DecidableEq κ]
noncomputable def Zuh (kvs:List (κ × V)) (k:κ):Option V:=(kvs.find? fun kv=>decide (kv.1 = k)).map (·.2)
noncomputable def putK (kvs:List (κ × V)) (k:κ) (v:V):List (κ × V) :=
 if (kvs.any fun kv=>decide (kv.1 = k)) = true then kvs.map (fun kv=>if kv.1 = k then (kv.1,v) else kv) else kvs ++ [(k,v)]
theorem Zw0 {p:κ × V} {r:List (κ × V)} {k:κ} (e:p.1 = k):Zuh (p :: r) k = some p.2:=by simp [Zuh,List.find?_cons,e]
theorem Zul {p:κ × V} {r:List (κ × V)} {k:κ} (e:¬ p.1 = k):Zuh (p :: r) k = Zuh r k:=by simp [Zuh,List.find?_cons,e]
theorem RelO.getD {o:Option V} {u:Option Value} {d:V} {d':Value} (r:RelO o u) (rd:RelV d d'):RelV (o.getD d) (u.getD d'):=by
 cases o with
 | none=>cases u with
  | none=>exact rd
  | some _=>exact (show False from r).elim
 | some _=>cases u with
  | none=>exact (show False from r).elim
  | some _=>exact r
theorem KV.length {kvs:List (κ × V)} {vs:List (κ × Value)} (r:KV kvs vs):kvs.length = vs.length:=Paired.length r
end
noncomputable abbrev KT (H:Hp):List (List Key × V)→List (List Key × Addr × Value)→Prop:=Paired fun p q=>p.1 = q.1∧H q.2.1 = some (.tup (p.1.map kV))∧RelV p.2 q.2.2
section
variable {P:Program} {w:World} {H:Hp} {h:Heap} {a:Addr}
end
noncomputable def DGet (H:Hp) (a:Addr) (y:V) (r:Option V):Prop :=
 (∃ kvs k,Rd H a (.dK kvs)∧y = kV k∧r = Zuh kvs k)∨∃ kvs k b,Rd H a (.dT kvs)∧y = .ref b∧H b = some (.tup (k.map kV))∧r = Zuh kvs k
noncomputable def DPut (H:Hp) (a:Addr) (y v:V) (H':Hp):Prop :=
 (∃ kvs k,H a = some (.dK kvs)∧y = kV k∧kvs.length < sizeLine∧H' = upd H a (.dK (putK kvs k v))) ∨
 ∃ kvs k b,H a = some (.dT kvs)∧y = .ref b∧H b = some (.tup (k.map kV))∧kvs.length < sizeLine∧H' = upd H a (.dT (putK kvs k v))
theorem DGet.k {H:Hp} {a:Addr} {kvs:List (Key × V)} {k:Key} (e:H a = some (.dK kvs)):DGet H a (kV k) (Zuh kvs k):=.inl ⟨kvs,k,.inl e,rfl,rfl⟩
theorem DGet.t {H:Hp} {a b:Addr} {kvs:List (List Key × V)} {k:List Key} (e:H a = some (.dT kvs)) (eb:H b = some (.tup (k.map kV))):DGet H a (.ref b) (Zuh kvs k):=.inr ⟨kvs,k,b,.inl e,rfl,eb,rfl⟩
theorem DPut.k {H:Hp} {a:Addr} {kvs:List (Key × V)} {k:Key} {v:V} (e:H a = some (.dK kvs)) (hl:kvs.length < sizeLine):DPut H a (kV k) v (upd H a (.dK (putK kvs k v))):=.inl ⟨kvs,k,e,rfl,hl,rfl⟩
theorem DPut.t {H:Hp} {a b:Addr} {kvs:List (List Key × V)} {k:List Key} {v:V} (e:H a = some (.dT kvs)) (eb:H b = some (.tup (k.map kV))) (hl:kvs.length < sizeLine) :
  DPut H a (.ref b) v (upd H a (.dT (putK kvs k v))):=.inr ⟨kvs,k,b,e,rfl,eb,hl,rfl⟩
section
variable {X:Cx} {pins:List (Addr × Obj)} {σ:St} {H:Hp} {s:Shared} {a:Addr} {y v:V} {u r:Value} {o:Option V} {A:Around} {E:Value→Shared→Prop}
end
section
variable {X:Cx} {pins:List (Addr × Obj)} {σ:St} {H:Hp} {s:Shared} {a:Addr} {kvs:List (Key × V)} {k:Key} {u:Value} {A:Around} {E:Value→Shared→Prop}
end
section
variable {X:Cx} {o i e value:Expr} {pos pos' tpos:Pos} {td ty tv:TE}
end
section
variable {X:Cx} {pos:Pos}
end
noncomputable abbrev VV:List (V × V)→List (Value × Value)→Prop:=Paired fun p q=>RelV p.1 q.1∧RelV p.2 q.2
structure M1 (X:Cx) (o:Expr) (m:Str) (apos:Pos) (e:Expr) (cpos:Pos):Prop where
 base:attributeBase o m X.env (eval o X.env) = eval o X.env
 few:((backTo cpos (starEach [e] X.env)).all (fun x=>!x.1) && (backToKw cpos (keywordEach [] X.env)).all (fun x=>x.1.isSome)
  && decide (([e]:List Expr).length + ([]:List Keyword).length + (if ([]:List Keyword).isEmpty then 0 else 1) < 30)) = true
 line:(apos.endLine == cpos.line) = true
 trees:backTo cpos (starEach [e] X.env) = [(false,eval e X.env)]
structure M2 (X:Cx) (o:Expr) (m:Str) (apos:Pos) (e f:Expr) (cpos:Pos):Prop where
 base:attributeBase o m X.env (eval o X.env) = eval o X.env
 few:((backTo cpos (starEach [e,f] X.env)).all (fun x=>!x.1) && (backToKw cpos (keywordEach [] X.env)).all (fun x=>x.1.isSome)
  && decide (([e,f]:List Expr).length + ([]:List Keyword).length + (if ([]:List Keyword).isEmpty then 0 else 1) < 30)) = true
 line:(apos.endLine == cpos.line) = true
 trees:backTo cpos (starEach [e,f] X.env) = [(false,eval e X.env),(false,eval f X.env)]
section
variable {X:Cx} {pins:List (Addr × Obj)} {σ:St} {H:Hp} {s:Shared} {a:Addr} {y d:V} {u r:Value} {o:Option V} {A:Around} {E:Value→Shared→Prop}
end
section
variable {X:Cx} {o e f:Expr} {apos cpos:Pos} {td ty tx:TE}
end
end L2
namespace L2
open PySem PySem.Spec PyProof.Rows
variable {G:PySem.W.Frag}
noncomputable def Z83 (k:KY):List KY→List PyData→Option PyData
 | [],_=>none
 | _ :: _,[]=>none
 | j :: ks,d :: ds=>if j = k then some d else Z83 k ks ds
section
variable {H:Hp} {L:Addr→Prop} {κ:Type} [DecidableEq κ] {f:κ→KY}
noncomputable def Yb8 (G:PySem.W.Frag) (H:Hp) (L:Addr→Prop) (a:Option V) (b:Option PyData):Prop:=(∃ v d,a = some v∧b = some d∧Da G H L v d)∨(a = none∧b = none)
theorem look (hf:∀ a b,f a = f b→a = b) (k:κ) (kvs:List (κ × V)):∀ ds,Das G H L (kvs.map (·.2)) ds→Yb8 G H L (Zuh kvs k) (Z83 (f k) (kvs.map fun p=>f p.1) ds):=by
 induction kvs with
 | nil=>exact fun ds _=>.inr ⟨rfl,rfl⟩
 | cons p kvs ih =>
  intro ds h
  cases h with
  | cons h r =>
   rename_i d ds
   show Yb8 G H L _ (if f p.1 = f k then some d else Z83 (f k) (kvs.map fun p=>f p.1) ds)
   by_cases e:p.1 = k
   ·rw [Zw0 e,if_pos (congrArg f e)]
    exact .inl ⟨_,_,rfl,rfl,h⟩
   ·rw [Zul e,if_neg fun z=>e (hf _ _ z)]
    exact ih _ r
end
section
variable {H:Hp} {L:Addr→Prop} {y:V} {e:PyData}
end
end L2
namespace L2
open PySem PySem.Spec PyProof.Rows
variable {G:PySem.W.Frag}
section
variable {X:Cx} {io:List Nat} {p c p' c':Bool} {a b e f o:Expr} {ma mb m mi mo me mf:MEt} {pos pp apos cpos px:Pos} {i:Nat} {x:Str}
end
end L2
namespace L2
open PySem PySem.Spec PyProof.Rows
variable {G:PySem.W.Frag}
end L2
namespace L2
open PySem PySem.Spec PyProof.Rows PySem.W PySem.SeqAt
variable {G:PySem.W.Frag}
section
variable {prog:Program} {w:World} {A:Around} {E:Value→Shared→Prop} {s:Shared}
end
theorem Paired.at {α β:Type} {R:α→β→Prop} {as:List α} {bs:List β} (h:PySem.Paired R as bs):∀ {i:Nat} {y:β},bs[i]? = some y→∃ x,as[i]? = some x∧R x y:=by
 induction h with
 | nil=>intro i y z; cases z
 | cons h t ih =>
  intro i y z
  cases i with
  | zero=>cases z; exact ⟨_,rfl,h⟩
  | succ i=>exact ih z
end L2
namespace L2
open PySem PySem.Spec PyProof.Rows
variable {G:PySem.W.Frag}
section
variable {X:Cx} {io:List Nat} {p c:Bool} {e f:Expr} {mr:MAt} {pos apos cpos px:Pos} {x:Str} {st:Stmt} {ra:FA}
end
end L2
namespace L2
open PySem PySem.Spec PyProof.Rows PySem.W PySem.SeqAt
end L2
namespace L2
open PySem PySem.Spec PyProof.Rows
variable {G:PySem.W.Frag}
noncomputable def Z5n (K:PySem.W.Frag):R2:=fun x y H Q=>Z3t K x y H Q∨∃ a b ys,x = .ref a∧y = .ref b∧SqT K H a []∧SqT K H b ys∧Q (.ref b) H
theorem Zyy {X:Cx}:OpR X (binaryOp .Add) (Z5n X.K):=by
 intro pins s σ H x y v u Q I rx ry h
 rcases h with h | h
 ·exact Zyz pins s σ H x y v u Q I rx ry h
 ·obtain ⟨a,b,ys,rfl,rfl,ha,hb,q⟩:=h
  cases rx
  cases ry
  obtain ⟨its,r1,p1,_⟩:=I.tuple ha
  obtain ⟨its2,r2,p2,_⟩:=I.tuple hb
  cases r1
  obtain ⟨⟨cls,dd,data,sl⟩,ho,hc,n,hd⟩:=id p1
  obtain ⟨⟨cls2,dd2,data2,sl2⟩,ho2,hc2,n2,hd2⟩:=id p2
  simp only at hc hd hc2 hd2
  subst hc hd hc2 hd2
  exact concat_meets ⟨_,ho,rfl⟩ ⟨_,ho2,rfl⟩ noFill_tuple_add seq_tuple_add PySem.F.slot_tuple_add PySem.F.entry_tuple_add (PySem.F.args_tuple_add_2 _ _)
   (tuple_addW0 a b _ its2.toArray n n2 dd dd2 sl sl2 rfl) ⟨ho,ho2,.ref b,H,I,rfl,q⟩
noncomputable def Zpu:PyData→PyData→Option OT:=fun d e=>match d,e with | .tuple ds,.tuple es=>if ds.length + es.length ≤ sizeLine then some (.fz (.tuple (ds ++ es))) else none | _,_=>none
noncomputable def Z53:PyData→PyData→(OT→Prop)→Prop:=fun d e k=>∃ r,Zpu d e = some r∧k r
theorem Z3z:ByO Zpu Z53:=fun _ _ r _ h hk=>⟨r,h,hk⟩
theorem Z1x:P2 G (Z5n G) Z53:=fun H L x y d e k Q hx hy h kk=>by
 obtain ⟨r,h,hk⟩:=h
 unfold Zpu at h
 split at h
 case h_2=>cases h
 rename_i ds es
 by_cases c:ds.length + es.length ≤ sizeLine
 ·rw [if_pos c] at h
  cases h
  have same:∀ v,Da G H L v (.tuple (ds ++ es))→Q v H:=fun v q=>kk H v _ [] (Same.refl _) (.fz (q.wide fun a l _=>⟨.inl l,fun m=>nomatch m⟩)) .nil (fun a m=>nomatch m) hk
  cases hx with
  | tup e1 r1 =>
   cases hy with
   | tup e2 r2 =>
    rename_i a1 xs1 a2 xs2
    by_cases z:xs1 = []
    ·subst z
     cases r1
     exact .inr ⟨_,_,_,rfl,rfl,.inl (.inl e1),.inl (.inl e2),same _ (.tup e2 r2)⟩
    ·refine .inl ⟨_,_,_,_,rfl,rfl,.inl (.inl e1),.inl (.inl e2),z,by rw [r1.length,r2.length]; exact c,fun w=>?_,fun w p hp=>?_⟩
     ·subst w
      cases r2
      rw [List.append_nil] at same
      exact same _ (.tup e1 r1)
     ·exact kk _ _ _ [] (Yc hp _) (.fz (.tup Z7 (((r1.append r2).wide fun a l _=>⟨.inl l,fun m=>nomatch m⟩).same (Yc hp _)))) .nil (fun a m=>nomatch m) hk
 ·rw [if_neg c] at h; cases h
end L2
namespace L2
open PySem PySem.Spec PyProof.Rows
noncomputable def Yah (o:Option (Option OT)) (δ:Zh):Option (OT × Zh):=match o with | some (some (.fz d))=>some (.fz d,δ) | _=>none
theorem Zzm (d:PyData) (δ:Zh):Yah (some (some (.fz d))) δ = some (.fz d,δ):=rfl
noncomputable def Z31 (o:Option (Option OT)) (δ:Zh):Option (OT × Zh):=match o with | some (some t)=>some (.fz t.data,δ) | _=>none
theorem Zz2 (t:OT) (δ:Zh):Z31 (some (some t)) δ = some (.fz t.data,δ):=rfl
theorem Z0v (i:Nat) (δ:Zh):Zd i δ = Yah δ[i]? δ:=rfl
theorem Z0w (i:Nat) (δ:Zh):Zma i δ = Z31 δ[i]? δ:=rfl
theorem Z9e (d:PyData) (δ:Zh):fC d δ = some (.fz d,δ):=rfl
theorem Zvg (g:PyData→PyData→Option PyData) (a b:FE) (δ:Zh):Zj g a b δ = (a δ).bind fun p=>(b p.2).bind fun q=>(g p.1.data q.1.data).bind fun d=>some (.fz d,q.2):=rfl
theorem Zzs (g:PyData→PyData→Option OT) (a b:FE) (δ:Zh):Yg g a b δ = (a δ).bind fun p=>(b p.2).bind fun q=>(g p.1.data q.1.data).bind fun d=>some (d,q.2):=rfl
theorem Z3k (g:PyData→Option PyData) (a:FE) (δ:Zh):fUn g a δ = (a δ).bind fun p=>(g p.1.data).bind fun d=>some (.fz d,p.2):=rfl
noncomputable def onB {α:Type} (d:PyData) (x y:Option α):Option α:=match d with | .bool true=>x | .bool false=>y | _=>none
theorem Z8a {α:Type} (x y:Option α):onB (.bool true) x y = x:=rfl
theorem Z9t {α:Type} (x y:Option α):onB (.bool false) x y = y:=rfl
theorem Ztc (a b:FE) (δ:Zh):Zqc a b δ = (a δ).bind fun p=>onB p.1.data (b p.2) (some (.fz (.bool false),p.2)):=by
 unfold Zqc onB
 cases a δ with
 | none=>rfl
 | some p=>first | rfl | (simp only [Option.bind_some]; done) | (simp only [Option.bind_some]; generalize p.1.data = d; cases d <;> first | rfl | (rename_i b; cases b <;> rfl))
theorem Yb5 (a b:FE) (δ:Zh):fOr a b δ = (a δ).bind fun p=>onB p.1.data (some (.fz (.bool true),p.2)) (b p.2):=by
 unfold fOr onB
 cases a δ with
 | none=>rfl
 | some p=>first | rfl | (simp only [Option.bind_some]; done) | (simp only [Option.bind_some]; generalize p.1.data = d; cases d <;> first | rfl | (rename_i b; cases b <;> rfl))
theorem Yb2 (t:FT) (a b:FE) (δ:Zh):fIf t a b δ = (t δ).bind fun p=>if p.1 = true then a p.2 else b p.2:=rfl
noncomputable def Z78 (t:OT) (δ:Zh):Option (Bool × Zh):=match t with | .fz (.bool b)=>some (b,δ) | _=>none
theorem Z6c (b:Bool) (δ:Zh):Z78 (.fz (.bool b)) δ = some (b,δ):=rfl
theorem Z8c (e:FE) (δ:Zh):tV e δ = (e δ).bind fun p=>Z78 p.1 p.2:=by
 unfold tV Z78
 cases e δ with
 | none=>rfl
 | some p=>rfl
theorem Z23 (t:FT) (δ:Zh):tNo t δ = (t δ).bind fun p=>some (!p.1,p.2):=rfl
theorem Ybb (t u:FT) (δ:Zh):tAn t u δ = (t δ).bind fun p=>if p.1 = true then u p.2 else some (false,p.2):=rfl
theorem Z7g (t u:FT) (δ:Zh):tO t u δ = (t δ).bind fun p=>if p.1 = true then some (true,p.2) else u p.2:=rfl
theorem Z7p (e:FE) (δ:Zh):tD e δ = (e δ).bind fun p=>(Zvf p.1.data).bind fun b=>some (b,p.2):=rfl
theorem Z8j (δ:Zh):Zhs δ = some (true,δ):=rfl
theorem Z7m (δ:Zh):Zo δ = some ([],δ):=rfl
theorem Zw4 (e:FE) (a:FA) (δ:Zh):Zc e a δ = (e δ).bind fun p=>(a p.2).bind fun q=>some (p.1 :: q.1,q.2):=rfl
theorem Zr7 (a:FA) (δ:Zh):Zez a δ = (a δ).bind fun p=>if p.1.length ≤ sizeLine then some (.fz (.tuple (OT.datas p.1)),p.2) else none:=rfl
theorem Zt0 (a:FA) (δ:Zh):Zf4 a δ = (a δ).bind fun p=>if p.1.length ≤ sizeLine then some (.nd p.1,p.2) else none:=rfl
theorem Z6q (a:FA) (δ:Zh):Z7i a δ = (a δ).bind fun p=>if p.1.length ≤ sizeLine then some (.tp p.1,p.2) else none:=rfl
theorem Z6o (e:FE) (δ:Zh):Z84 e δ = (e δ).bind fun p=>if Zgh p.1.data = true then some (.fz p.1.data,p.2) else none:=rfl
theorem Z5j (e:FE) (δ:Zh):Z28 e δ = (e δ).bind fun p=>if Z1l p.1 = true then some (p.1,p.2) else none:=rfl
noncomputable def okO (x:RF) (δ:Zh):Option (OT × Zh):=match x with | .ok r=>some (r,δ) | _=>none
theorem Z54 (r:OT) (δ:Zh):okO (.ok r) δ = some (r,δ):=rfl
theorem Zom (F:FD) (a:FA) (δ:Zh):Zt F a δ = (a δ).bind fun p=>okO (F (OT.datas p.1)) p.2:=by
 unfold Zt okO
 cases a δ with
 | none=>rfl
 | some p=>rfl
noncomputable def atO {α:Type} (o:Option (Option OT)) (k:OT→Option α):Option α:=match o with | some (some t)=>k t | _=>none
theorem Ydw {α:Type} (t:OT) (k:OT→Option α):atO (some (some t)) k = k t:=rfl
theorem Z5z (i:Nat) (F:FIO) (a:FA) (δ:Zh):Zxc i F a δ = atO δ[i]? fun _=>(a δ).bind fun p=>atO p.2[i]? fun t=>(F t (OT.datas p.1)).bind fun q=>some (q.1,p.2.set i (some q.2)):=by
 unfold Zxc
 generalize δ[i]? = o
 rcases o with _ | _ | t
 ·rfl
 ·rfl
 ·show (a δ).bind _ = (a δ).bind _
  cases a δ with
  | none=>rfl
  | some p =>
   show (fun o:Option (Option OT)=>(match o with | some (some t)=>(F t (OT.datas p.1)).bind fun q=>some (q.1,p.2.set i (some q.2)) | _=>none)) p.2[i]? = atO p.2[i]? _
   generalize p.2[i]? = o
   rcases o with _ | _ | t <;> rfl
theorem Zzk (g:List PyData→Option PyData) (a:FA) (δ:Zh):Za9 g a δ = (a δ).bind fun p=>(g (OT.datas p.1)).bind fun d=>some (.fz d,p.2):=rfl
theorem Z4g (g:List PyData→Option OT) (a:FA) (δ:Zh):fBl g a δ = (a δ).bind fun p=>(g (OT.datas p.1)).bind fun d=>some (d,p.2):=rfl
theorem Z05 (T:String) (e:FE) (δ:Zh):Zl5 T e δ = (e δ).bind fun p=>if Zhc p.1.data = true then none else some (.fz (.bool (Zof T p.1.data)),p.2):=rfl
theorem Ydp (δ:Zh):oN δ = some (none,δ):=rfl
noncomputable def asInt {α:Type} (d:PyData) (k:Int→Option α):Option α:=match d with | .int i=>k i | _=>none
theorem Zql {α:Type} (i:Int) (k:Int→Option α):asInt (.int i) k = k i:=rfl
noncomputable def Zru {α:Type} (d:PyData) (k:List PyData→Option α):Option α:=match d with | .list i=>k i | _=>none
theorem Zs0 {α:Type} (i:List PyData) (k:List PyData→Option α):Zru (.list i) k = k i:=rfl
noncomputable def Zz3 {α:Type} (d:PyData) (k:List PyData→Option α):Option α:=match d with | .tuple i=>k i | _=>none
theorem Z9m {α:Type} (i:List PyData) (k:List PyData→Option α):Zz3 (.tuple i) k = k i:=rfl
theorem Z9u (e:FE) (δ:Zh):oI e δ = (e δ).bind fun p=>asInt p.1.data fun i=>some (some i,p.2):=by
 unfold oI asInt
 cases e δ with
 | none=>rfl
 | some p=>rfl
theorem Z3e (e:FE) (lo hi:FO) (δ:Zh):fSl e lo hi δ = (e δ).bind fun p=>(lo p.2).bind fun q=>(hi q.2).bind fun r=>Zru p.1.data fun ds=>some (.nd ((cutD ds q.1 r.1).map OT.fz),r.2):=by
 unfold fSl Zru; rfl
theorem Z1g (e:FE) (δ:Zh):Zer e δ = (e δ).bind fun p=>Zru p.1.data fun ds=>some (ds,p.2):=by
 unfold Zer Zru; rfl
theorem Ybv (e:FE) (δ:Zh):iTp e δ = (e δ).bind fun p=>Zz3 p.1.data fun ds=>some (ds,p.2):=by
 unfold iTp Zz3; rfl
noncomputable def as1 {α:Type} (ds:List PyData) (k:Int→Option α):Option α:=match ds with | [.int i]=>k i | _=>none
theorem Z4b {α:Type} (i:Int) (k:Int→Option α):as1 [.int i] k = k i:=rfl
noncomputable def as2 {α:Type} (ds:List PyData) (k:Int→Int→Option α):Option α:=match ds with | [.int i,.int j]=>k i j | _=>none
theorem Z9v {α:Type} (i j:Int) (k:Int→Int→Option α):as2 [.int i,.int j] k = k i j:=rfl
theorem Zyi (a:FA) (δ:Zh):iRa a δ = (a δ).bind fun p=>as1 (OT.datas p.1) fun j=>if rOk j = true then some (Ze0 0 j.toNat,p.2) else none:=by
 unfold iRa as1; rfl
theorem Z41 (a:FA) (δ:Zh):iRb a δ = (a δ).bind fun p=>as2 (OT.datas p.1) fun i j=>if (rOk i && rOk j) = true then some (Ze0 i (j - i).toNat,p.2) else none:=by
 unfold iRb as2; rfl
theorem Z7o (a:FA) (δ:Zh):Ybr a δ = (a δ).bind fun p=>as1 (OT.datas p.1) fun j=>if rOk j = true∧j.toNat ≤ sizeLine then some (.nd ((Ze0 0 j.toNat).map OT.fz),p.2) else none:=by
 unfold Ybr as1; rfl
theorem Zm7 (a b:FE) (δ:Zh):Zuk a b δ = (a δ).bind fun p=>(b p.2).bind fun q=>asInt q.1.data fun k=>if rOk k = true∧k.toNat ≤ sizeLine then some (.nd (List.replicate k.toNat (.fz p.1.data)),p.2) else none:=by
 unfold Zuk asInt; rfl
noncomputable def Z72 {α:Type} (ds:List PyData) (k:List PyData→List PyData→Option α):Option α:=match ds with | [.list i,.list j]=>k i j | _=>none
theorem Yao {α:Type} (i j:List PyData) (k:List PyData→List PyData→Option α):Z72 [.list i,.list j] k = k i j:=rfl
theorem Z6t (a:FA) (δ:Zh):Z58 a δ = (a δ).bind fun p=>Z72 (OT.datas p.1) fun as bs=>some (Zhy as bs,p.2):=by
 unfold Z58 Z72; rfl
theorem Ybc (i:Nat) (d:PyData) (δ:Zh):gNm i d δ = some (δ.set i (some (.fz d))):=rfl
theorem Z75 (i:Nat) (d:PyData) (δ:Zh):Yc0 i d δ = if Zgh d = true then some (δ.set i (some (.fz d))) else none:=rfl
theorem Z97 (δ:Zh):gNl [] δ = some δ:=rfl
theorem Z98 (g:FG) (gs:FGs) (d:PyData) (r:List PyData) (δ:Zh):gCn g gs (d :: r) δ = (g d δ).bind (gs r):=rfl
theorem Yar (n:Nat) (gs:FGs) (ds:List PyData) (δ:Zh):gTp n gs (.tuple ds) δ = if ds.length = n then gs ds δ else none:=rfl
theorem Yat (n:Nat) (gs:FGs) (ds:List PyData) (δ:Zh):gLs n gs (.list ds) δ = if ds.length = n then gs ds δ else none:=rfl
noncomputable def RS.thn (r:RS) (g:FS):RS:=match r with | .nx δ=>g δ | r=>r
theorem Z22 (δ:Zh) (g:FS):(RS.nx δ).thn g = g δ:=rfl
theorem Z2w (r:OT) (δ:Zh) (g:FS):(RS.rt r δ).thn g = .rt r δ:=rfl
theorem Ybn (δ:Zh) (g:FS):(RS.bk δ).thn g = .bk δ:=rfl
theorem Ya7 (δ:Zh) (g:FS):(RS.ct δ).thn g = .ct δ:=rfl
theorem Yas (c:Str) (δ:Zh) (g:FS):(RS.ex c δ).thn g = .ex c δ:=rfl
theorem Zsp (f g:FS) (δ:Zh):Z3 f g δ = (f δ).thn g:=rfl
theorem Ya1 (δ:Zh):fNx δ = .nx δ:=rfl
theorem Z8t (δ:Zh):Ydk δ = .bk δ:=rfl
theorem Z81 (δ:Zh):Yc4 δ = .ct δ:=rfl
theorem Z5b (c:Str) (δ:Zh):Zoe c δ = .ex c δ:=rfl
theorem Z68 (δ:Zh):Z7h δ = .rt (.fz .none) δ:=rfl
noncomputable def onO {α:Type} (o:Option (α × Zh)) (k:α→Zh→RS):RS:=match o with | some (r,δ')=>k r δ' | none=>.bad
theorem Yw {α:Type} (r:α) (δ:Zh) (k:α→Zh→RS):onO (some (r,δ)) k = k r δ:=rfl
theorem Zci (e:FE) (k:OT→Zh→RS) (δ:Zh):wE e k δ = onO (e δ) k:=by
 unfold wE onO
 cases e δ <;> rfl
noncomputable def onF (x:RF) (δ:Zh) (k:OT→Zh→RS):RS:=match x with | .ok r=>k r δ | .exn c=>.ex c δ | .bad=>.bad
theorem Yax (r:OT) (δ:Zh) (k:OT→Zh→RS):onF (.ok r) δ k = k r δ:=rfl
theorem Yay (c:Str) (δ:Zh) (k:OT→Zh→RS):onF (.exn c) δ k = .ex c δ:=rfl
theorem Yc3 (F:FD) (a:FA) (k:OT→Zh→RS) (δ:Zh):wX F a k δ = onO (a δ) fun rs δ1=>onF (F (OT.datas rs)) δ1 k:=by
 unfold wX onO onF
 cases a δ with
 | none=>rfl
 | some p=>rfl
theorem Ztu (t:FT) (u w:FS) (δ:Zh):Zbe t u w δ = onO (t δ) fun b δ'=>if b = true then u δ' else w δ':=by
 unfold Zbe onO
 cases t δ <;> rfl
theorem Zzu (it:FI) (g:FG) (u:FS) (δ:Zh):Jz it g u δ = onO (it δ) fun ds δ1=>forLoop g u ds δ1:=by
 unfold Jz onO
 cases it δ <;> rfl
theorem Zvk (r:OT) (δ:Zh):Zvt r δ = .nx δ:=rfl
theorem Zzr (r:OT) (δ:Zh):W3 r δ = .rt r δ:=rfl
theorem Z6x (r:OT) (δ:Zh):Z9w r δ = if Zgh r.data = true then .rt (.fz r.data) δ else .bad:=rfl
theorem Zta (i:Nat) (r:OT) (δ:Zh):Y4 i r δ = .nx (δ.set i (some (.fz r.data))):=rfl
theorem Z6w (i:Nat) (r:OT) (δ:Zh):Z87 i r δ = if Zgh r.data = true then .nx (δ.set i (some (.fz r.data))) else .bad:=rfl
theorem Zv7 (i:Nat) (r:OT) (δ:Zh):Zbb i r δ = .nx (δ.set i (some r)):=rfl
noncomputable def onD (o:Option Zh):RS:=match o with | some δ=>.nx δ | none=>.bad
theorem Z6z (δ:Zh):onD (some δ) = .nx δ:=rfl
theorem Z8s (g:FG) (r:OT) (δ:Zh):Ycw g r δ = onD (g r.data δ):=rfl
noncomputable def onT (o:Option (Option OT)) (k:OT→RS):RS:=match o with | some (some t)=>k t | _=>.bad
theorem Z0h (t:OT) (k:OT→RS):onT (some (some t)) k = k t:=rfl
theorem Zor (i:Nat) (δ:Zh):Zd1 i δ = onT δ[i]? fun t=>.rt t (δ.set i none):=rfl
theorem Zph (i:Nat) (u:FS) (δ:Zh):Zfp i u δ = onT δ[i]? fun t=>u (δ.set i (some (.fz t.data))):=rfl
noncomputable def onN (o:Option (Option OT)) (k:List OT→RS):RS:=match o with | some (some (.nd ts))=>k ts | _=>.bad
theorem Z5x (t:List OT) (k:List OT→RS):onN (some (some (.nd t))) k = k t:=rfl
theorem Zpl (i:Nat) (e:FE) (δ:Zh):Y9 i e δ = onN δ[i]? fun _=>onO (e δ) fun r δ1=>onN δ1[i]? fun ts=>if ts.length < sizeLine then .nx (δ1.set i (some (.nd (ts ++ [.fz r.data])))) else .bad:=by
 unfold Y9
 generalize δ[i]? = o
 rcases o with _ | _ | (_ | _ | _ | _)
 ·rfl
 ·rfl
 ·rfl
 ·show wE e _ δ = onO (e δ) _
  rw [Zci]
  congr 1
 ·rfl
 ·rfl
theorem Zzf (i:Nat) (e:FE) (δ:Zh):Zng i e δ = onN δ[i]? fun _=>onO (e δ) fun r δ1=>onN δ1[i]? fun ts=>if ts.length < sizeLine then .nx (δ1.set i (some (.nd (ts ++ [r])))) else .bad:=by
 unfold Zng
 generalize δ[i]? = o
 rcases o with _ | _ | (_ | _ | _ | _)
 ·rfl
 ·rfl
 ·rfl
 ·show wE e _ δ = onO (e δ) _
  rw [Zci]
  congr 1
 ·rfl
 ·rfl
noncomputable def onI (d:PyData) (k:Int→RS):RS:=match d with | .int i=>k i | _=>.bad
theorem Yc1 (i:Int) (k:Int→RS):onI (.int i) k = k i:=rfl
noncomputable def onX (o:Option Nat) (k:Nat→RS):RS:=match o with | some i=>k i | _=>.bad
theorem Ydr (i:Nat) (k:Nat→RS):onX (some i) k = k i:=rfl
theorem Z9r (i:Nat) (e j:FE) (δ:Zh):Ybe i e j δ = onO (e δ) fun r δ1=>onN δ1[i]? fun ts=>onO (j δ1) fun n _=>onI n.data fun k=>onX (ixN ts.length k) fun j=>.nx (δ1.set i (some (.nd (ts.set j (.fz r.data))))):=by
 unfold Ybe
 rw [Zci]
 congr 1
 funext r δ1
 generalize δ1[i]? = o
 rcases o with _ | _ | (_ | _ | _ | _)
 ·rfl
 ·rfl
 ·rfl
 ·show wE j _ δ1 = onO (j δ1) _
  rw [Zci]
  congr 1
  funext n δ2
  generalize n.data = d
  cases d <;> try rfl
  show (match ixN _ _ with | some j=>_ | none=>_) = onX (ixN _ _) _
  generalize ixN _ _ = x
  cases x <;> rfl
 ·rfl
 ·rfl
noncomputable def onU (o:Option OT) (k:List OT→RS):RS:=match o with | some (.nd ts)=>k ts | _=>.bad
theorem Ydn (t:List OT) (k:List OT→RS):onU (some (.nd t)) k = k t:=rfl
noncomputable def onP (o:Option (Option OT)) (k:List OT→RS):RS:=match o with | some (some (.tp ts))=>k ts | _=>.bad
theorem Ycm (t:List OT) (k:List OT→RS):onP (some (some (.tp t))) k = k t:=rfl
theorem Z4n (i c:Nat) (e:FE) (δ:Zh):Zxx i c e δ = onP δ[i]? fun ts=>onU ts[c]? fun us=>onO (e δ) fun r _=>if us.length < sizeLine then .nx (δ.set i (some (.tp (ts.set c (.nd (us ++ [.fz r.data])))))) else .bad:=by
 unfold Zxx
 generalize δ[i]? = o
 rcases o with _ | _ | (_ | _ | ts | _)
 ·rfl
 ·rfl
 ·rfl
 ·rfl
 ·show (match ts[c]? with | some (.nd us)=>wE e _ δ | _=>_) = onU ts[c]? _
  generalize ts[c]? = o
  rcases o with _ | (_ | _ | _ | _)
  ·rfl
  ·rfl
  ·show wE e _ δ = onO (e δ) _
   rw [Zci]
  ·rfl
  ·rfl
 ·rfl
noncomputable def on2 (ds:List PyData) (k:PyData→PyData→RS):RS:=match ds with | [d,e]=>k d e | _=>.bad
theorem Ydj (d e:PyData) (k:PyData→PyData→RS):on2 [d,e] k = k d e:=rfl
theorem Z91 (i j:Nat) (a:FA) (δ:Zh):Yb4 i j a δ = onO (a δ) fun rs δ1=>on2 (OT.datas rs) fun d e=>.nx ((δ1.set i (some (.fz d))).set j (some (.fz e))):=by
 unfold Yb4 onO on2
 cases a δ <;> rfl
theorem Zg1 {np n:Nat} {S:FS} {ds:List PyData} (h:ds.length = np):Je np n S ds = (S (Zf3 n ds)).told:=by
 unfold Je; rw [if_pos h]
theorem Z1o (δ:Zh):(RS.nx δ).told = .ok (.fz .none):=rfl
theorem Zrz (r:OT) (δ:Zh):(RS.rt r δ).told = .ok r:=rfl
theorem Z96 (c:Str) (δ:Zh):(RS.ex c δ).told = .exn c:=rfl
theorem Ybd (i j:Int):Zdp (.int i) (.int j) = some (.int (i + j)):=rfl
theorem Ydu (i j:Int):gSb (.int i) (.int j) = some (.int (i - j)):=rfl
theorem Ydd (i j:Int):gLt (.int i) (.int j) = some (.bool (decide (i < j))):=rfl
theorem Ycd (i j:Int):gLe (.int i) (.int j) = some (.bool (decide (i ≤ j))):=rfl
theorem Z8m (i j:Int):gGt (.int i) (.int j) = some (.bool (decide (j < i))):=rfl
theorem Z9l (i j:Int):gGe (.int i) (.int j) = some (.bool (decide (j ≤ i))):=rfl
theorem Zen {i j:Int} (h:Z0a i j = true):Zfr (.int i) (.int j) = some (.int (i * j)):=by
 unfold Zfr i2c; dsimp only; rw [if_pos h]
theorem Zhl {i j:Int} (h:Z3n i j = true):Zau (.int i) (.int j) = some (.int (i.fdiv j)):=by
 unfold Zau i2c; dsimp only; rw [if_pos h]
theorem Z6e {i j:Int} (h:j ≠ 0):Zf6 (.int i) (.int j) = some (.int (i.fmod j)):=by
 unfold Zf6 i2c Ya0; dsimp only; rw [if_pos (decide_eq_true h)]
theorem Zd0 {m n:Nat} {x y:Int} (h:Bt m x) (k:Bt n y) (hmn:m + n ≤ 100000000:=by decide):Z0a x y = true:=Zgj.mpr (h.mulOk k hmn)
theorem Z4r {x y:Int} (h:x.natAbs < 2 ^ 64):Z0a x y = true:=Zgj.mpr (.of_left (intBits_le_64 (by omega) (by omega)))
theorem Z5w {x y:Int} (h:y.natAbs < 2 ^ 64):Z0a x y = true:=Zgj.mpr (.of_right (intBits_le_64 (by omega) (by omega)))
theorem Zgx {n:Nat} {i j:Int} (h0:j ≠ 0) (h:Bt n j) (hn:n ≤ 9000:=by decide):Z3n i j = true:=by
 obtain ⟨h1,h2⟩:=DivOk.of (i:=i) h0 h hn
 unfold Z3n
 rw [decide_eq_true h1,decide_eq_true h2]; rfl
theorem Z8e (i j:Int):gEq (.int i) (.int j) = some (.bool (decide (i = j))):=by
 show some (PyData.bool (i == j)) = _
 rw [show (i == j) = decide (i = j) from rfl]
theorem Z8l (i j:Int):gNe (.int i) (.int j) = some (.bool (!decide (i = j))):=by
 show some (PyData.bool (!(i == j))) = _
 rw [show (i == j) = decide (i = j) from rfl]
theorem Yda (d:PyData):gIs d .none = some (.bool (Zfm d)):=rfl
theorem Z7d (d:PyData):Zlc d .none = some (.bool (!Zfm d)):=rfl
theorem Zkn (ds:List PyData) (i:Int):gIx (.list ds) (.int i) = (atI ds i).bind fun x=>some (.fz x):=rfl
theorem Z88 (ds:List PyData) (i:Int):gIx (.tuple ds) (.int i) = (atI ds i).bind fun x=>some (.fz x):=rfl
theorem Zok (ds:List PyData):Zcg [.list ds] = some (.int ds.length):=rfl
theorem Zxv (ds:List PyData):Zcg [.tuple ds] = some (.int ds.length):=rfl
theorem Zq0 (i:Int):Z2g [.int i] = some (.int (i.natAbs:Int)):=by
 show some (PyData.int (if i < 0 then -i else i)) = _
 congr 2; split <;> omega
theorem Ybg (i j:Int):Ycq [.int i,.int j] = some (.int (if j > i then j else i)):=rfl
theorem Z5e (i j:Int):Zx6 [.int i,.int j] = some (.int (if j < i then j else i)):=rfl
theorem Yag (i:Int):Yby [.int i] = some (.int i):=rfl
theorem Yb6 (b:Bool):Yby [.bool b] = some (.int (if b then 1 else 0)):=rfl
theorem Z7j (ds:List PyData):Z46 [.list ds] = some (.nd (ds.map OT.fz)):=rfl
theorem Z7n (ds:List PyData):Z46 [.tuple ds] = some (.nd (ds.map OT.fz)):=rfl
theorem Z3c {ds es:List PyData} (h:ds.length + es.length ≤ sizeLine):Zui (.list ds) (.list es) = some (.nd ((ds ++ es).map OT.fz)):=by
 unfold Zui; dsimp only; rw [if_pos h]
theorem Z4u (i:Int):Zue (.int i) = some (.int (-i)):=rfl
theorem Ybo (b:Bool):Z7f (.bool b) = some (.bool (!b)):=rfl
theorem Yai (b:Bool):Zvf (.bool b) = some b:=rfl
theorem Ya5 (i:Int):Zvf (.int i) = some (i != 0):=rfl
theorem Ya3:Zvf .none = some false:=rfl
theorem Yaa (ds:List PyData):Zvf (.list ds) = some (!ds.isEmpty):=rfl
theorem Zox {gg:FG} {u:FS} {ds:List PyData} {δ:Zh} (I:Nat→Zh→Prop) (h0:I 0 δ)
  (turn:∀ (i:Nat) (d:PyData) (δ:Zh),ds[i]? = some d→I i δ→∃ δ1 δ2,gg d δ = some δ1∧(u δ1 = .nx δ2∨u δ1 = .ct δ2)∧I (i + 1) δ2):∃ δ',forLoop gg u ds δ = .nx δ'∧I ds.length δ':=by
 induction ds generalizing δ I with
 | nil=>exact ⟨δ,rfl,h0⟩
 | cons d ds ih =>
  obtain ⟨δ1,δ2,e1,e2,h1⟩:=turn 0 d δ rfl h0
  obtain ⟨δ',e3,h3⟩:=ih (δ:=δ2) (fun i δ=>I (i + 1) δ) h1 fun i d' δ hd hi=>turn (i + 1) d' δ (by simpa using hd) hi
  refine ⟨δ',?_,h3⟩
  rw [Jy,e1]
  dsimp only
  rcases e2 with e2 | e2 <;> rw [e2] <;> exact e3
noncomputable def Goes (r:RS) (Q:Zh→Prop):Prop:=∃ δ,(r = .nx δ∨r = .ct δ)∧Q δ
theorem Goes.nx {δ:Zh} {Q:Zh→Prop} (h:Q δ):Goes (.nx δ) Q:=⟨δ,.inl rfl,h⟩
theorem Goes.ct {δ:Zh} {Q:Zh→Prop} (h:Q δ):Goes (.ct δ) Q:=⟨δ,.inr rfl,h⟩
theorem Zr1 {α:Type} {me:FE} {cs:Zh} (mk:α→PyData) (f:α→OT):∀ (xs:List α) (z:Option OT),(∀ x ∈ xs,me (some (.fz (mk x)) :: cs) = some (f x,some (.fz (mk x)) :: cs)) →
  ∃ z',compLoop (gNm 0) Zhs me (xs.map mk) (z :: cs) = some (xs.map f,z' :: cs)
 | [],z,_=>⟨z,rfl⟩
 | x :: xs,z,h=>by
  obtain ⟨z',e⟩:=Zr1 mk f xs (some (.fz (mk x))) fun y hy=>h y (.tail _ hy)
  refine ⟨z',?_⟩
  rw [List.map_cons,compLoop]
  show (some (some (OT.fz (mk x)) :: cs)).bind _ = _
  rw [Option.bind_some]
  show (some (true,some (OT.fz (mk x)) :: cs)).bind _ = _
  rw [Option.bind_some,if_pos rfl,h x (.head _),Option.bind_some,e]; rfl
theorem Zoy {α:Type} {t:FT} {me:FE} {cs:Zh} (mk:α→PyData) (p:α→Bool) (f:α→OT):∀ (xs:List α) (z:Option OT),(∀ x ∈ xs,t (some (.fz (mk x)) :: cs) = some (p x,some (.fz (mk x)) :: cs))→(∀ x ∈ xs,p x = true→me (some (.fz (mk x)) :: cs) = some (f x,some (.fz (mk x)) :: cs)) →
  ∃ z',compLoop (gNm 0) t me (xs.map mk) (z :: cs) = some ((xs.filter p).map f,z' :: cs)
 | [],z,_,_=>⟨z,rfl⟩
 | x :: xs,z,ht,h=>by
  obtain ⟨z',e⟩:=Zoy mk p f xs (some (.fz (mk x))) (fun y hy=>ht y (.tail _ hy)) fun y hy=>h y (.tail _ hy)
  refine ⟨z',?_⟩
  rw [List.map_cons,compLoop]
  show (some (some (OT.fz (mk x)) :: cs)).bind _ = _
  rw [Option.bind_some,ht x (.head _),Option.bind_some]
  dsimp only
  by_cases hp:p x = true
  ·rw [if_pos hp,h x (.head _) hp,Option.bind_some,e,List.filter_cons_of_pos hp]; rfl
  ·rw [if_neg hp,e,List.filter_cons_of_neg hp]
theorem Zj2 {α:Type} {caps:List Nat} {it:FI} {me:FE} {cs δ δ1:Zh} (xs:List α) (mk:α→PyData) (f:α→OT) (hi:it δ = some (xs.map mk,δ1)) (hz:xs.length ≤ sizeLine) (hb:blk 1 caps δ1 = none :: cs)
  (h:∀ x ∈ xs,me (some (.fz (mk x)) :: cs) = some (f x,some (.fz (mk x)) :: cs)):Yx 1 caps it (gNm 0) Zhs me δ = some (.nd (xs.map f),δ1):=by
 unfold Yx
 rw [hi,Option.bind_some]
 dsimp only
 rw [if_pos (by rw [List.length_map]; exact hz),hb]
 obtain ⟨z',e⟩:=Zr1 (me:=me) (cs:=cs) mk f xs none h
 rw [e]; rfl
theorem Ztl {α:Type} {caps:List Nat} {it:FI} {t:FT} {me:FE} {cs δ δ1:Zh} (xs:List α) (mk:α→PyData) (p:α→Bool) (f:α→OT) (hi:it δ = some (xs.map mk,δ1)) (hz:xs.length ≤ sizeLine) (hb:blk 1 caps δ1 = none :: cs)
  (ht:∀ x ∈ xs,t (some (.fz (mk x)) :: cs) = some (p x,some (.fz (mk x)) :: cs)) (h:∀ x ∈ xs,p x = true→me (some (.fz (mk x)) :: cs) = some (f x,some (.fz (mk x)) :: cs)):Yx 1 caps it (gNm 0) t me δ = some (.nd ((xs.filter p).map f),δ1):=by
 unfold Yx
 rw [hi,Option.bind_some]
 dsimp only
 rw [if_pos (by rw [List.length_map]; exact hz),hb]
 obtain ⟨z',e⟩:=Zoy (t:=t) (me:=me) (cs:=cs) mk p f xs none ht h
 rw [e]; rfl
theorem Yds:(2 ≤ sizeLine) = True:=by simp [sizeLine_eq]
theorem Yco:(1 ≤ sizeLine) = True:=by simp [sizeLine_eq]
theorem Ycz:(0 ≤ sizeLine) = True:=by simp
theorem Z8r:(3 ≤ sizeLine) = True:=by simp [sizeLine_eq]
theorem Zp3 {α:Type} (f:α→PyData) (xs:List α):(xs.map fun x=>OT.fz (f x)).map OT.data = xs.map f:=by
 rw [List.map_map]; exact List.map_congr_left fun x _=>OT.data_fz _
theorem Zyr {α:Type} {j:Int} {x:α} (h0:0 ≤ j) (h1:j ≤ 1000000):(if rOk j = true then some x else none) = some x:=if_pos (Zkf (by omega) h1)
theorem Z1e {α:Type} {i j:Int} {x:α} (h0:0 ≤ i) (h1:i ≤ 1000000) (h2:0 ≤ j) (h3:j ≤ 1000000):(if (rOk i && rOk j) = true then some x else none) = some x:=if_pos (by rw [Zkf (by omega) h1,Zkf (by omega) h3]; rfl)
theorem Z3i {r:RS} {k:Nat} (h:k ≤ 1000000):(if k < sizeLine then r else .bad) = r:=if_pos (by rw [sizeLine_eq]; omega)
end L2
namespace L2
open PySem PySem.Spec PyProof.Rows
noncomputable def EvV (e:FE) (δ:Zh) (d:PyData):Prop:=∃ t,e δ = some (t,δ)∧t.data = d
noncomputable def EvA (a:FA) (δ:Zh) (ds:List PyData):Prop:=∃ ts,a δ = some (ts,δ)∧OT.datas ts = ds
noncomputable def EvT (t:FT) (δ:Zh) (b:Bool):Prop:=t δ = some (b,δ)
noncomputable def Told (F:FD) (ds:List PyData) (d:PyData):Prop:=∃ t,F ds = .ok t∧t.data = d
section
variable {e a b:FE} {as:FA} {δ δ':Zh} {x y d:PyData} {xs ds:List PyData} {i j:Nat} {p q:Bool} {t u:FT} {S S':FS} {r:RS}
theorem EvV.cast {e:FE} {δ:Zh} {x y:PyData} (h:EvV e δ x) (k:x = y):EvV e δ y:=k ▸ h
theorem Za (h:δ[i]? = some (some (.fz d)):=by rfl):EvV (Zd i) δ d:=⟨_,by rw [Z0v,h,Zzm],OT.data_fz _⟩
theorem Zn9 {t:OT} (h:δ[i]? = some (some t)) (hd:t.data = d):EvV (Zma i) δ d:=⟨_,by rw [Z0w,h,Zz2],by rw [OT.data_fz,hd]⟩
theorem Z2:EvV (fC d) δ d:=⟨_,rfl,OT.data_fz _⟩
theorem Zu {g:PyData→PyData→Option PyData} (ha:EvV a δ x) (hb:EvV b δ y) (h:g x y = some d):EvV (Zj g a b) δ d:=by
 obtain ⟨_,e1,d1⟩:=ha
 obtain ⟨_,e2,d2⟩:=hb
 exact ⟨_,by rw [Zvg,e1,Option.bind_some,e2,Option.bind_some,d1,d2,h,Option.bind_some],OT.data_fz _⟩
theorem Zsm {g:PyData→PyData→Option OT} {o:OT} (ha:EvV a δ x) (hb:EvV b δ y) (h:g x y = some o) (hd:o.data = d):EvV (Yg g a b) δ d:=by
 obtain ⟨_,e1,d1⟩:=ha
 obtain ⟨_,e2,d2⟩:=hb
 exact ⟨_,by rw [Zzs,e1,Option.bind_some,e2,Option.bind_some,d1,d2,h,Option.bind_some],hd⟩
theorem Ww (ha:EvV a δ x) (hb:EvV b δ y) (h:gIx x y = some (.fz d)):EvV (Yg gIx a b) δ d:=Zsm ha hb h (OT.data_fz _)
theorem W4 {i j:Int} (ha:EvV a δ (.int i)) (hb:EvV b δ (.int j)):EvV (Zj Zdp a b) δ (.int (i + j)):=Zu ha hb rfl
theorem Znt {i j:Int} (ha:EvV a δ (.int i)) (hb:EvV b δ (.int j)):EvV (Zj gSb a b) δ (.int (i - j)):=Zu ha hb rfl
theorem Z6k {g:PyData→Option PyData} (ha:EvV a δ x) (h:g x = some d):EvV (fUn g a) δ d:=by
 obtain ⟨_,e1,d1⟩:=ha
 exact ⟨_,by rw [Z3k,e1,Option.bind_some,d1,h,Option.bind_some],OT.data_fz _⟩
theorem Zdj (ha:EvV a δ (.bool true)) (hb:EvV b δ d):EvV (Zqc a b) δ d:=by
 obtain ⟨_,e1,d1⟩:=ha
 obtain ⟨_,e2,d2⟩:=hb
 exact ⟨_,by rw [Ztc,e1,Option.bind_some,d1,Z8a,e2],d2⟩
theorem Zn3 (ha:EvV a δ (.bool false)):EvV (Zqc a b) δ (.bool false):=by
 obtain ⟨_,e1,d1⟩:=ha
 exact ⟨_,by rw [Ztc,e1,Option.bind_some,d1,Z9t],OT.data_fz _⟩
theorem Zex {T:String} (ha:EvV a δ x) (hf:Zhc x = false:=by rfl):EvV (Zl5 T a) δ (.bool (Zof T x)):=by
 obtain ⟨_,e1,d1⟩:=ha
 exact ⟨_,by rw [Z05,e1,Option.bind_some,d1,if_neg (by rw [hf]; decide)],OT.data_fz _⟩
theorem Zf:EvA Zo δ []:=⟨_,rfl,Zep⟩
theorem Zb (h:EvV e δ d) (k:EvA as δ ds):EvA (Zc e as) δ (d :: ds):=by
 obtain ⟨_,e1,d1⟩:=h
 obtain ⟨_,e2,d2⟩:=k
 exact ⟨_,by rw [Zw4,e1,Option.bind_some,e2,Option.bind_some],by rw [Zdg,d1,d2]⟩
theorem Zm {F:FD} (h:EvA as δ ds) (k:Told F ds d):EvV (Zt F as) δ d:=by
 obtain ⟨_,e1,d1⟩:=h
 obtain ⟨_,e2,d2⟩:=k
 exact ⟨_,by rw [Zom,e1,Option.bind_some,d1,e2,Z54],d2⟩
theorem Zaj {g:List PyData→Option PyData} (h:EvA as δ ds) (k:g ds = some d):EvV (Za9 g as) δ d:=by
 obtain ⟨_,e1,d1⟩:=h
 exact ⟨_,by rw [Zzk,e1,Option.bind_some,d1,k,Option.bind_some],OT.data_fz _⟩
theorem Z1n {g:List PyData→Option OT} {o:OT} (h:EvA as δ ds) (k:g ds = some o) (hd:o.data = d):EvV (fBl g as) δ d:=by
 obtain ⟨_,e1,d1⟩:=h
 exact ⟨_,by rw [Z4g,e1,Option.bind_some,d1,k,Option.bind_some],hd⟩
theorem Zeg:∀ ts:List OT,(OT.datas ts).length = ts.length
 | []=>by rw [Zep]; rfl
 | t :: ts=>by rw [Zdg,List.length_cons,List.length_cons,Zeg ts]
theorem datas_map:∀ ts:List OT,OT.datas ts = ts.map OT.data
 | []=>Zep
 | t :: ts=>by rw [Zdg,List.map_cons,datas_map ts]
theorem Za2 (h:EvA as δ ds) (hl:ds.length ≤ 1000):EvV (Zez as) δ (.tuple ds):=by
 obtain ⟨ts,e1,d1⟩:=h
 have:=Zeg ts
 rw [d1] at this
 exact ⟨_,by rw [Zr7,e1,Option.bind_some,if_pos (by rw [sizeLine_eq]; show ts.length ≤ _; omega)],by rw [OT.data_fz]; exact congrArg _ d1⟩
theorem Zgb (h:EvA as δ ds) (hl:ds.length ≤ 1000):EvV (Zf4 as) δ (.list ds):=by
 obtain ⟨ts,e1,d1⟩:=h
 have:=Zeg ts
 rw [d1] at this
 exact ⟨_,by rw [Zt0,e1,Option.bind_some,if_pos (by rw [sizeLine_eq]; show ts.length ≤ _; omega)],by rw [OT.data_nd,← datas_map,d1]⟩
theorem Zlb {o:OT} {b:Bool} (h:o.data = .bool b):o = .fz (.bool b):=by
 cases o with
 | fz d=>rw [OT.data_fz] at h; rw [h]
 | nd ts=>rw [OT.data_nd] at h; cases h
 | tp ts=>rw [OT.data_tp] at h; cases h
 | dc _ _ _=>rw [OT.data_dc] at h; cases h
theorem Zcf (h:EvV e δ (.bool p)):EvT (tV e) δ p:=by
 obtain ⟨_,e1,d1⟩:=h
 unfold EvT
 rw [Z8c,e1,Option.bind_some,Zlb d1,Z6c]
theorem Z6v (h:EvV e δ d) (k:Zvf d = some p):EvT (tD e) δ p:=by
 obtain ⟨_,e1,d1⟩:=h
 unfold EvT
 rw [Z7p,e1,Option.bind_some,d1,k,Option.bind_some]
theorem Zge (h:EvV e δ (.bool p)):EvT (tD e) δ p:=Z6v h rfl
theorem Zh5 (h:EvT t δ p):EvT (tNo t) δ (!p):=by
 unfold EvT at h ⊢
 rw [Z23,h,Option.bind_some]
theorem Z48 (h:EvT t δ false) (k:EvT u δ p):EvT (tO t u) δ p:=by
 unfold EvT at h k ⊢
 rw [Z7g,h,Option.bind_some,if_neg Bool.false_ne_true,k]
theorem Yb (h:S δ = .nx δ') (k:S' δ' = r):Z3 S S' δ = r:=by rw [Zsp,h,Z22,k]
theorem Zua {o:OT} (h:S δ = .rt o δ'):Z3 S S' δ = .rt o δ':=by rw [Zsp,h,Z2w]
theorem Zr (h:EvV e δ d):wE e (Y4 i) δ = .nx (δ.set i (some (.fz d))):=by
 obtain ⟨_,e1,d1⟩:=h
 rw [Zci,e1,Yw,Zta,d1]
theorem Zyl (h:EvV e δ d):∃ o,wE e W3 δ = .rt o δ∧o.data = d:=by
 obtain ⟨_,e1,d1⟩:=h
 exact ⟨_,by rw [Zci,e1,Yw,Zzr],d1⟩
theorem Zbp (h:EvT t δ true) (k:S δ = r):Zbe t S S' δ = r:=by
 unfold EvT at h
 rw [Ztu,h,Yw,if_pos rfl,k]
theorem Yl (h:EvT t δ false) (k:S' δ = r):Zbe t S S' δ = r:=by
 unfold EvT at h
 rw [Ztu,h,Yw,if_neg (by decide),k]
noncomputable def Zke (S:FS) (δ:Zh) (d:PyData):Prop:=∃ o δ',S δ = .rt o δ'∧o.data = d
theorem Zx (h:S δ = .nx δ') (k:Zke S' δ' d):Zke (Z3 S S') δ d:=by
 obtain ⟨o,δ2,e,hd⟩:=k
 exact ⟨o,δ2,Yb h e,hd⟩
theorem Zay (k:Zke S δ d):Zke (Z3 S S') δ d:=by
 obtain ⟨o,δ2,e,hd⟩:=k
 exact ⟨o,δ2,Zua e,hd⟩
theorem Z8 (h:EvV e δ d):Zke (wE e W3) δ d:=by
 obtain ⟨o,e1,hd⟩:=Zyl h
 exact ⟨o,δ,e1,hd⟩
theorem Zd8 (h:EvT t δ true) (k:Zke S δ d):Zke (Zbe t S S') δ d:=by
 obtain ⟨o,δ2,e,hd⟩:=k
 exact ⟨o,δ2,Zbp h e,hd⟩
theorem Zv {np n:Nat} (hl:xs.length = np) (k:Zke S (Zf3 n xs) d):Told (Je np n S) xs d:=by
 obtain ⟨o,δ2,e,hd⟩:=k
 exact ⟨o,by rw [Zg1 hl,e,Zrz],hd⟩
noncomputable def EvO (o:FO) (δ:Zh) (l:Option Int):Prop:=o δ = some (l,δ)
theorem Yau:EvO oN δ none:=rfl
theorem Yb7 {i:Int} (h:EvV e δ (.int i)):EvO (oI e) δ (some i):=by
 obtain ⟨_,e1,d1⟩:=h
 unfold EvO
 rw [Z9u,e1,Option.bind_some,d1,Zql]
theorem Z9h {lo hi:FO} {l h:Option Int} (he:EvV e δ (.list ds)) (hl:EvO lo δ l) (hh:EvO hi δ h):EvV (fSl e lo hi) δ (.list (cutD ds l h)):=by
 obtain ⟨_,e1,d1⟩:=he
 unfold EvO at hl hh
 exact ⟨_,by rw [Z3e,e1,Option.bind_some,hl,Option.bind_some,hh,Option.bind_some,d1,Zs0],by rw [OT.data_nd,OT.map_fz]⟩
theorem Znr {es:List PyData} (ha:EvV a δ (.list ds)) (hb:EvV b δ (.list es)) (h:ds.length + es.length ≤ 1000000):EvV (Yg Zui a b) δ (.list (ds ++ es)) :=
 Zsm ha hb (Z3c (by rw [sizeLine_eq]; omega)) (by rw [OT.data_nd,OT.map_fz])
noncomputable def EvI (it:FI) (δ:Zh) (ds:List PyData):Prop:=it δ = some (ds,δ)
theorem W6 (h:EvV e δ (.list ds)):EvI (Zer e) δ ds:=by
 obtain ⟨_,e1,d1⟩:=h
 unfold EvI
 rw [Z1g,e1,Option.bind_some,d1,Zs0]
theorem Zhp {n:Nat} (h:EvA as δ [.int n]) (hn:n ≤ 1000000):EvI (iRa as) δ (Ze0 0 n):=by
 obtain ⟨_,e1,d1⟩:=h
 unfold EvI
 rw [Zyi,e1,Option.bind_some,d1,Z4b,Zyr (by omega) (by omega),Int.toNat_natCast]
theorem Zgc {it:FI} {g:FG} (h:EvI it δ ds) (k:forLoop g S ds δ = r):Jz it g S δ = r:=by
 unfold EvI at h
 rw [Zzu,h,Yw,k]
theorem Zbu {α:Type} {caps:List Nat} {it:FI} {me:FE} {cs:Zh} (xs:List α) (mk f:α→PyData) (hi:EvI it δ (xs.map mk)) (hz:xs.length ≤ 1000000) (hb:blk 1 caps δ = none :: cs) (h:∀ x ∈ xs,EvV me (some (.fz (mk x)) :: cs) (f x)):EvV (Yx 1 caps it (gNm 0) Zhs me) δ (.list (xs.map f)):=by
 have g:∀ x,∃ o:OT,x ∈ xs→me (some (.fz (mk x)) :: cs) = some (o,some (.fz (mk x)) :: cs)∧o.data = f x:=fun x=>by
  by_cases c:x ∈ xs
  ·obtain ⟨o,h1,h2⟩:=h x c
   exact ⟨o,fun _=>⟨h1,h2⟩⟩
  ·exact ⟨.fz .none,fun z=>absurd z c⟩
 obtain ⟨o,ho⟩:=Classical.axiomOfChoice g
 unfold EvI at hi
 refine ⟨_,Zj2 (cs:=cs) xs mk o hi (by rw [sizeLine_eq]; omega) hb (fun x hx=>(ho x hx).1),?_⟩
 rw [OT.data_nd,List.map_map]
 exact congrArg _ (List.map_congr_left fun x hx=>(ho x hx).2)
theorem Zf1 {ts:List OT} (h:EvV e δ d) (hi:δ[i]? = some (some (.nd ts))) (hl:ts.length ≤ 1000000):Y9 i e δ = .nx (δ.set i (some (.nd (ts ++ [.fz d])))):=by
 obtain ⟨_,e1,d1⟩:=h
 rw [Zpl,hi,Z5x,e1,Yw,hi,Z5x,Z3i hl,d1]
theorem Zg4 {o:OT} (h:e δ = some (o,δ)):wE e (Zbb i) δ = .nx (δ.set i (some o)):=by rw [Zci,h,Yw,Zv7]
theorem Z67 {o:OT} (h:δ[i]? = some (some o)) (hd:o.data = d):Zke (Zd1 i) δ d:=⟨o,_,by rw [Zor,h,Z0h],hd⟩
theorem Zkh {o:OT} (h:δ[i]? = some (some o)) (k:S (δ.set i (some (.fz o.data))) = r):Zfp i S δ = r:=by rw [Zph,h,Z0h,k]
theorem Z0l (h:EvV e δ d):wE e Zvt δ = .nx δ:=by
 obtain ⟨_,e1,d1⟩:=h
 rw [Zci,e1,Yw,Zvk]
theorem Zqi {np n:Nat} (hl:xs.length = np) (k:S (Zf3 n xs) = .nx δ'):Told (Je np n S) xs .none:=⟨_,by rw [Zg1 hl,k,Z1o],OT.data_fz _⟩
theorem Told.ok {F:FD} {b:Bool} (h:Told F ds (.bool b)):F ds = .ok (.fz (.bool b)):=by
 obtain ⟨o,e1,d1⟩:=h
 rw [e1,Zlb d1]
theorem Znx {o:OT} {i:Int} (h:o.data = .int i):o = .fz (.int i):=by
 cases o with
 | fz d=>rw [OT.data_fz] at h; rw [h]
 | nd ts=>rw [OT.data_nd] at h; cases h
 | tp ts=>rw [OT.data_tp] at h; cases h
 | dc _ _ _=>rw [OT.data_dc] at h; cases h
theorem Told.int {F:FD} {i:Int} (h:Told F ds (.int i)):F ds = .ok (.fz (.int i)):=by
 obtain ⟨o,e1,d1⟩:=h
 rw [e1,Znx d1]
theorem Zs2 {o:OT} (h:o.data = .none):o = .fz .none:=by
 cases o with
 | fz d=>rw [OT.data_fz] at h; rw [h]
 | nd ts=>rw [OT.data_nd] at h; cases h
 | tp ts=>rw [OT.data_tp] at h; cases h
 | dc _ _ _=>rw [OT.data_dc] at h; cases h
theorem Told.of {F:FD} {o:OT} (h:F ds = .ok o) (hd:o.data = d):Told F ds d:=⟨o,h,hd⟩
end
end L2
namespace L2
open PySem PySem.Spec PyProof.Rows
section
variable {e a b:FE} {as:FA} {δ δ':Zh} {x y d:PyData} {xs ds:List PyData} {i j:Int} {k:Nat} {p q:Bool} {t u:FT} {S S':FS} {r:RS} {Q:PyData→Prop}
theorem Zaa (ha:EvV a δ (.int i)) (hb:EvV b δ (.int j)) (h:j ≠ 0):EvV (Zj Zf6 a b) δ (.int (i.fmod j)):=Zu ha hb (Z6e h)
theorem Z2t {i j:Int} (h:(decide (0 < j) && decide (j < 18446744073709551616)) = true):Zau (.int i) (.int j) = some (.int (i.fdiv j)):=by
 rw [Bool.and_eq_true,decide_eq_true_eq,decide_eq_true_eq] at h
 exact Zhl (Zgx (n:=64) (by omega) (Bt.of_lt (by omega) (by omega)))
theorem Zco (ha:EvV a δ (.int i)) (hb:EvV b δ (.int j)) (h:(decide (0 < j) && decide (j < 18446744073709551616)) = true:=by decide):EvV (Zj Zau a b) δ (.int (i.fdiv j)):=Zu ha hb (Z2t h)
theorem Zc0 (ha:EvV a δ (.int i)) (hb:EvV b δ (.int j)) (h:i.natAbs < 2 ^ 64:=by decide):EvV (Zj Zfr a b) δ (.int (i * j)):=Zu ha hb (Zen (Z4r h))
theorem Zrh (ha:EvV a δ (.int i)) (hb:EvV b δ (.int j)) (h:j.natAbs < 2 ^ 64:=by decide):EvV (Zj Zfr a b) δ (.int (i * j)):=Zu ha hb (Zen (Z5w h))
theorem Zg5 (ha:EvV a δ (.int i)) (hb:EvV b δ (.int j)) (h:decide (i < j) = p):EvV (Zj gLt a b) δ (.bool p):=h ▸ Zu ha hb rfl
theorem Z5g (ha:EvV a δ (.int i)) (hb:EvV b δ (.int j)) (h:decide (i ≤ j) = p):EvV (Zj gLe a b) δ (.bool p):=h ▸ Zu ha hb rfl
theorem Zmi (ha:EvV a δ (.int i)) (hb:EvV b δ (.int j)) (h:decide (j < i) = p):EvV (Zj gGt a b) δ (.bool p):=h ▸ Zu ha hb (Z8m _ _)
theorem Zw7 (ha:EvV a δ (.int i)) (hb:EvV b δ (.int j)) (h:decide (j ≤ i) = p):EvV (Zj gGe a b) δ (.bool p):=h ▸ Zu ha hb (Z9l _ _)
theorem Zp9 (ha:EvV a δ (.int i)) (hb:EvV b δ (.int j)) (h:decide (i = j) = p):EvV (Zj gEq a b) δ (.bool p):=h ▸ Zu ha hb (Z8e _ _)
theorem Zv3 (ha:EvV a δ (.int i)) (hb:EvV b δ (.int j)) (h:(!decide (i = j)) = p):EvV (Zj gNe a b) δ (.bool p):=h ▸ Zu ha hb (Z8l _ _)
theorem Zno (ha:EvV a δ (.int i)):EvV (fUn Zue a) δ (.int (-i)):=Z6k ha (Z4u _)
theorem Zis {ds:List PyData} (h:EvV e δ (.list ds)):EvV (Za9 Zcg (Zc e Zo)) δ (.int ds.length):=Zaj (Zb h Zf) (Zok ds)
theorem Zyn (ha:EvV a δ (.list ds)) (hb:EvV b δ (.int i)) (h:atI ds i = some d):EvV (Yg gIx a b) δ d:=Ww ha hb (by rw [Zkn,h]; rfl)
noncomputable def Znf (S:FS) (δ:Zh) (Q:PyData→Prop):Prop:=∃ d,Zke S δ d∧Q d
theorem Zat (h:S δ = .nx δ') (k:Znf S' δ' Q):Znf (Z3 S S') δ Q:=k.imp fun _ k=>⟨Zx h k.1,k.2⟩
theorem Zwa (k:Znf S δ Q):Znf (Z3 S S') δ Q:=k.imp fun _ k=>⟨Zay k.1,k.2⟩
theorem Zil (h:EvV e δ d) (k:Q d):Znf (wE e W3) δ Q:=⟨d,Z8 h,k⟩
theorem Zsw (h:EvT t δ true) (k:Znf S δ Q):Znf (Zbe t S S') δ Q:=k.imp fun _ k=>⟨Zd8 h k.1,k.2⟩
theorem Z85 {o:OT} (h:δ[k]? = some (some o)) (hd:Q o.data):Znf (Zd1 k) δ Q:=⟨_,Z67 h rfl,hd⟩
theorem Zmw {np n:Nat} (hl:xs.length = np) (h:Znf S (Zf3 n xs) Q):∃ d,Told (Je np n S) xs d∧Q d:=h.imp fun _ k=>⟨Zv hl k.1,k.2⟩
theorem Zlu {it:FI} {g:FG} (I:Nat→Zh→Prop) (hi:EvI it δ ds) (h0:I 0 δ) (turn:∀ (i:Nat) (d:PyData) (δ:Zh),ds[i]? = some d→I i δ→∃ δ1 δ2,g d δ = some δ1∧(S δ1 = .nx δ2∨S δ1 = .ct δ2)∧I (i + 1) δ2) (k:∀ δ',I ds.length δ'→Znf S' δ' Q):Znf (Z3 (Jz it g S) S') δ Q:=by
 obtain ⟨δ',e,h⟩:=Zox I h0 turn
 exact Zat (Zgc hi e) (k δ' h)
theorem Zho {it:FI} {g:FG} (I:Nat→Zh→Prop) (hi:EvI it δ ds) (h0:I 0 δ) (turn:∀ (i:Nat) (d:PyData) (δ:Zh),ds[i]? = some d→I i δ→∃ δ1 δ2,g d δ = some δ1∧(S δ1 = .nx δ2∨S δ1 = .ct δ2)∧I (i + 1) δ2) (k:∀ δ',I ds.length δ'→Zke S' δ' d):Zke (Z3 (Jz it g S) S') δ d:=by
 obtain ⟨δ',e,h⟩:=Zox I h0 turn
 exact Zx (Zgc hi e) (k δ' h)
theorem Zcy {it:FI} {g:FG} (I:Nat→Zh→Prop) (hi:EvI it δ ds) (h0:I 0 δ) (turn:∀ (i:Nat) (d:PyData) (δ:Zh),ds[i]? = some d→I i δ→∃ δ1 δ2,g d δ = some δ1∧(S δ1 = .nx δ2∨S δ1 = .ct δ2)∧I (i + 1) δ2):∃ δ',Jz it g S δ = .nx δ'∧I ds.length δ':=by
 obtain ⟨δ',e,h⟩:=Zox I h0 turn
 exact ⟨δ',Zgc hi e,h⟩
theorem Zu0 {m n:Nat} (h:EvA as δ [.int m,.int n]) (hm:m ≤ 1000000) (hn:n ≤ 1000000):EvI (iRb as) δ (Ze0 m (n - m)):=by
 obtain ⟨_,e1,d1⟩:=h
 unfold EvI
 rw [Z41,e1,Option.bind_some,d1,Z9v,Z1e (by omega) (by omega) (by omega) (by omega),show ((n:Int) - (m:Int)).toNat = n - m by omega]
theorem Zf7:wE (Zf4 Zo) (Zbb k) δ = .nx (δ.set k (some (.nd []))):=Zg4 (by rw [Zt0]; rfl)
theorem Zeb {i:Int} (h:0 < j):0 ≤ i.fmod j:=by rw [Zgk h]; exact Int.emod_nonneg _ (by omega)
theorem Zdw {i:Int} (h:0 < j):i.fmod j < j:=by rw [Zgk h]; exact Int.emod_lt_of_pos _ h
theorem Zj8 (i:Int) {n:Nat} (h:0 < n):∃ m:Nat,i.fmod (n:Int) = m∧m < n:=by
 have h0:=Zeb (i:=i) (j:=n) (by omega)
 have h1:=Zdw (i:=i) (j:=n) (by omega)
 exact ⟨(i.fmod n).toNat,by omega,by omega⟩
theorem Zsf {es:List PyData} (h:EvA as δ ds) (hz:Z2h ds = some es):EvI (Zdm as) δ es:=by
 obtain ⟨_,e1,d1⟩:=h
 unfold EvI Zdm
 rw [e1,Option.bind_some,d1,hz,Option.bind_some]
theorem Zxe {n:Nat} (hn:n ≤ 1000000) {v:Option OT}:(Zuk (fC d) (Zd 1)) [v,some (.fz (.int n))] = some (.nd (List.replicate n (.fz d)),[v,some (.fz (.int n))]):=by
 obtain ⟨_,e1,d1⟩:=Za (δ:=[v,some (.fz (.int n))]) (i:=1) (d:=.int n)
 rw [Zm7,Z9e,Option.bind_some,e1,Option.bind_some,d1,Zql,if_pos ⟨Zkf (by omega) (by omega),by rw [sizeLine_eq]; omega⟩,Int.toNat_natCast,OT.data_fz]
theorem Znq {it:FI} {g gg:FG} {δ1:Zh} (I:Nat→Zh→Prop) {J:Zh→Prop} (hg:gg d δ = some δ1) (hi:EvI it δ1 ds) (h0:I 0 δ1) (turn:∀ (i:Nat) (d:PyData) (δ:Zh),ds[i]? = some d→I i δ→∃ δ1 δ2,g d δ = some δ1∧(S δ1 = .nx δ2∨S δ1 = .ct δ2)∧I (i + 1) δ2) (hJ:∀ δ',I ds.length δ'→J δ'):∃ δ1 δ2,gg d δ = some δ1∧(Jz it g S δ1 = .nx δ2∨Jz it g S δ1 = .ct δ2)∧J δ2:=by
 obtain ⟨δ',e,h⟩:=Zox I h0 turn
 exact ⟨δ1,δ',hg,.inl (Zgc hi e),hJ δ' h⟩
theorem Zio {T:String} (ha:EvV a δ x) (h:Zof T x = p) (hf:Zhc x = false:=by rfl):EvV (Zl5 T a) δ (.bool p):=(Zex ha hf).cast (by rw [h])
theorem Zgv {a b:FE} {bs es:List PyData} {as:List PyData} (ha:EvV a δ (.list as)) (hb:EvV b δ (.list bs)) (hz:Zhy as bs = es):EvI (Zdm (Zc a (Zc b Zo))) δ es:=Zsf (Zb ha (Zb hb Zf)) (congrArg some hz)
theorem Z18 (ha:EvV a δ (.list ds)):EvI (Zwo (Zc a Zo)) δ (Zi7 ds):=by
 obtain ⟨_,e1,d1⟩:=Zb ha Zf
 unfold EvI Zwo
 rw [e1,Option.bind_some]
 dsimp only
 rw [d1]
theorem Zws {y:Str} {F:FD} (h:δ[k]? = some (some (.fz (fnD y)))) (ha:EvA as δ ds) (hF:Told F ds d):EvV (Zev k y F as) δ d:=by
 obtain ⟨o,e1,d1⟩:=Zm ha hF
 refine ⟨o,?_,d1⟩
 unfold Zev
 rw [h]
 dsimp only
 rw [if_pos (Zy1 y),e1]
theorem Zoo {α:Type} {caps:List Nat} {it:FI} {me:FE} {t:FT} {cs:Zh} (xs:List α) (mk:α→PyData) (pr:α→Bool) (hi:EvI it δ (xs.map mk)) (hz:xs.length ≤ 1000000) (hb:blk 1 caps δ = none :: cs) (ht:∀ x ∈ xs,EvT t (some (.fz (mk x)) :: cs) (pr x)) (h:∀ x ∈ xs,pr x = true→me (some (.fz (mk x)) :: cs) = some (.fz (mk x),some (.fz (mk x)) :: cs)):EvV (Yx 1 caps it (gNm 0) t me) δ (.list ((xs.filter pr).map mk)):=by
 unfold EvI at hi
 refine ⟨_,Ztl (cs:=cs) xs mk pr (fun x=>.fz (mk x)) hi (by rw [sizeLine_eq]; omega) hb (fun x hx=>ht x hx) h,?_⟩
 rw [OT.data_nd,List.map_map]
 exact congrArg _ (List.map_congr_left fun x _=>OT.data_fz _)
theorem Told.none {F:FD} (h:Told F ds .none):F ds = .ok (.fz .none):=by
 obtain ⟨o,e1,d1⟩:=h
 rw [e1,Zs2 d1]
end
end L2
namespace My
open PySem L2 PySem.Spec
noncomputable def Jl:FS :=
 (Z3 (wE (Za9 Z2g (Zc (Zd 0) Zo)) (Y4 0))
  (Z3 (wE (Za9 Z2g (Zc (Zd 1) Zo)) (Y4 1))
  (Z3 (Zi1 (tV (Zj gNe (Zd 1) (fC (.int 0)))) (Z3 (wE (Zj Zf6 (Zd 0) (Zd 1)) (Y4 2))
  (Z3 (wE (Zd 1) (Y4 0))
  (wE (Zd 2) (Y4 1)))))
  (wE (Zd 0) W3))))
noncomputable def Z6:FD:=Je 2 3 Jl
theorem Zji {f1 f2:Int→Int→Option OT→Zh} {t:FT} {u:FS} (ht:∀ x y z,t (f1 x y z) = some (!decide (y = 0),f1 x y z)) (hu:∀ x y z,y ≠ 0→∃ z',u (f1 x y z) = .nx (f1 y (x.fmod y) z')) :
  ∀ (n:Nat) (x y:Int) (z:Option OT),0 ≤ x→0 ≤ y→y.toNat < n→∃ z',whileLoop t u n (f1 x y z) = .nx (f1 (Int.gcd x y:Int) 0 z')
 | 0,_,_,_,_,_,h=>absurd h (Nat.not_lt_zero _)
 | n + 1,x,y,z,hx,hy,h=>by
  unfold whileLoop
  rw [ht]
  dsimp only
  by_cases c:y = 0
  ·subst c
   refine ⟨z,?_⟩
   simp only [decide_true,Bool.not_true,Bool.false_eq_true,if_false]
   rw [Int.gcd_zero_right]
   congr 2
   omega
  ·simp only [c,decide_false,Bool.not_false,if_true]
   obtain ⟨z1,e1⟩:=hu x y z c
   rw [e1]
   dsimp only
   have hm:x.fmod y = x % y:=Zgk (by omega)
   have h1:0 ≤ x % y:=Int.emod_nonneg x c
   have h2:x % y < y:=Int.emod_lt_of_pos x (by omega)
   obtain ⟨z2,e2⟩:=Zji (f1:=f1) (f2:=f2) ht hu n y (x.fmod y) z1 hy (by omega) (by omega)
   exact ⟨z2,by rw [e2,Zwb hx (by omega)]⟩
theorem Zaf (a b:Int):Z6 [.int a,.int b] = .ok (.fz (.int (Int.gcd a b:Int))):=by
 obtain ⟨z',e⟩:=Zji (f1:=fun x y z=>[some (.fz (.int x)),some (.fz (.int y)),z]) (f2:=fun x y z=>[]) (t:=tV (Zj gNe (Zd 1) (fC (.int 0)))) (u:=Z3 (wE (Zj Zf6 (Zd 0) (Zd 1)) (Y4 2)) (Z3 (wE (Zd 1) (Y4 0)) (wE (Zd 2) (Y4 1)))) (fun x y z=>Zcf (Zv3 Za Z2 rfl)) (fun x y z hy=>⟨_,Yb (Zr (Zaa Za Za hy)) (Yb (Zr Za) (Zr Za))⟩) ((b.natAbs:Int).toNat + 1) (a.natAbs:Int) (b.natAbs:Int) none (by omega) (by omega) (by omega)
 rw [Int.gcd_eq_natAbs_gcd_natAbs,Int.natAbs_natCast,Int.natAbs_natCast] at e
 exact Told.int <| Zv rfl <| Zx (Zr (Zaj (Zb Za Zf) (Zq0 a))) <| Zx (Zr (Zaj (Zb Za Zf) (Zq0 b))) <| Zx (Zl4 _ e (by intro z; cases z)) (Z8 Za)
noncomputable def Zdb:FS :=
 (Z3 (wE (Zt Z6 (Zc (Zd 0) (Zc (Zd 1) Zo))) (Y4 2))
  (Z3 (Zbe (tV (Zj gLt (Zd 1) (fC (.int 0))))
  (wE (fUn Zue (Zd 2)) (Y4 2))
  fNx)
  (wE (Zez (Zc (Zj Zau (Zd 0) (Zd 2)) (Zc (Zj Zau (Zd 1) (Zd 2)) Zo))) W3)))
noncomputable def Jo:FD:=Je 2 3 Zdb
theorem Z3o {n:Nat} {t b:Int} (hb:b ≠ 0) (hB:Bt n b) (hn:n ≤ 9000) (s:Int) (e:s = shr t b):Zau (.int t) (.int s) = some (.int (Rat.divInt t b).num)∧Zau (.int b) (.int s) = some (.int ((Rat.divInt t b).den:Int)):=by
 subst e
 rw [Zhl (Zgx (Zxb hb) (Zyk hb hB) hn),Zhl (Zgx (Zxb hb) (Zyk hb hB) hn),Z15 hb,Z17 hb]
 exact ⟨rfl,rfl⟩
theorem Zhm {n:Nat} {t b:Int} (hb:b ≠ 0) (hB:Bt n b) (hn:n ≤ 9000:=by decide):Told Jo [.int t,.int b] (frD (Rat.divInt t b)):=by
 have fin:∀ {δ:Zh} {s:Int},s = shr t b→δ[0]? = some (some (.fz (.int t)))→δ[1]? = some (some (.fz (.int b)))→δ[2]? = some (some (.fz (.int s)))→Zke (wE (Zez (Zc (Zj Zau (Zd 0) (Zd 2)) (Zc (Zj Zau (Zd 1) (Zd 2)) Zo))) W3) δ (frD (Rat.divInt t b)):=fun e h0 h1 h2=>by
  obtain ⟨e1,e2⟩:=Z3o hb hB hn _ e
  exact Z8 (Za2 (Zb (Zu (Za h0) (Za h2) e1) (Zb (Zu (Za h1) (Za h2) e2) Zf)) (show 2 ≤ 1000 by decide))
 have g:Told Z6 [.int t,.int b] _:=.of (Zaf t b) (OT.data_fz _)
 by_cases c:b < 0
 ·exact Zv rfl <| Zx (Zr (Zm (Zb Za (Zb Za Zf)) g)) <| Zx (Zbp (Zcf (Zg5 Za Z2 (decide_eq_true c))) (Zr (Zno Za))) (fin (by unfold shr; rw [if_pos c]) rfl rfl rfl)
 ·exact Zv rfl <| Zx (Zr (Zm (Zb Za (Zb Za Zf)) g)) <| Zx (Yl (Zcf (Zg5 Za Z2 (decide_eq_false c))) rfl) (fin (by unfold shr; rw [if_neg c]) rfl rfl rfl)
noncomputable def Zcn:FS :=
 (wE (Zqc (Zl5 "int" (Zd 0)) (fUn Z7f (Zl5 "bool" (Zd 0)))) W3)
noncomputable def Yo:FD:=Je 1 1 Zcn
theorem Zf5 (i:Int):Yo [.int i] = .ok (.fz (.bool true)):=rfl
noncomputable def Zcp:FS :=
 (Z3 (Zbe (tO (tNo (tD (Zt Yo (Zc (Zd 0) Zo)))) (tO (tNo (tD (Zt Yo (Zc (Zd 1) Zo)))) (tV (Zj gEq (Zd 1) (fC (.int 0))))))
  (Zoe "NoNumber")
  fNx)
  (wE (Zt Jo (Zc (Zd 0) (Zc (Zd 1) Zo))) W3))
noncomputable def Yd:FD:=Je 2 2 Zcp
theorem Zdx {n:Nat} {t b:Int} (hb:b ≠ 0) (hB:Bt n b) (hn:n ≤ 9000:=by decide):Told Yd [.int t,.int b] (frD (Rat.divInt t b)):=by
 have w:∀ {i:Int},Told Yo [.int i] (.bool true):=fun {i}=>.of (Zf5 i) (OT.data_fz _)
 exact Zv rfl <| Zx (Yl (Z48 (Zh5 (p:=true) (Zge (Zm (Zb Za Zf) w))) (Z48 (Zh5 (p:=true) (Zge (Zm (Zb Za Zf) w))) (Zcf (Zp9 Za Z2 (decide_eq_false hb))))) rfl) (Z8 (Zm (Zb Za (Zb Za Zf)) (Zhm hb hB hn)))
noncomputable def Zab:FS :=
 (Z3 (wE (fC (.int 1)) (Y4 1))
  (Z3 (Jz (Zer (Zd 0)) (gNm 2)
  (wE (Zj Zfr (Zj Zau (Zd 1) (Zt Z6 (Zc (Zd 1) (Zc (Yg gIx (Zd 2) (fC (.int 1))) Zo)))) (Yg gIx (Zd 2) (fC (.int 1)))) (Y4 1)))
  (wE (Zd 1) W3)))
noncomputable def Yk:FD:=Je 1 3 Zab
noncomputable def prD (p:Int × Int):PyData:=.tuple [.int p.1,.int p.2]
theorem Zwv {a b B:Int} (ha:0 < a) (hb:0 < b) (h1:a ∣ B) (h2:b ∣ B) (hB:0 < B):0 < a.fdiv (Int.gcd a b) * b∧a ∣ a.fdiv (Int.gcd a b) * b∧b ∣ a.fdiv (Int.gcd a b) * b∧a.fdiv (Int.gcd a b) * b ∣ B:=by
 have hg:0 < (Int.gcd a b:Int):=Zel (by omega)
 have d1:(Int.gcd a b:Int) ∣ a:=Int.gcd_dvd_left ..
 have d2:(Int.gcd a b:Int) ∣ b:=Int.gcd_dvd_right ..
 rw [Ju hg]
 have e:a / (Int.gcd a b:Int) * b = (Int.lcm a b:Int):=by
  have q:=Int.gcd_mul_lcm a b
  have h3:(Int.gcd a b:Int) * (Int.lcm a b:Int) = a * b:=by
   rw [← Int.natCast_mul,q,Int.natCast_mul,Int.natAbs_of_nonneg (by omega),Int.natAbs_of_nonneg (by omega)]
  obtain ⟨k,hk⟩:=d1
  have e1:a / (Int.gcd a b:Int) = k:=Int.ediv_eq_of_eq_mul_right (by omega) hk
  rw [e1]
  apply Int.eq_of_mul_eq_mul_left (a:=(Int.gcd a b:Int)) (by omega)
  rw [h3,← Int.mul_assoc,← hk]
 rw [e]
 refine ⟨?_,Int.dvd_lcm_left ..,Int.dvd_lcm_right ..,Int.coe_lcm_dvd h1 h2⟩
 have:Int.lcm a b ≠ 0:=by
  rw [Ne,Int.lcm_eq_zero_iff]
  omega
 omega
theorem Zgz {n:Nat} {a B:Int} (hB:0 < B) (h:a ∣ B) (b:Bt n B):Bt n a:=by
 refine Bt.of_le b ?_
 have:=Int.natAbs_dvd_natAbs.mpr h
 exact Nat.le_of_dvd (by omega) this
theorem Zb4 {n:Nat} {B:Int} (hB:0 < B) (bB:Bt n B) (hn:n ≤ 9000:=by decide) (ps:List (Int × Int)) (h:∀ p ∈ ps,0 < p.2∧p.2 ∣ B) :
  ∃ m,Told Yk [.list (ps.map prD)] (.int m)∧0 < m∧(∀ p ∈ ps,p.2 ∣ m)∧m ∣ B:=by
 have key:∃ d,Told Yk [.list (ps.map prD)] d∧∃ m,d = .int m∧0 < m∧(∀ p ∈ ps,p.2 ∣ m)∧m ∣ B:=by
  refine Zmw rfl <| Zat (Zr Z2) <| Zlu (ds:=ps.map prD) (fun i δ=>∃ m z,δ = [some (.fz (.list (ps.map prD))),some (.fz (.int m)),z]∧0 < m∧(∀ j p,j < i→ps[j]? = some p→p.2 ∣ m)∧m ∣ B) (W6 Za) ⟨1,none,rfl,by decide,fun j p hj=>absurd hj (Nat.not_lt_zero j),Int.one_dvd _⟩ (fun i d δ hd hi=>?_) fun δ' hi=>?_
  ·obtain ⟨m,z,hδ,h1,h2,h3⟩:=hi
   subst hδ
   rw [List.getElem?_map] at hd
   cases e:ps[i]? with
   | none=>rw [e] at hd; cases hd
   | some p =>
    rw [e] at hd
    cases hd
    obtain ⟨q1,q2⟩:=h p (List.mem_of_getElem? e)
    obtain ⟨s1,s2,s3,s4⟩:=Zwv h1 q1 h3 q2 hB
    have g0:0 < (Int.gcd m p.2:Int):=Zel (by omega)
    have bg:Bt n (Int.gcd m p.2:Int):=Zgz hB (Int.dvd_trans (Int.gcd_dvd_right ..) q2) bB
    have bm:Bt n (m.fdiv (Int.gcd m p.2)):=by
     rw [Ju g0]
     exact Bt.of_le (Zgz hB h3 bB) (Int.natAbs_ediv_le_natAbs _ _)
    have at1:∀ {δ:Zh},δ[2]? = some (some (.fz (prD p)))→EvV (Yg gIx (Zd 2) (fC (.int 1))) δ (.int p.2):=fun h=>Ww (Za h) Z2 rfl
    refine ⟨_,_,rfl,.inl (Zr (Zu (Zu Za (Zm (Zb Za (Zb (at1 rfl) Zf)) (.of (Zaf m p.2) (OT.data_fz _))) (Zhl (Zgx (by omega) bg hn))) (at1 rfl) (Zen (Zd0 bm (Zgz hB q2 bB) (by omega))))),_,_,rfl,s1,fun j p' hj hp=>?_,s4⟩
    by_cases z:j = i
    ·subst z
     rw [e] at hp; cases hp
     exact s3
    ·exact Int.dvd_trans (h2 j p' (by omega) hp) s2
  ·obtain ⟨m,z,rfl,h1,h2,h3⟩:=hi
   refine Zil Za ⟨m,rfl,h1,fun p hp=>?_,h3⟩
   obtain ⟨j,hj⟩:=List.getElem?_of_mem hp
   exact h2 j p (by have:=(List.getElem?_eq_some_iff.mp hj).1; rwa [List.length_map]) hj
 obtain ⟨d,h,m,rfl,hm⟩:=key
 exact ⟨m,h,hm⟩
noncomputable def Zan:FS :=
 (Z3 (wE (fC (.int 1)) (Y4 1))
  (Z3 (Jz (Zer (Zd 0)) (gNm 2)
  (wE (Zt Yk (Zc (Yg Zui (Zf4 (Zc (Zez (Zc (fC (.int 1)) (Zc (Zd 1) Zo))) Zo)) (Zd 2)) Zo)) (Y4 1)))
  (wE (Zd 1) W3)))
noncomputable def Z4:FD:=Je 1 3 Zan
theorem Zzc (r:List Rat):r.map frD = (r.map fun q=>(q.num,(q.den:Int))).map prD:=by rw [List.map_map]; rfl
noncomputable def Z2d (T:List (List Rat)) (B:Int):Prop:=∀ r ∈ T,∀ q ∈ r,(q.den:Int) ∣ B
theorem Zcv {n:Nat} {B:Int} (hB:0 < B) (bB:Bt n B) (hn:n ≤ 9000:=by decide) (T:List (List Rat)) (hz:∀ r ∈ T,r.length ≤ 1000) (h:Z2d T B) :
  ∃ m,Told Z4 [tbD T] (.int m)∧0 < m∧Z2d T m∧m ∣ B:=by
 have key:∃ d,Told Z4 [.list (T.map Zl9)] d∧∃ m,d = .int m∧0 < m∧Z2d T m∧m ∣ B:=by
  refine Zmw rfl <| Zat (Zr Z2) <| Zlu (ds:=T.map Zl9) (fun i δ=>∃ m z,δ = [some (.fz (.list (T.map Zl9))),some (.fz (.int m)),z]∧0 < m∧(∀ j r,j < i→T[j]? = some r→∀ q ∈ r,(q.den:Int) ∣ m)∧m ∣ B) (W6 Za) ⟨1,none,rfl,by decide,fun j p hj=>absurd hj (Nat.not_lt_zero j),Int.one_dvd _⟩ (fun i d δ hd hi=>?_) fun δ' hi=>?_
  ·obtain ⟨m,z,hδ,h1,h2,h3⟩:=hi
   subst hδ
   rw [List.getElem?_map] at hd
   cases e:T[i]? with
   | none=>rw [e] at hd; cases hd
   | some r =>
    rw [e] at hd
    cases hd
    have hr:=List.mem_of_getElem? e
    obtain ⟨m',e1,p1,p2,p3⟩:=Zb4 hB bB hn ((1,m) :: r.map fun q=>(q.num,(q.den:Int))) fun p hp=>by
     rcases List.mem_cons.mp hp with rfl | hp
     ·exact ⟨h1,h3⟩
     ·obtain ⟨q,hq,rfl⟩:=List.mem_map.mp hp
      exact ⟨Zaz q,h r hr q hq⟩
    rw [List.map_cons,← Zzc] at e1
    have hl:=hz r hr
    refine ⟨_,_,rfl,.inl (Zr (Zm (Zb (Znr (ds:=[prD (1,m)]) (es:=r.map frD) (Zgb (Zb (Za2 (Zb Z2 (Zb Za Zf)) (show 2 ≤ 1000 by decide)) Zf) (show 1 ≤ 1000 by decide)) Za (by rw [List.length_map,List.length_singleton]; omega)) Zf) e1)),m',_,rfl,p1,fun j r' hj hr' q hq=>?_,p3⟩
    by_cases z:j = i
    ·subst z
     rw [e] at hr'; cases hr'
     exact p2 (q.num,(q.den:Int)) (.tail _ (List.mem_map.mpr ⟨q,hq,rfl⟩))
    ·exact Int.dvd_trans (h2 j r' (by omega) hr' q hq) (p2 (1,m) (.head _))
  ·obtain ⟨m,z,rfl,h1,h2,h3⟩:=hi
   refine Zil Za ⟨m,rfl,h1,fun r hr q hq=>?_,h3⟩
   obtain ⟨j,hj⟩:=List.getElem?_of_mem hr
   exact h2 j r (by have:=(List.getElem?_eq_some_iff.mp hj).1; rwa [List.length_map]) hj q hq
 obtain ⟨d,h,m,rfl,hm⟩:=key
 exact ⟨m,h,hm⟩
noncomputable def scI (m:Int) (q:Rat):Int:=q.num * (m / (q.den:Int))
theorem Zsi {m:Int} {q:Rat} (h:(q.den:Int) ∣ m):(scI m q:Rat) = q * (m:Rat):=by
 obtain ⟨k,rfl⟩:=h
 unfold scI
 rw [Int.mul_ediv_cancel_left _ (Zsn q)]
 rw [Rat.intCast_mul,Rat.intCast_mul,Ycu,Rat.mul_assoc]
noncomputable def Zb8:FS :=
 (wE (Yx 1 [0] (Zer (Zd 1)) (gNm 0) Zhs (Zj Zfr (Yg gIx (Zd 0) (fC (.int 0))) (Zj Zau (Zd 1) (Yg gIx (Zd 0) (fC (.int 1)))))) W3)
noncomputable def Wx:FD:=Je 2 2 Zb8
theorem Zfz {n:Nat} {m:Int} (hm:0 < m) (bm:Bt n m) (r:List Rat) (hz:r.length ≤ 1000) (h:∀ q ∈ r,(q.den:Int) ∣ m∧Bt n q.num) (hn:n ≤ 9000:=by decide) :
  Told Wx [.int m,Zl9 r] (.list (r.map fun q=>.int (scI m q))) :=
 Zv rfl <| Z8 <| Zbu (cs:=[some (.fz (.int m))]) r frD (fun q=>.int (scI m q)) (W6 Za) (by omega) rfl fun q hq=>by
  obtain ⟨h1,h2⟩:=h q hq
  refine (Zu (Ww (d:=.int q.num) Za Z2 rfl) (Zu Za (Ww (d:=.int (q.den:Int)) Za Z2 rfl) (Zhl (Zgx (Zsn q) (Zgz hm h1 bm) hn))) (Zen ?_)).cast ?_
  ·rw [Ju (Zaz q)]
   exact Zd0 h2 (Bt.of_le bm (Int.natAbs_ediv_le_natAbs _ _)) (by omega)
  ·rw [Ju (Zaz q)]; rfl
noncomputable def Zbk:FS :=
 (wE (Yx 1 [0] (Zer (Zd 1)) (gNm 0) Zhs (Zt Wx (Zc (Zd 1) (Zc (Zd 0) Zo)))) W3)
noncomputable def Ym:FD:=Je 2 2 Zbk
theorem Zei {n:Nat} {m:Int} (hm:0 < m) (bm:Bt n m) (T:List (List Rat)) (hT:T.length ≤ 1000) (hz:∀ r ∈ T,r.length ≤ 1000) (h:Z2d T m) (hb:∀ r ∈ T,∀ q ∈ r,Bt n q.num) (hn:n ≤ 9000:=by decide) :
  Told Ym [.int m,tbD T] (.list (T.map fun r=>.list (r.map fun q=>.int (scI m q)))) :=
 Zv rfl <| Z8 <| Zbu (cs:=[some (.fz (.int m))]) T Zl9 (fun r=>.list (r.map fun q=>.int (scI m q))) (W6 Za) (by omega) rfl fun r hr=>Zm (Zb Za (Zb Za Zf)) (Zfz hm bm r (hz r hr) (fun q hq=>⟨h r hr q hq,hb r hr q hq⟩) hn)
noncomputable def Zcj:FS :=
 (Z3 (wE (Zf4 Zo) (Zbb 1))
  (Z3 (Jz (iRa (Zc (Zd 0) Zo)) (gNm 2)
  (Jz (iRb (Zc (Zj Zdp (Zd 2) (fC (.int 1))) (Zc (Zd 0) Zo))) (gNm 3)
  (Y9 1 (Zez (Zc (Zd 2) (Zc (Zd 3) Zo))))))
  (Zd1 1)))
noncomputable def Yz:FD:=Je 1 4 Zcj
noncomputable def Y5 (n:Nat):List (Nat × Nat):=(List.range n).flatMap fun i=>(List.range (n - (i + 1))).map fun j=>(i,i + 1 + j)
noncomputable def ptD (p:Nat × Nat):PyData:=.tuple [.int p.1,.int p.2]
theorem Zfa {n:Nat} {p:Nat × Nat} (h:p ∈ Y5 n):p.1 < p.2∧p.2 < n:=by
 unfold Y5 at h
 obtain ⟨i,hi,hp⟩:=List.mem_flatMap.mp h
 obtain ⟨j,hj,rfl⟩:=List.mem_map.mp hp
 have:=List.mem_range.mp hi
 have:=List.mem_range.mp hj
 dsimp only
 omega
theorem Zik {n i j:Nat} (h:i < j) (hj:j < n):(i,j) ∈ Y5 n:=by
 unfold Y5
 exact List.mem_flatMap.mpr ⟨i,List.mem_range.mpr (by omega),List.mem_map.mpr ⟨j - (i + 1),List.mem_range.mpr (by omega),by congr 1; omega⟩⟩
noncomputable def Zjv (n i:Nat):List (Nat × Nat):=(List.range i).flatMap fun i=>(List.range (n - (i + 1))).map fun j=>(i,i + 1 + j)
theorem Zg8 (n:Nat):∀ i,(Zjv n i).length ≤ i * n
 | 0=>by simp [Zjv]
 | i + 1=>by
  have:=Zg8 n i
  unfold Zjv at this ⊢
  rw [List.range_succ,List.flatMap_append,List.length_append]
  simp only [List.flatMap_cons,List.flatMap_nil,List.append_nil,List.length_map,List.length_range]
  have e:(i + 1) * n = i * n + n:=by rw [Nat.succ_mul]
  omega
theorem Zpt (n i:Nat):Zjv n (i + 1) = Zjv n i ++ (List.range (n - (i + 1))).map fun j=>(i,i + 1 + j):=by
 unfold Zjv; rw [List.range_succ,List.flatMap_append]; simp
theorem Zha (n:Nat) (hn:n ≤ 1000):Told Yz [.int n] (.list ((Y5 n).map ptD)):=by
 refine Zv rfl <| Zx Zf7 <| Zho (ds:=Ze0 0 n) (fun i δ=>∃ z1 z2,δ = [some (.fz (.int n)),some (.nd (((Zjv n i).map ptD).map OT.fz)),z1,z2]) (Zhp (Zb Za Zf) (by omega)) ⟨_,_,rfl⟩ (fun i d δ hd h=>?_) fun δ' h=>?_
 ·obtain ⟨z1,z2,rfl⟩:=h
  obtain ⟨hi,rfl⟩:=Jv hd
  rw [Int.zero_add]
  have ln:=Zg8 n i
  have l2:i * n ≤ 999 * 1000:=Nat.mul_le_mul (by omega) hn
  refine Znq (ds:=Ze0 ((i + 1:Nat):Int) (n - (i + 1))) (fun j δ=>∃ z,δ = [some (.fz (.int n)),some (.nd (((Zjv n i ++ (List.range j).map fun j=>(i,i + 1 + j)).map ptD).map OT.fz)),some (.fz (.int i)),z]) rfl (Zu0 (m:=i + 1) (Zb (EvV.cast (W4 Za Z2) rfl) (Zb Za Zf)) (by omega) (by omega)) ⟨z2,by rw [List.range_zero,List.map_nil,List.append_nil]; rfl⟩ (fun j d δ hd h=>?_) fun δ' h=>?_
  ·obtain ⟨z,rfl⟩:=h
   obtain ⟨hj,rfl⟩:=Jv hd
   refine ⟨_,_,rfl,.inl (Zf1 (Za2 (Zb Za (Zb Za Zf)) (show 2 ≤ 1000 by decide)) rfl (by rw [List.length_map,List.length_map,List.length_append,List.length_map,List.length_range]; omega)),some (.fz (.int (((i + 1:Nat):Int) + j))),?_⟩
   rw [List.range_succ]
   simp only [List.map_append,List.append_assoc]
   rfl
  ·obtain ⟨z,rfl⟩:=h
   rw [Y8,← Zpt]
   exact ⟨_,_,rfl⟩
 ·obtain ⟨z1,z2,rfl⟩:=h
  rw [Y8]
  exact Z67 rfl (by rw [OT.data_nd,OT.map_fz]; rfl)
end My
namespace My
open PySem L2 PySem.Spec
noncomputable def Za3:FS :=
 (Z3 (Zbe (tV (Zj gLt (Zd 1) (Za9 Zcg (Zc (Zd 0) Zo))))
  (wE (Yg gIx (Zd 0) (Zd 1)) W3)
  fNx)
  (wE (fC (.int 0)) W3))
noncomputable def Wi:FD:=Je 2 2 Za3
noncomputable def Zdf:FS :=
 (Z3 (Zbe (tV (Zj gEq (Zj Zf6 (Zj Zau (Zd 0) (fC (.int 7))) (fC (.int 8))) (fC (.int 3))))
  (wE (Zj Zdp (Zj Zdp (Zd 2) (fC (.int 1))) (Zj Zf6 (Zj Zau (Zd 0) (fC (.int 56))) (Zj gSb (Zd 3) (Zd 2)))) W3)
  fNx)
  (wE (Zj Zdp (Zd 1) (Zj Zf6 (Zd 0) (Zj gSb (Zj Zdp (Zd 2) (fC (.int 1))) (Zd 1)))) W3))
noncomputable def W7:FD:=Je 4 4 Zdf
noncomputable def Zc4:FS :=
 (Z3 (wE (Zj Zf6 (Zj Zfr (Zj Zdp (Zj Zdp (Zj Zf6 (Zd 0) (fC (.int 2147483629))) (Zj Zfr (fC (.int 9973)) (Zd 1))) (fC (.int 5))) (fC (.int 48271))) (fC (.int 2147483647))) (Y4 2))
  (Z3 (wE (Zj Zf6 (Zj Zfr (Zd 2) (Zd 2)) (fC (.int 2147483587))) (Y4 2))
  (wE (Zj Zau (Zj Zf6 (Zj Zfr (Zj Zdp (Zd 2) (Zj Zfr (fC (.int 7919)) (Zd 1))) (fC (.int 16807))) (fC (.int 2147483563))) (fC (.int 8))) W3)))
noncomputable def Wm:FD:=Je 2 3 Zc4
noncomputable def Za8:FS :=
 (Z3 (wE (Zf4 Zo) (Zbb 2))
  (Z3 (wE (Zd 0) (Y4 3))
  (Z3 (Jz (iRa (Zc (Zd 1) Zo)) (gNm 4)
  (Z3 (wE (Zt Wm (Zc (Zd 0) (Zc (Zd 4) Zo))) (Y4 5))
  (Z3 (Zbe (tV (Zj gGe (Zd 0) (Zj Zuo (fC (.int 10)) (fC (.int 18)))))
  (wE (Zj Zf6 (Zd 3) (fC (.int 720720))) (Y4 5))
  fNx)
  (Z3 (wE (Zj Zau (Zd 3) (fC (.int 720720))) (Y4 3))
  (Y9 2 (Zd 5))))))
  (Zd1 2))))
noncomputable def Wh:FD:=Je 2 6 Za8
noncomputable def Zi (p:List Int):PyData:=.list (p.map PyData.int)
theorem Znn {p:List Int} {i:Int} (h0:0 ≤ i) (h1:i < p.length):atI (p.map PyData.int) i = some (.int (p.getD i.toNat 0)):=by
 rw [Zkb h0,List.getElem?_map,List.getElem?_eq_getElem (by omega)]
 simp [List.getD_eq_getElem?_getD,List.getElem?_eq_getElem (show i.toNat < p.length by omega)]
theorem Wv {a b:FE} {δ:Zh} {p:List Int} {i:Int} (ha:EvV a δ (Zi p)) (hb:EvV b δ (.int i)) (h0:0 ≤ i) (h1:i < p.length):EvV (Yg gIx a b) δ (.int (p.getD i.toNat 0)):=Zyn ha hb (Znn h0 h1)
theorem Zac {a:FE} {δ:Zh} {p:List Int} (ha:EvV a δ (Zi p)):EvV (Za9 Zcg (Zc a Zo)) δ (.int p.length):=by
 have:=Zis (ds:=p.map PyData.int) ha
 rwa [List.length_map] at this
theorem Ybz:Zuo (.int 10) (.int 18) = some (.int 1000000000000000000):=rfl
theorem Zig (ns:List Int) {k:Int} (h0:0 ≤ k):∃ c,Wi [Zi ns,.int k] = .ok (.fz (.int c)):=by
 by_cases c:k < ns.length
 ·exact ⟨_,Told.int <| Zv rfl <| Zay (Zd8 (Zcf (Zg5 Za (Zac Za) (decide_eq_true c))) (Z8 (Wv Za Za h0 c)))⟩
 ·exact ⟨_,Told.int <| Zv rfl <| Zx (Yl (Zcf (Zg5 Za (Zac Za) (decide_eq_false c))) rfl) (Z8 Z2)⟩
theorem Z12 (c:Int) {a b d:Int} (h1:a ≤ b) (h2:b < d):∃ n:Int,W7 [.int c,.int a,.int b,.int d] = .ok (.fz (.int n))∧a ≤ n∧n ≤ d:=by
 by_cases k:(c.fdiv 7).fmod 8 = 3
 ·have q0:=Zeb (i:=c.fdiv 56) (j:=d - b) (by omega)
  have q1:=Zdw (i:=c.fdiv 56) (j:=d - b) (by omega)
  exact ⟨_,Told.int <| Zv rfl <| Zay (Zd8 (Zcf (Zp9 (Zaa (Zco Za Z2) Z2 (by decide)) Z2 (decide_eq_true k)))
   (Z8 (W4 (W4 Za Z2) (Zaa (Zco Za Z2) (Znt Za Za) (by omega))))),by omega,by omega⟩
 ·have q0:=Zeb (i:=c) (j:=b + 1 - a) (by omega)
  have q1:=Zdw (i:=c) (j:=b + 1 - a) (by omega)
  exact ⟨_,Told.int <| Zv rfl <| Zx (Yl (Zcf (Zp9 (Zaa (Zco Za Z2) Z2 (by decide)) Z2 (decide_eq_false k))) rfl)
   (Z8 (W4 Za (Zaa Za (Znt (W4 Za Z2) Za) (by omega)))),by omega,by omega⟩
theorem Zsj (c k:Int):∃ v,Told Wm [.int c,.int k] (.int v):=by
 have n0:=Zeb (i:=(c.fmod 2147483629 + 9973 * k + 5) * 48271) (j:=2147483647) (by decide)
 have n1:=Zdw (i:=(c.fmod 2147483629 + 9973 * k + 5) * 48271) (j:=2147483647) (by decide)
 exact ⟨_,Zv rfl <| Zx (Zr (Zaa (Zrh (W4 (W4 (Zaa Za Z2 (by decide)) (Zc0 Z2 Za)) Z2) Z2) Z2 (by decide))) <|
  Zx (Zr (Zaa (Zc0 Za Za (by omega)) Z2 (by decide))) <|
  Z8 (Zco (Zaa (Zrh (W4 Za (Zc0 Z2 Za)) Z2) Z2 (by decide)) Z2)⟩
theorem Zje {i:Nat} {e:FE} {δ:Zh} {vs:List Int} {v:Int} (h:EvV e δ (.int v)) (hi:δ[i]? = some (some (.nd (vs.map fun v=>.fz (.int v))))) (hl:vs.length ≤ 1000000):Y9 i e δ = .nx (δ.set i (some (.nd ((vs ++ [v]).map fun v=>.fz (.int v))))):=by
 rw [Zf1 h hi (by rw [List.length_map]; exact hl),List.map_append]; rfl
theorem Zrm (p:List Int):(OT.nd ((p.map PyData.int).map OT.fz)).data = Zi p:=by
 rw [OT.data_nd,OT.map_fz]; rfl
theorem Zi4 (vs:List Int):(OT.nd (vs.map fun v=>OT.fz (.int v))).data = Zi vs:=by rw [OT.data_nd,Zp3]; rfl
theorem Zo5 (c:Int) (m:Nat) (hm:m ≤ 1000):∃ vs:List Int,Told Wh [.int c,.int m] (Zi vs)∧vs.length = m:=by
 have key:∃ d,Told Wh [.int c,.int m] d∧∃ vs,d = Zi vs∧vs.length = m :=
  Zmw rfl <| Zat Zf7 <| Zat (Zr Za) <| Zlu (ds:=Ze0 0 m) (fun i δ=>∃ (vs:List Int) (x:Int) (z1 z2:Option OT),δ = [some (.fz (.int c)),some (.fz (.int m)),some (.nd (vs.map fun v=>.fz (.int v))),some (.fz (.int x)),z1,z2]∧vs.length = i)
   (Zhp (Zb Za Zf) (by omega)) ⟨[],c,none,none,rfl,rfl⟩ (fun i d δ hd q91=>by
    obtain ⟨vs,x,z1,z2,e,hl⟩:=q91
    subst e
    obtain ⟨hi,rfl⟩:=Jv hd
    obtain ⟨v,ev⟩:=Zsj c (0 + (i:Int))
    by_cases q:1000000000000000000 ≤ c
    ·exact ⟨_,_,rfl,.inl (Yb (Zr (Zm (Zb Za (Zb Za Zf)) ev)) <| Yb (Zbp (Zcf (Zw7 Za (Zu Z2 Z2 Ybz) (decide_eq_true q))) (Zr (Zaa Za Z2 (by decide)))) <|
      Yb (Zr (Zco Za Z2)) (Zje (vs:=vs) Za rfl (by omega))),_,_,_,_,rfl,by rw [List.length_append,hl]; rfl⟩
    ·exact ⟨_,_,rfl,.inl (Yb (Zr (Zm (Zb Za (Zb Za Zf)) ev)) <| Yb (Yl (Zcf (Zw7 Za (Zu Z2 Z2 Ybz) (decide_eq_false q))) rfl) <|
      Yb (Zr (Zco Za Z2)) (Zje (vs:=vs) Za rfl (by omega))),_,_,_,_,rfl,by rw [List.length_append,hl]; rfl⟩)
   fun δ' q92=>by
    obtain ⟨vs,x,z1,z2,e,hl⟩:=q92
    subst e
    rw [Y8] at hl
    exact Z85 rfl ⟨vs,Zi4 vs,hl⟩
 obtain ⟨d,h,vs,rfl,hl⟩:=key
 exact ⟨vs,h,hl⟩
end My
namespace L2
open PySem PySem.Spec PyProof.Rows
variable {G:PySem.W.Frag}
section
variable {X:Cx} {io:List Nat} {p c:Bool} {e a b:Expr} {es:List Expr} {m mj:MEt} {pos apos cpos px sp kp:Pos} {i:Nat} {x:Str} {fa fb:FE} {st:Stmt}
end
end L2
namespace L2
open PySem PySem.Spec PyProof.Rows
variable {G:PySem.W.Frag}
section
variable {X:Cx} {io:List Nat} {p c p' c':Bool} {a b e:Expr} {ma mb m:MEt} {pos pp:Pos} {x:Str}
end
end L2
namespace L2
open PySem PySem.Spec PyProof.Rows
variable {G:PySem.W.Frag}
section
variable {X:Cx} {K:PySem.W.Frag}
end
section
variable {X:Cx} {io:List Nat} {p c p' c':Bool} {o e:Expr} {es:List Expr} {mo:MEt} {mr:MAt} {apos cpos:Pos} {r:V→List V→Hp→VK→Prop} {name:Str} {id:String}
variable {fo:FE} {ra:FA}
end
end L2
namespace L2
open PySem PySem.Spec PyProof.Rows
variable {G:PySem.W.Frag}
section
variable {X:Cx} {io:List Nat} {p c:Bool} {e tg:Expr} {m:MEt}
end
end L2
namespace L2
open PySem PySem.Spec PyProof.Rows
variable {G:PySem.W.Frag}
section
variable {X:Cx}
end
end L2
namespace L2
open PySem PySem.Spec PyProof.Rows
end L2
namespace L2
open PySem PySem.Spec PyProof.Rows
variable {G:PySem.W.Frag}
section
variable {X:Cx} {io:List Nat} {p c:Bool} {a e:Expr} {ma:MEt} {pos p2:Pos}
end
end L2
namespace L2
open PySem PySem.Spec PyProof.Rows
variable {G:PySem.W.Frag}
noncomputable def Sg (z:Str) (t:Tok) (it:Addr) (i:Nat) (h:Heap):Prop:=h.IsStrIter it "str_ascii_iterator" z t i∨h.IsStrIter it "str_iterator" z t i
section
variable {P:Program} {w:World} {A:Around} {E:Value→Shared→Prop} {s:Shared}
structure Ap (z TI TO i1 i2:Addr):Prop where
 a1:TI ≠ z
 a2:TO ≠ z
 a3:i1 ≠ z
 a4:i2 ≠ z
 a5:i1 ≠ TO
 a6:i2 ≠ TO
 a7:i1 ≠ i2
 a8:TI ≠ TO
 a9:TI ≠ i1
 a10:TI ≠ i2
noncomputable abbrev yT1 (h:Heap) (x:Str) (t:Tok):Heap:=h.push { cls:=.type (strIterType x),data:=.fields #[.str x t,.int 0 0] }
noncomputable abbrev yT2 (h:Heap) (x y:Str) (t u:Tok):Heap:=yT1 (yT1 h x t) y u
noncomputable abbrev yT3 (h:Heap) (x y:Str) (t u:Tok):Heap:=(yT2 h x y t u).push { cls:=.type "tuple", data:=.seq #[.ref h.objs.size,.ref (yT1 h x t).objs.size] }
noncomputable abbrev yT4 (h:Heap) (x y:Str) (t u:Tok):Heap:=(yT3 h x y t u).push { cls:=.type "tuple", data:=.seq #[.none,.none] }
noncomputable abbrev yT5 (h:Heap) (x y:Str) (t u:Tok):Heap:=(yT4 h x y t u).push { cls:=.type "zip", data:=.fields #[.none,.bool false,.bool false,.ref (yT2 h x y t u).objs.size,.ref (yT3 h x y t u).objs.size] }
theorem Sg.at {h:Heap} {x:Str} {t:Tok} {it:Addr} (e:h.get? it = some { cls:=.type (strIterType x),data:=.fields #[.str x t,.int 0 0] }):Sg x t it 0 h:=by
 unfold strIterType at e
 split at e
 ·exact .inl ⟨_,e,rfl,rfl⟩
 ·exact .inr ⟨_,e,rfl,rfl⟩
end
section
variable {X:Cx} {io:List Nat} {p c:Bool} {a b:Expr} {mr:MAt} {ra:FA}
end
end L2
namespace L2
open PySem PySem.Spec PyProof.Rows
variable {G:PySem.W.Frag}
section
variable {prog:Program} {w:World} {A:Around} {R:Result→Shared→Prop} {I:Addr} {fp wr:List Addr} {n:Nat} {Pv:Nat→Value→Prop} {St:Nat→Heap→Prop}
end
section
variable {prog:Program} {w:World} {A:Around} {E:Value→Shared→Prop} {s:Shared}
end
section
variable {X:Cx} {p c:Bool} {io:List Nat} {a e:Expr} {pos pos' pl pr:Pos} {t:TA} {mr:MAt} {ra:FA}
end
end L2
namespace L2
open PySem PySem.Spec PyProof.Rows
section
variable {X:Cx} {io:List Nat} {tg iter test:Expr} {rs:List Stmt} {mi:MIt} {g:MGt} {mt:MTt} {ur:MSt} {pos pi:Pos} {st:Stmt} {it:FI} {gg:FG} {t:FT} {r:FS}
end
section
variable {X:Cx} {io:List Nat} {e:Expr} {m:MEt} {fa:FE} {i:Nat} {pos pt:Pos} {st:Stmt}
end
section
variable {X:Cx} {io:List Nat} {x:Str} {pos:Pos}
end
end L2
namespace L2
end L2
namespace L2
open PySem PySem.Spec PyProof.Rows
variable {G:PySem.W.Frag}
section
variable {X:Cx}
end
end L2
namespace L2
open PySem PySem.Spec PyProof.Rows PySem.W PySem.SeqAt
open AutoSeq1 (wpAny_loadPart')
open MeetsSeq MeetsSeq2 MeetsSeq3 SeqRoads2
end L2
namespace L2
open PySem PySem.Spec PyProof.Rows
variable {G:PySem.W.Frag}
section
variable {X:Cx}
end
end L2
namespace L2
open PySem PySem.Spec PyProof.Rows PySem.W
structure Tot (lt:Nat→Nat→Bool) (n:Nat):Prop where
 tr:∀ i j k,i < n→j < n→k < n→lt i j = true→lt j k = true→lt i k = true
 tot:∀ i j,i < n→j < n→i ≠ j→lt i j = false→lt j i = true
 asy:∀ i j,i < n→j < n→lt i j = true→lt j i = false
section
variable {lt:Nat→Nat→Bool} {n:Nat}
noncomputable abbrev gD (p:Array Nat) (i:Nat):Nat:=p.getD i 0
variable (T:Tot lt n)
include T
end
end L2
namespace L2
open PySem PySem.Spec PyProof.Rows
variable {G:PySem.W.Frag}
section
variable {X:Cx}
end
end L2
namespace L2
open PySem PySem.Spec PyProof.Rows
variable {G:PySem.W.Frag}
noncomputable def Zyu (m:MEt):MEt:=fun δ K=>m δ fun r δ1=>match r with | .nd ts=>K (.nd ((OT.datas ts).map OT.fz)) δ1 | _=>False
section
variable {X:Cx} {io:List Nat} {p c:Bool} {e b:Expr} {m mb:MEt} {i:Nat} {x:Str} {px pp pos:Pos}
theorem Z74 {t:TE} (s:SE G io p true t m):SE G io p true t (Zyu m):=by
 refine fun C H σ δ fp ex K Q R h kk=>s C H σ δ fp ex _ _ R h fun H1 v r δ1 fp1 new r1 h1=>?_
 split at h1
 case h_2=>exact h1.elim
 rename_i ts
 obtain ⟨rel,stp,own,nd,fresh⟩:=r1
 generalize et:OT.nd ts = o at own
 cases own with
 | nd e1 ow =>
  rename_i a xs ts' bs
  cases et
  have hn:=List.nodup_cons.mp nd
  refine kk H1 (.ref a) _ δ1 fp1 [a] ⟨rel.drop fun b z=>z.imp id fun z=>by rw [List.mem_singleton.mp z]; exact .head _,stp,.nd e1 (Das.owns (ow.das (fun b l q hc=>?_) fun b hb hc=>?_)),List.nodup_cons.mpr ⟨(fun z=>nomatch z),.nil⟩,fun b hb=>by rw [List.mem_singleton.mp hb]; exact fresh a (.head _)⟩ h1
  ·exact ⟨(l hc).1,fun z=>(l hc).2.1 (z.imp id fun z=>by rw [List.mem_singleton.mp z]; exact .head _),(l hc).2.2⟩
  ·have ok:=R.newOk (fresh b (.tail _ hb))
   refine ⟨fun z=>?_,fun z=>z.elim ok.2.1 fun z=>hn.1 (by rw [← List.mem_singleton.mp z]; exact hb),.inr ok.2.2⟩
   obtain ⟨j,z⟩:=z
   exact rel.dx j b z (.inr (.tail _ hb))
 | _=>cases et
theorem Zm8 {ci pt pe:Bool} {g:MGt} {mt:MTt} {me:MEt} {mi:MIt} {own:List Str} {caps:List Nat} {N':List Str} {sc:Scope} {tg elt iter:Expr} {ifs:List Expr} {y:Str} {py spos:Pos} (hN:X.N.Nodup) (hy:X.N[i]? = some y) (hx:Loc X.env.scope y) (S:CompScope X own caps N' sc) (hc:X.calm = true) (nd:caps.Nodup) (hi:MI X io p ci tg iter mi)
  (hg:∀ C cells s₂ H₂ fp,MG (Yv X N' sc C cells s₂ H₂ fp) (Jx own.length caps) ci tg g) (ht:∀ C cells s₂ H₂ fp,MIfs (Yv X N' sc C cells s₂ H₂ fp) (Jx own.length caps) pt ifs mt) (he:∀ C cells s₂ H₂ fp,ME (Yv X N' sc C cells s₂ H₂ fp) (Jx own.length caps) pe true elt me)
  (hp:(pt && pe) = true:=by rfl) (hio:i ∉ io:=by decide)
  (hsw:swapsWith (.ListComp elt [⟨tg,iter,ifs,0⟩] sc pos) (some (.Name y py)) spos.line X.env = pure true:=by rfl)
  (hs:∀ x,foldedSetIterable iter X.env x = pure x:=by intro _; rfl) (hf:X.fn y = true∨X.env.scope.names.lookup y = some .local:=by first | exact .inl rfl | exact .inr rfl | assumption) :
  MS X io (.Assign [.Name y py] (.ListComp elt [⟨tg,iter,ifs,0⟩] sc pos) spos) (Zlm i (Zyu (Zfe own.length caps mi g mt me))):=by
 obtain ⟨_,A,si⟩:=hi
 exact ⟨_,Zim (g:=gM X.K (Jx own.length caps) ci g) (tt:=ttM X.K (Jx own.length caps) pt mt) (te:=tM X.K (Jx own.length caps) pe true me) hN hy hx S hc A (fun C cells s₂ H₂ fp=>(hg C cells s₂ H₂ fp).canon) (fun C cells s₂ H₂ fp=>(ht C cells s₂ H₂ fp).canon) (fun C cells s₂ H₂ fp=>(he C cells s₂ H₂ fp).canon) hsw hs hf,Z08 (Z74 (Zwt si nd hp)) hio⟩
noncomputable def Zxm (i:Nat):MEt:=fun δ K=>∃ ts,δ[i]? = some (some (.nd ts))∧Zk6 ts = true∧K (.nd ((OT.datas ts).map OT.fz)) δ
theorem Z00 (i:Nat) (hg:Gl X "list") (hm:X.mg "list" = none) (hvb:bootBuiltins "list" = some (.type "list"))
  (hN:X.N[i]? = some x:=by rfl) (hv:Vis X.env.scope x:=by first | exact Or.inl rfl | exact Or.inr (Or.inl rfl) | exact Or.inr (Or.inr rfl)) (hd:(x == ("__debug__" : Str)) = false:=by decide) (hcd:(x == ("__classdict__" : Str)) = false:=by decide)
  (he:starEach [.Name x px] X.env = (false,eval (.Name x px) X.env) :: starEach [] X.env:=by rfl) (hpl:(backTo pos (starEach [] X.env)).any (·.1) = false:=by rfl):ME X io true true (.Call (.Name "list" pp) [.Name x px] [] pos) (Zxm i):=by
 refine ⟨_,Zs6 (Zp6 rfl) hg hm hvb (Zc7 (pv i hN hv hd hcd) Zgu he) (by decide) (by decide) he hpl,fun C H σ δ fp ex K Q R h kk=>?_⟩
 obtain ⟨ts,hi,hz,h⟩:=h
 obtain ⟨a',xs,bs,hv0,hx,ow,hfp⟩:=R.ownNd hi
 refine ⟨_,hv0,a',xs,rfl,.inl (.inl (.inl hx)),fun l hl=>?_⟩
 have s:=Yc hl (.lst xs)
 refine kk _ (.ref l) _ δ fp [l] (RE.tree R R (Stp.refl true H δ fp) s (fun a m=>by rw [List.mem_singleton.mp m]; exact hl) (List.nodup_cons.mpr ⟨(fun z=>nomatch z),.nil⟩) (.nd Z7 (Das.owns (((ow.fz_das hz).wide (L':=fun a=>((true = true→Lf C fp ex a)∨H a = none)∧a ∉ [l]) fun a q n=>⟨.inl fun _=>q,fun z=>n (by rw [List.mem_singleton.mp z]; exact hl)⟩).same s)))) h
noncomputable def Yaf (i:Nat) (mb:MEt):MEt:=fun δ K=>∃ ts,δ[i]? = some (some (.nd ts))∧Zk6 ts = true∧mb δ fun n δ1=>asI n.data fun k=>match atI (OT.datas ts) k with | some d=>K (.fz d) δ | none=>False
theorem Z92 (i:Nat) (hb:ME X io true c b mb) (hs:Zgq b)
  (hN:X.N[i]? = some x:=by rfl) (hv:Vis X.env.scope x:=by first | exact Or.inl rfl | exact Or.inr (Or.inl rfl) | exact Or.inr (Or.inr rfl)) (hd:(x == ("__debug__" : Str)) = false:=by decide) (hcd:(x == ("__classdict__" : Str)) = false:=by decide):ME X io true true (.Subscript (.Name x px) b pos) (Yaf i mb):=by
 obtain ⟨_,B,sb⟩:=hb
 refine ⟨_,Zzo (Ztr rfl) (pv i hN hv hd hcd) B hs,fun C H σ δ fp ex K Q R h kk=>?_⟩
 obtain ⟨ts,hi,hz,h⟩:=h
 obtain ⟨a',xs,bs,hv0,hx,ow,hfp⟩:=R.ownNd hi
 refine ⟨_,hv0,sb.pureAfter R h fun H2 w n R2 s2 q2 h2=>?_⟩
 obtain ⟨k,e2,h2⟩:=q2.intInv h2
 subst e2
 split at h2
 case h_2=>exact h2.elim
 rename_i d ed
 have qs:=(ow.fz_das hz).same s2
 obtain ⟨v,e3,q⟩:=qs.atI ed
 exact .inl ⟨a',xs,k,v,rfl,rfl,.inl (.inl (s2 _ _ hx)),e3,kk H2 v _ δ fp [] (.fz R2 (.same s2 s2.al) (q.wide fun a l _ _=>l)) h2⟩
end
noncomputable def Zuy (e:FE):FE:=fun δ=>(e δ).bind fun p=>match p.1 with | .nd ts=>some (.nd ((OT.datas ts).map OT.fz),p.2) | _=>none
noncomputable def Znp (i:Nat):FE:=fun δ=>(Z2n δ[i]?).bind fun ts=>some (.nd ((OT.datas ts).map OT.fz),δ)
noncomputable def Z7a (i:Nat) (b:FE):FE:=fun δ=>(Z2n δ[i]?).bind fun ts=>(b δ).bind fun q=>match q.1.data with
 | .int k=>(atI (OT.datas ts) k).bind fun d=>some (.fz d,δ)
 | _=>none
section
variable {X:Cx} {io:List Nat} {p c:Bool} {e:Expr} {fa fb:FE} {i:Nat}
theorem Zvm {st:Stmt} {n:Nat} {caps:List Nat} {it:FI} {gg:FG} {t:FT} {me:FE} (h:MS X io st (Zlm i (Zyu (Zfe n caps (o2 it) (oG gg) (o2 t) (o2 me))))):MS X io st (oS (wE (Zuy (Yx n caps it gg t me)) (Zbb i))):=h.weak fun D δ h=>by
 obtain ⟨r,δ',h,k⟩:=Zqd h
 obtain ⟨⟨x,δ1⟩,h1,h⟩:=bs h
 refine Zn4 ⟨x,δ1,h1,?_⟩
 try dsimp only at h ⊢
 split at h
 case h_2=>cases h
 cases h
 exact k
theorem Zu9 (h:ME X io p c e (Zxm i)):ME X io p c e (o2 (Znp i)):=h.weak fun δ K h=>by
 obtain ⟨r,δ',h,k⟩:=h
 obtain ⟨ts,h1,h⟩:=bs h
 obtain ⟨e1,e2⟩:=Zse h1
 cases h
 exact ⟨ts,e1,e2,k⟩
theorem Z6b (h:ME X io p c e (Yaf i (o2 fb))):ME X io p c e (o2 (Z7a i fb)):=h.weak fun δ K h=>by
 obtain ⟨r,δ',h,k⟩:=h
 obtain ⟨ts,h1,h⟩:=bs h
 obtain ⟨e1,e2⟩:=Zse h1
 obtain ⟨⟨y,δ2⟩,h2,h⟩:=bs h
 refine ⟨ts,e1,e2,y,δ2,h2,?_⟩
 try dsimp only at h ⊢
 split at h
 case h_2=>cases h
 rename_i n q
 obtain ⟨d,h3,h⟩:=bs h
 cases h
 rw [q]
 show (match atI (OT.datas ts) n with | some d=>K (.fz d) δ | none=>False)
 rw [h3]
 exact k
end
end L2
namespace L2
open PySem PySem.Spec PyProof.Rows
variable {G:PySem.W.Frag}
section
variable {prog:Program} {w:World} {A:Around} {E:Value→Shared→Prop} {s:Shared}
noncomputable def Zpw (h:Heap) (vs:List Value):Heap:=(h.push (seqObj "list" #[] 0)).update h.objs.size (Obj.mapSeq (· ++ vs.toArray))
theorem Znd {l:Addr} {vs:List Value} {Q:List Value→Shared→Prop} (hl:IsTup s.heap l vs.toArray) (hz:vs.length ≤ sizeLine) (h:Q vs { s with heap:=Zpw s.heap vs }):wpAny (model prog w) A (collect (.ref l)) Q E s:=by
 obtain ⟨o,o1,oc,n,od⟩:=id hl
 have o2:(s.heap.push (seqObj "list" #[] 0)).get? l = some o:=Heap.get?_push_of_some _ o1
 have o3:(s.heap.push (seqObj "list" #[] 0)).get? s.heap.objs.size = some (seqObj "list" #[] 0):=Heap.get?_push_size _ rfl
 unfold collect
 refine wpAny_bind (wpAny_runValue (codeAny_builtin entry_proto_collect' ?_)); show wpAny _ _ (do again (.builtin "list.__iadd__" ⟨[← newList [],.ref l],[]⟩)) _ _ s
 refine wpAny_bind (wpAny_newList (wpAny_pure ⟨Code.quiet_builtin _ (by decide +kernel),codeAny_builtin entry_list_iadd' ?_⟩)); show wpAny _ _ (Builtin.List.listExtendWith (.ref s.heap.objs.size) (.ref l) (.ref s.heap.objs.size)) _ _ { s with heap:=s.heap.push (seqObj "list" #[] 0) }
 unfold Builtin.List.listExtendWith
 refine wpAny_bind (wpAny_typeOf (T := "tuple") ⟨o,o2,oc⟩ ?_)
 rw [if_pos (by rw [show (Value.type "tuple" == Value.type "tuple") = true from rfl,Bool.or_true])]
 refine wpAny_bind (listItems_at o2 od (wpAny_bind (listItems_at (xs:=#[]) (n:=0) o3 rfl ?_)))
 rw [if_neg (by simp)]
 refine wpAny_bind (listUpdate_at (xs:=#[]) (n:=0) o3 rfl (wpAny_pure ?_) (Nat.zero_le _) (by show (#[] ++ vs.toArray).size ≤ sizeLine + 1; simp only [Array.size_append,List.size_toArray,List.length_nil]; omega))
 refine wpAny_bind (wpAny_load (get?_update_seq o3 _) ?_)
 show wpAny _ _ (pure ((#[]:Array Value) ++ vs.toArray).toList) Q E _
 have ev:((#[]:Array Value) ++ vs.toArray).toList = vs:=by simp
 rw [ev]
 exact wpAny_pure h
theorem Zo3 {l:Addr} {vs:List Value} {ns:List Int} {Q:Value→Shared→Prop} (hl:IsTup s.heap l vs.toArray) (hI:IntsAre vs ns) (h64:vs.length < 64)
  (h:∀ (out:Array Value) (ns':List Int),IntsAre out.toList ns'→ns'.Perm ns→ns'.Pairwise (· ≤ ·)→Q (.ref (s.heap.objs.size + 1)) { s with heap:=sortedAll s.heap vs out }):wpAny (model prog w) A (call (.builtin "sorted") [.ref l]) Q E s:=by
 have zs:(Zpw s.heap vs).objs.size = s.heap.objs.size + 1:=by unfold Zpw; rw [Heap.size_update,size_push']
 have oL:((Zpw s.heap vs).push (seqObj "list" vs.toArray 0)).get? (s.heap.objs.size + 1) = some (seqObj "list" vs.toArray 0):=by rw [← zs]; exact Heap.get?_push_size _ rfl
 refine Calls.call_function_entry kind_sorted plain_sorted entry_sorted (args_sorted1 _) ?_
 unfold Builtin.«sorted»
 refine wpAny_bind (m:=checkCount "sorted" 1 1 _) (wpAny_pure (wpAny_bind (Znd hl (by rw [sizeLine_eq]; omega) (wpAny_bind (wpAny_newList ?_ (by rw [sizeLine_eq]; omega))))))
 show wpAny _ _ _ _ _ { s with heap:=(Zpw s.heap vs).push (seqObj "list" vs.toArray 0) }
 rw [show ({ s with heap:=Zpw s.heap vs }:Shared).heap.objs.size = s.heap.objs.size + 1 from zs]
 exact wpAny_bind (wpAny_holding (wpAny_call_entry slot_list_sort ⟨_,oL,rfl⟩ entry_list_sort (list_sort_tree oL hI h64 fun out ns' a1 a2 a3=>⟨_,rfl,wpAny_pure ⟨_,rfl,h out ns' a1 a2 a3⟩⟩) (args_list_sort _)))
end
noncomputable def Zxh (K:PySem.W.Frag):List V→Hp→VK→Prop:=fun xs H Q=>∃ (a:Addr) (ns:List Int),xs = [.ref a]∧SqT K H a (ns.map V.int)∧ns.length < 64∧∀ l,H l = none→Q (.ref l) (upd H l (.lst ((Y0 ns).map V.int)))
theorem Zpk {X:Cx} {K:PySem.W.Frag} (hK:X.K = K):Zd9 X (.builtin "sorted") (Zxh K):=by
 subst hK
 intro pins s σ H xs us Q I r h
 obtain ⟨l,ns,rfl,hs,h64,q⟩:=h
 obtain ⟨u,rfl,ru⟩:=vals1 r
 cases (show u = Value.ref l from ru)
 obtain ⟨its,rv,pl,hz⟩:=I.tuple hs
 have hl:=rv.length
 rw [List.length_map] at hl
 refine Zo3 pl (Zj3 rv) (by omega) fun out ns' a1 a2 a3=>?_
 obtain ⟨e,he⟩:=sortedAll_at s.heap its out
 cases (Zbq (a2.trans (Wo ns).symm) a3 (Za4 ns):ns' = Y0 ns)
 refine ⟨.ref (s.heap.objs.size + 1),_,I.laid (t':=s.toks) (o:=.lst ((Y0 ns).map V.int)) (fun b ob q=>sortedAll_old q) (by omega) ⟨?_,out.toList,e,Zzl a1,he⟩,rfl,q _ (I.hok.fresh (by omega))⟩
 rw [List.length_map,(Wo ns).length_eq,sizeLine_eq]; omega
noncomputable def Zye:List PyData→(OT→Prop)→Prop:=fun ds k=>n1 (fun d=>∃ ns:List Int,d = .tuple (ns.map PyData.int)∧ns.length < 64∧k (.nd (((Y0 ns).map PyData.int).map OT.fz))) ds
theorem Zvn:PN G (Zxh G) Zye:=fun H L xs ds k Q hx h kk=>by
 obtain ⟨v,d,rfl,rfl,q,ns,e,h64,h⟩:=hx.one h
 have fin:∀ (p:Addr),H p = none→Q (.ref p) (upd H p (.lst ((Y0 ns).map V.int))):=fun p hp=>kk _ _ _ [p] (Yc hp _) (Own.list hp (Das.ints _)) (Zih p) (Zfs hp) h
 subst e
 generalize ed:PyData.tuple (ns.map PyData.int) = d at q
 cases q with
 | tup e r =>
  cases ed
  exact ⟨_,ns,rfl,.inl (.inl (by rw [r.int_inv] at e; exact e)),h64,fin⟩
 | _=>cases ed
noncomputable def Zoq:List PyData→Option OT:=fun ds=>match ds with | [.tuple es]=>(Zet es).bind fun ns=>if ns.length < 64 then some (.nd (((Y0 ns).map PyData.int).map OT.fz)) else none | _=>none
theorem Z1c:∀ ds r k,Zoq ds = some r→k r→Zye ds k:=fun ds r k h hk=>by
 unfold Zoq at h
 split at h
 case h_2=>cases h
 obtain ⟨ns,h1,h⟩:=bs h
 (try split at h)
 case isFalse=>cases h
 rename_i h2
 cases h
 exact ⟨ns,by rw [Zef h1],h2,hk⟩
end L2
namespace My
open PySem L2 PySem.Spec
noncomputable def Wc (R:FD):FS :=
 (Z3 (Zbe (tD (Zl5 "int" (Zd 1)))
  (wE (Zqc (Zl5 "int" (Zd 0)) (Zqc (fUn Z7f (Zl5 "bool" (Zd 0))) (Zj gEq (Zd 0) (Zd 1)))) W3)
  fNx)
  (Z3 (Zbe (tD (Zl5 "str" (Zd 1)))
  (wE (Zqc (Zl5 "str" (Zd 0)) (Zj gEq (Zd 0) (Zd 1))) W3)
  fNx)
  (Z3 (Zbe (tO (tV (Zj gNe (Zl5 "tuple" (Zd 1)) (Zl5 "tuple" (Zd 0)))) (tV (Zj gNe (Zl5 "list" (Zd 1)) (Zl5 "list" (Zd 0)))))
  (wE (fC (.bool false)) W3)
  fNx)
  (Z3 (Zbe (tV (Zj gNe (Za9 Zcg (Zc (Zd 0) Zo)) (Za9 Zcg (Zc (Zd 1) Zo))))
  (wE (fC (.bool false)) W3)
  fNx)
  (Z3 (Jz (Zdm (Zc (Zd 0) (Zc (Zd 1) Zo))) (gTp 2 (gCn (gNm 2) (gCn (gNm 3) gNl)))
  (Zbe (tNo (tD (Zt R (Zc (Zd 2) (Zc (Zd 3) Zo)))))
  (wE (fC (.bool false)) W3)
  fNx))
  (wE (fC (.bool true)) W3))))))
noncomputable def Zn:Nat→FD
 | 0=>fun _=>RF.bad
 | k + 1=>Je 2 4 (Wc (Zn k))
noncomputable def Zbl:FS :=
 (wE (Yg gIx (Zf4 (Zc (fC (.int 1)) (Zc (fC (.int 2)) (Zc (fC (.int 6)) (Zc (Zj Zdp (Zj Zuo (fC (.int 10)) (fC (.int 15))) (fC (.int 37))) Zo))))) (Zj Zf6 (Zj Zau (Zd 0) (fC (.int 3))) (fC (.int 4)))) W3)
noncomputable def Wn:FD:=Je 1 1 Zbl
noncomputable def Zam:FS :=
 (Z3 (wE (Zt Wh (Zc (Zd 0) (Zc (Zj Zfr (fC (.int 2)) (Zd 1)) Zo))) (Y4 2))
  (Z3 (wE (Zuy (Yx 1 [] (iRb (Zc (fC (.int 1)) (Zc (Zd 1) Zo))) (gNm 0) Zhs (Zf4 (Zc (Zd 0) Zo)))) (Zbb 3))
  (Z3 (wE (Znp 3) (Zbb 4))
  (Z3 (Jz (iRa (Zc (Zj gSb (Zd 1) (fC (.int 2))) Zo)) (gNm 5)
  (Z3 (wE (Z2e 3 (Zj Zf6 (Yg gIx (Zd 2) (Zj Zfr (fC (.int 2)) (Zd 5))) (Za9 Zcg (Zc (Zma 3) Zo)))) (Y4 6))
  (Z3 (wE (Z2e 3 (Zj Zf6 (Yg gIx (Zd 2) (Zj Zdp (Zj Zfr (fC (.int 2)) (Zd 5)) (fC (.int 1)))) (Za9 Zcg (Zc (Zma 3) Zo)))) (Y4 7))
  (Z3 (Y9 3 (fBl Zon (Zc (Yg Zui (Zd 6) (Zd 7)) Zo)))
  (Y9 4 (Z7a 3 (fUn Zue (fC (.int 1)))))))))
  (Zd1 4)))))
noncomputable def Y6:FD:=Je 2 8 Zam
noncomputable def Zdq:FS :=
 (Z3 (wE (Za9 Z2g (Zc (Zd 0) Zo)) (Y4 2))
  (Z3 (wE (Zd 1) (Y4 3))
  (Z3 (Zi1 (tV (Zj gNe (Zd 3) (fC (.int 0)))) (Z3 (wE (Zj Zf6 (Zd 2) (Zd 3)) (Y4 4))
  (Z3 (wE (Zd 3) (Y4 2))
  (wE (Zd 4) (Y4 3)))))
  (wE (Zez (Zc (Zj Zau (Zd 0) (Zd 2)) (Zc (Zj Zau (Zd 1) (Zd 2)) Zo))) W3))))
noncomputable def Yu:FD:=Je 2 5 Zdq
noncomputable def Zc9:FS :=
 (Z3 (wE (Yx 1 [0] (iRa (Zc (Zd 0) Zo)) (gNm 0) Zhs (Zuk (fC (.int 0)) (Zd 1))) (Zbb 3))
  (Z3 (Jz (Zdm (Zc (Zd 1) (Zc (Zd 2) Zo))) (gTp 2 (gCn (gNm 4) (gCn (gNm 5) gNl)))
  (Jz (iRa (Zc (Zd 0) Zo)) (gNm 6)
  (Jz (iRa (Zc (Zd 0) Zo)) (gNm 7)
  (Zbe (tV (Zj gNe (Zj (Zud false) (Zd 6) (Zd 4)) (Zj (Zud false) (Zd 7) (Zd 4))))
  (Zhh 3 (Zj Zdp (Yg gIx (Yg gIx (Zma 3) (Zd 6)) (Zd 7)) (Zd 5)) (Zd 6) (Zd 7))
  fNx))))
  (Zd1 3)))
noncomputable def Zae:FD:=Je 3 8 Zc9
noncomputable def Zce:FS :=
 (wE (Yx 1 [1] (Zer (Zd 0)) (gNm 0) Zhs (Yx 1 [1] (Zer (Zd 0)) (gNm 0) Zhs (Zt Yu (Zc (Zd 0) (Zc (Zd 1) Zo))))) W3)
noncomputable def J5:FD:=Je 2 2 Zce
noncomputable def Za7:FS :=
 (Z3 (wE (Yg gIx (Zf4 (Zc (fC (.int 3)) (Zc (fC (.int 12)) (Zc (Zj Zuo (fC (.int 10)) (fC (.int 20))) Zo)))) (Zj Zf6 (Zd 3) (fC (.int 3)))) (Y4 4))
  (Z3 (wE (Zf4 Zo) (Zbb 5))
  (Z3 (Jz (iRa (Zc (Zd 2) Zo)) (gNm 6)
  (Z3 (wE (Zt Wm (Zc (Zd 3) (Zc (Zj Zdp (fC (.int 50)) (Zd 6)) Zo))) (Y4 7))
  (Z3 (Zbe (tV (Zj gLt (Zj Zdp (Zd 1) (Zd 6)) (Za9 Zcg (Zc (Zd 0) Zo))))
  (wE (Yg gIx (Zd 0) (Zj Zdp (Zd 1) (Zd 6))) (Y4 7))
  fNx)
  (Y9 5 (Zj Zf6 (Zd 7) (Zd 4))))))
  (Zd1 5))))
noncomputable def Jj:FD:=Je 4 8 Za7
noncomputable def Zcu:FS :=
 (Z3 (wE (Zf4 (Zc (Zf4 Zo) Zo)) (Y4 1))
  (Z3 (Jz (iRb (Zc (fC (.int 1)) (Zc (Zd 0) Zo))) (gNm 2)
  (wE (Yg Zui (Zd 1) (Yx 1 [2] (Zer (Zd 1)) (gNm 0) Zhs (Yg Zui (Zd 0) (Zf4 (Zc (Zd 1) Zo))))) (Y4 1)))
  (wE (Yx 1 [] (Zer (fBl (Ziv kdL ltI) (Zc (Zd 1) Zo))) (gNm 0) (tV (Zj gGt (Za9 Zcg (Zc (Zd 0) Zo)) (fC (.int 0)))) (Zd 0)) W3)))
noncomputable def Ye:FD:=Je 1 3 Zcu
noncomputable def Zc3:FS :=
 (wE (Yx 1 [1] (iRa (Zc (Zd 0) Zo)) (gNm 0) Zhs (fIf (tV (Zj (Zud false) (Zd 0) (Zd 1))) (fC (.int 1)) (fC (.int 0)))) W3)
noncomputable def Zai:FD:=Je 2 2 Zc3
noncomputable def Zca:FS :=
 (wE (Yx 1 [0] (Zer (Zd 1)) (gNm 0) Zhs (Zt Zai (Zc (Zd 1) (Zc (Yg gIx (Zd 0) (fC (.int 0))) Zo)))) W3)
noncomputable def J0:FD:=Je 2 2 Zca
noncomputable def Ys:FS :=
 (Z3 (wE (Yx 1 [0] (iRa (Zc (Zd 0) Zo)) (gNm 0) Zhs (Zuk (Zez (Zc (fC (.int 0)) (Zc (fC (.int 1)) Zo))) (Zd 1))) (Zbb 2))
  (Z3 (Jz (Zdm (Zc (Zt Yz (Zc (Zd 0) Zo)) (Zc (Zd 1) Zo))) (gTp 2 (gCn (gNm 3) (gCn (gNm 4) gNl)))
  (Z3 (Zhh 2 (Zd 4) (Yg gIx (Zd 3) (fC (.int 0))) (Yg gIx (Zd 3) (fC (.int 1))))
  (Zhh 2 (Zd 4) (Yg gIx (Zd 3) (fC (.int 1))) (Yg gIx (Zd 3) (fC (.int 0))))))
  (Zd1 2)))
noncomputable def Yq:FD:=Je 2 5 Ys
noncomputable def Jp:FS :=
 (Z3 (wE (Yx 1 [] (Zer (Zd 1)) (gNm 0) Zhs (Yg gIx (Zd 0) (fC (.int 1)))) (Y4 2))
  (Z3 (wE (Zt Yk (Zc (Zd 2) Zo)) (Y4 3))
  (Z3 (wE (Zt Wx (Zc (Zd 3) (Zc (Zd 2) Zo))) (Y4 4))
  (Z3 (wE (Zt J0 (Zc (Zd 0) (Zc (Zd 1) Zo))) (Y4 5))
  (Z3 (wE (Zf4 Zo) (Zbb 6))
  (Z3 (Jz (Zer (Zt Yz (Zc (Zd 0) Zo))) (gTp 2 (gCn (gNm 7) (gCn (gNm 8) gNl)))
  (Z3 (wE (Yx 2 [7,8] (Zdm (Zc (Zd 5) (Zc (Zd 4) Zo))) (gTp 2 (gCn (gNm 0) (gCn (gNm 1) gNl))) (tV (Zj gNe (Yg gIx (Zd 0) (Zd 2)) (Yg gIx (Zd 0) (Zd 3)))) (Zd 1)) (Y4 9))
  (Y9 6 (Zt Yd (Zc (Za9 Z1d (Zc (Zd 9) Zo)) (Zc (Zd 3) Zo))))))
  (Zfp 6 (wE (Zt Yq (Zc (Zd 0) (Zc (Zd 6) Zo))) W3))))))))
noncomputable def Wl:FD:=Je 2 10 Jp
noncomputable def Wk:FS :=
 (Z3 (wE (fBl Zoq (Zc (Zd 0) Zo)) (Y4 1))
  (wE (Zj gLt (Yg gIx (Zd 1) (fC (.int 1))) (Yg gIx (Zd 1) (fC (.int 2)))) W3))
noncomputable def Z5:FD:=Je 1 2 Wk
noncomputable def J9:FS :=
 (Z3 (wE (Zf4 (Zc (Zez Zo) Zo)) (Y4 2))
  (Z3 (Jz (iRa (Zc (Zd 1) Zo)) (gNm 3)
  (Z3 (wE (Zf4 Zo) (Zbb 4))
  (Z3 (Jz (Zer (Zd 2)) (gNm 5)
  (Z3 (wE (fIf (tV (Zj gGt (Za9 Zcg (Zc (Zd 5) Zo)) (fC (.int 0)))) (Zj Zdp (Yg gIx (Zd 5) (fUn Zue (fC (.int 1)))) (fC (.int 1))) (fC (.int 0))) (Y4 6))
  (Ze6 4 (Yx 1 [5] (iRb (Zc (Zd 6) (Zc (Zd 0) Zo))) (gNm 0) Zhs (Yg Zpu (Zd 1) (Zez (Zc (Zd 0) Zo)))))))
  (Zfp 4 (wE (Zd 4) (Y4 2))))))
  (wE (Zd 2) W3)))
noncomputable def Wt:FD:=Je 2 7 J9
noncomputable def Zbh:FS :=
 (wE (Zez (Zc (Zj Zdp (Yg gIx (Yg gIx (Zd 0) (Zd 1)) (Zd 2)) (Yg gIx (Yg gIx (Zd 0) (Zd 3)) (Zd 4))) (Zc (Zj Zdp (Yg gIx (Yg gIx (Zd 0) (Zd 1)) (Zd 3)) (Yg gIx (Yg gIx (Zd 0) (Zd 2)) (Zd 4))) (Zc (Zj Zdp (Yg gIx (Yg gIx (Zd 0) (Zd 1)) (Zd 4)) (Yg gIx (Yg gIx (Zd 0) (Zd 2)) (Zd 3))) Zo)))) W3)
noncomputable def Z0:FD:=Je 5 5 Zbh
noncomputable def Zbj:FS :=
 (Z3 (Jz (Zer (Zt Wt (Zc (Za9 Zcg (Zc (Zd 0) Zo)) (Zc (fC (.int 4)) Zo)))) (gTp 4 (gCn (gNm 1) (gCn (gNm 2) (gCn (gNm 3) (gCn (gNm 4) gNl)))))
  (Zbe (tD (Zt Z5 (Zc (Zt Z0 (Zc (Zd 0) (Zc (Zd 1) (Zc (Zd 2) (Zc (Zd 3) (Zc (Zd 4) Zo)))))) Zo)))
  (wE (Zez (Zc (Zd 1) (Zc (Zd 2) (Zc (Zd 3) (Zc (Zd 4) Zo))))) W3)
  fNx))
  (wE (fC .none) W3))
noncomputable def Jt:FD:=Je 1 5 Zbj
noncomputable def Zc1:FS :=
 (wE (Zj gLt (Zj Zfr (Yg gIx (Zd 0) (fC (.int 0))) (Yg gIx (Zd 1) (fC (.int 1)))) (Zj Zfr (Yg gIx (Zd 1) (fC (.int 0))) (Yg gIx (Zd 0) (fC (.int 1))))) W3)
noncomputable def Zah:FD:=Je 2 2 Zc1
noncomputable def Zg6:FS :=
 (wE (Zt Jo (Zc (Zj Zdp (Zj Zfr (Yg gIx (Zd 0) (fC (.int 0))) (Yg gIx (Zd 1) (fC (.int 1)))) (Zj Zfr (Yg gIx (Zd 1) (fC (.int 0))) (Yg gIx (Zd 0) (fC (.int 1))))) (Zc (Zj Zfr (Yg gIx (Zd 0) (fC (.int 1))) (Yg gIx (Zd 1) (fC (.int 1)))) Zo))) W3)
noncomputable def Zdz:FD:=Je 2 2 Zg6
noncomputable def Zaw:FS :=
 (wE (Zt Zah (Zc (Zt Zdz (Zc (Yg gIx (Yg gIx (Zd 0) (Zd 1)) (Zd 2)) (Zc (Yg gIx (Yg gIx (Zd 0) (Zd 2)) (Zd 3)) Zo))) (Zc (Yg gIx (Yg gIx (Zd 0) (Zd 1)) (Zd 3)) Zo))) W3)
noncomputable def W9:FD:=Je 4 4 Zaw
noncomputable def Za0:FS :=
 (Z3 (wE (Za9 Zcg (Zc (Zd 0) Zo)) (Y4 1))
  (Z3 (Jz (iRa (Zc (Zd 1) Zo)) (gNm 2)
  (Jz (iRa (Zc (Zd 1) Zo)) (gNm 3)
  (Jz (iRa (Zc (Zd 1) Zo)) (gNm 4)
  (Zbe (tD (Zt W9 (Zc (Zd 0) (Zc (Zd 2) (Zc (Zd 3) (Zc (Zd 4) Zo))))))
  (wE (Zez (Zc (Zd 2) (Zc (Zd 3) (Zc (Zd 4) Zo)))) W3)
  fNx))))
  (wE (fC .none) W3)))
noncomputable def Wg:FD:=Je 1 5 Za0
noncomputable def Zbn:FS :=
 (Z3 (wE (Zt Wg (Zc (Zd 0) Zo)) (Y4 1))
  (Z3 (Zbe (tV (Zj Zlc (Zd 1) (fC .none)))
  (wE (Zd 1) W3)
  fNx)
  (wE (Zt Jt (Zc (Zt Ym (Zc (Zt Z4 (Zc (Zd 0) Zo)) (Zc (Zd 0) Zo))) Zo)) W3)))
noncomputable def Js:FD:=Je 1 2 Zbn
noncomputable def Zcc:FS :=
 (wE (Zj gSb (Za9 Zx6 (Zc (Yg gIx (Zd 0) (fC (.int 1))) (Zc (Yg gIx (Zd 0) (fC (.int 2))) Zo))) (Yg gIx (Zd 0) (fC (.int 0)))) W3)
noncomputable def Yj:FD:=Je 1 1 Zcc
noncomputable def Zbm:FS :=
 (Z3 (wE (Zf4 Zo) (Zbb 1))
  (Z3 (Jz (Zwo (Zc (Zd 0) Zo)) (gTp 2 (gCn (gNm 2) (gCn (gNm 3) gNl)))
  (Jz (Zer (fSl (Zd 0) (oI (Zd 2)) oN)) (gNm 4)
  (Y9 1 (Zez (Zc (Zd 3) (Zc (Zd 4) Zo))))))
  (Zd1 1)))
noncomputable def Wq:FD:=Je 1 5 Zbm
noncomputable def Jk:FS :=
 (Z3 (wE (Yx 1 [1] (iRa (Zc (Za9 Zcg (Zc (Zd 0) Zo)) Zo)) (gNm 0) (tV (Zj (Zud true) (Zd 0) (Zd 1))) (Zd 0)) (Y4 3))
  (Z3 (wE (Zt Wq (Zc (Zd 3) Zo)) (Y4 4))
  (Z3 (wE (Zev 2 "tree_rule" Yj (Zc (Zt Z0 (Zc (Zd 0) (Zc (Yg gIx (Zd 1) (fC (.int 0))) (Zc (Yg gIx (Zd 1) (fC (.int 0))) (Zc (fC (.int 0)) (Zc (fC (.int 0)) Zo)))))) Zo)) (Y4 5))
  (Z3 (Jz (Zer (Zt Wq (Zc (Zd 1) Zo))) (gTp 2 (gCn (gNm 6) (gCn (gNm 7) gNl)))
  (Z3 (Jz (Zer (Zd 4)) (gTp 2 (gCn (gNm 8) (gCn (gNm 9) gNl)))
  (wE (Za9 Zx6 (Zc (Zd 5) (Zc (Zev 2 "tree_rule" Yj (Zc (Zt Z0 (Zc (Zd 0) (Zc (Zd 6) (Zc (Zd 7) (Zc (Zd 8) (Zc (Zd 9) Zo)))))) Zo)) Zo))) (Y4 5)))
  (Zbe (tV (Zj gLe (Zd 5) (fC (.int 0))))
  (wE (fC (.int 0)) W3)
  fNx)))
  (wE (Zd 5) W3)))))
noncomputable def Zz:FD:=Je 3 10 Jk
noncomputable def Za6:FS :=
 (Z3 (wE (Zt Z4 (Zc (Zd 0) Zo)) (Y4 2))
  (Z3 (wE (Zt Ym (Zc (Zd 2) (Zc (Zd 0) Zo))) (Y4 3))
  (Z3 (wE (Zf4 Zo) (Zbb 4))
  (Z3 (Jz (Zer (Zt Ye (Zc (Za9 Zcg (Zc (Zd 0) Zo)) Zo))) (gNm 5)
  (Z3 (wE (Zt Zz (Zc (Zd 3) (Zc (Zd 5) (Zc (Zd 1) Zo)))) (Y4 6))
  (Zbe (tV (Zj gGt (Zd 6) (fC (.int 0))))
  (Y9 4 (Zez (Zc (Zd 5) (Zc (Zt Yd (Zc (Zd 6) (Zc (Zj Zfr (fC (.int 2)) (Zd 2)) Zo))) Zo))))
  fNx)))
  (Zd1 4)))))
noncomputable def Jg:FD:=Je 2 7 Za6
noncomputable def Zcb:FS :=
 (Z3 (wE (Zt Js (Zc (Zd 0) Zo)) (Y4 1))
  (Z3 (Zbe (tV (Zj Zlc (Zd 1) (fC .none)))
  (wE (Zez (Zc (fC (.str "bars")) (Zc (Zd 1) Zo))) W3)
  fNx)
  (wE (Zez (Zc (fC (.str "tree")) (Zc (Zt Jg (Zc (Zd 0) (Zc (fC (fnD "tree_rule")) Zo))) Zo))) W3)))
noncomputable def Wy:FD:=Je 1 2 Zcb
noncomputable def Zcd:FS :=
 (Z3 (Jz (Zdm (Zc (Zd 0) (Zc (fSl (Zd 0) (oI (fC (.int 1))) oN) Zo))) (gTp 2 (gCn (gNm 1) (gCn (gNm 2) gNl)))
  (Zbe (tNo (tV (Zj gLt (Zd 1) (Zd 2))))
  (wE (fC (.bool false)) W3)
  fNx))
  (wE (fC (.bool true)) W3))
noncomputable def W0:FD:=Je 1 3 Zcd
noncomputable def Zew:FS :=
 (Z3 (Zbe (tO (tNo (tD (Zl5 "list" (Zd 1)))) (tV (Zj gEq (Za9 Zcg (Zc (Zd 1) Zo)) (fC (.int 0)))))
  (wE (fC (.bool false)) W3)
  fNx)
  (Z3 (Jz (Zer (Zd 1)) (gNm 2)
  (Zbe (tNo (tD (Zt Yo (Zc (Zd 2) Zo))))
  (wE (fC (.bool false)) W3)
  fNx))
  (wE (Zqc (Zt W0 (Zc (Zd 1) Zo)) (Zqc (Zj gGe (Yg gIx (Zd 1) (fC (.int 0))) (fC (.int 1))) (Zj gLt (Yg gIx (Zd 1) (fUn Zue (fC (.int 1)))) (Zd 0)))) W3)))
noncomputable def Zbs:FD:=Je 2 3 Zew
noncomputable def Zb7:FS :=
 (Zbe (tNo (tD (Zt Zbs (Zc (Zd 0) (Zc (Zd 1) Zo)))))
  (Zoe "NoCut")
  fNx)
noncomputable def J2:FD:=Je 2 2 Zb7
noncomputable def Zb6:FS :=
 (Z3 (wE (Zt Z4 (Zc (Zd 0) Zo)) (Y4 3))
  (Z3 (wE (Zt Zz (Zc (Zt Ym (Zc (Zd 3) (Zc (Zd 0) Zo))) (Zc (Zd 1) (Zc (Zd 2) Zo)))) (Y4 4))
  (wE (Zt Yd (Zc (Zd 4) (Zc (Zj Zfr (fC (.int 2)) (Zd 3)) Zo))) W3)))
noncomputable def J1:FD:=Je 3 5 Zb6
noncomputable def Zav:FS :=
 (Z3 (wE (Zt J2 (Zc (Za9 Zcg (Zc (Zd 0) Zo)) (Zc (Zd 1) Zo))) Zvt)
  (wE (Zt J1 (Zc (Zd 0) (Zc (Zd 1) (Zc (fC (fnD "tree_rule")) Zo)))) W3))
noncomputable def Wj:FD:=Je 2 2 Zav
noncomputable def Zin:FS :=
 (Z3 (wE (Zt W7 (Zc (Zt Wi (Zc (Zd 0) (Zc (fC (.int 0)) Zo))) (Zc (fC (.int 2)) (Zc (fC (.int 5)) (Zc (fC (.int 6)) Zo))))) (Y4 1))
  (Z3 (wE (Zt Wi (Zc (Zd 0) (Zc (fC (.int 1)) Zo))) (Y4 2))
  (Z3 (wE (Zt Y6 (Zc (Zj Zau (Zd 2) (fC (.int 12))) (Zc (Zd 1) Zo))) (Y4 3))
  (Z3 (wE (Zt Jj (Zc (Zd 0) (Zc (fC (.int 2)) (Zc (Za9 Zcg (Zc (Zd 3) Zo)) (Zc (Zd 2) Zo))))) (Y4 4))
  (Z3 (wE (Zt Wn (Zc (Zd 2) Zo)) (Y4 5))
  (Z3 (wE (Zt J5 (Zc (Zt Zae (Zc (Zd 1) (Zc (Zd 3) (Zc (Zd 4) Zo)))) (Zc (Zd 5) Zo))) (Y4 6))
  (Z3 (wE (Zf4 Zo) (Zbb 7))
  (Z3 (Jz (Zer (Zt Ye (Zc (Zd 1) Zo))) (gNm 8)
  (Z3 (wE (Za9 Z1d (Zc (Yx 2 [8] (Zdm (Zc (Zd 3) (Zc (Zd 4) Zo))) (gTp 2 (gCn (gNm 0) (gCn (gNm 1) gNl))) (tV (Zj gEq (Zd 0) (Zd 2))) (Zd 1)) Zo)) (Y4 9))
  (Z3 (Zbe (tNo (tD (Zt (Zn 6) (Zc (Zt Wj (Zc (Zd 6) (Zc (Zd 8) Zo))) (Zc (Zt Yu (Zc (Zd 9) (Zc (Zd 5) Zo))) Zo)))))
  (wE (fC (.bool false)) W3)
  fNx)
  (Zbe (tV (Zj gGt (Zd 9) (fC (.int 0))))
  (Y9 7 (Zez (Zc (Zd 8) (Zc (Zt Yu (Zc (Zd 9) (Zc (Zd 5) Zo))) Zo))))
  fNx))))
  (Z3 (wE (Zt Wy (Zc (Zd 6) Zo)) (Y4 10))
  (wE (Zqc (Zt (Zn 6) (Zc (Zd 10) (Zc (Zez (Zc (fC (.str "tree")) (Zc (Zma 7) Zo))) Zo))) (Zt (Zn 6) (Zc (Zt Wl (Zc (Zd 1) (Zc (Yg gIx (Zd 10) (fC (.int 1))) Zo))) (Zc (Zd 6) Zo)))) W3))))))))))
noncomputable def Zfu:FD:=Je 1 11 Zin
end My
namespace L2
open PySem PySem.Spec
noncomputable def EvP (e:FE) (δ:Zh) (Q:PyData→Zh→Prop):Prop:=∃ t δ',e δ = some (t,δ')∧Q t.data δ'
noncomputable def EpT (t:FT) (δ:Zh) (Q:Bool→Zh→Prop):Prop:=∃ b δ',t δ = some (b,δ')∧Q b δ'
section
variable {e a b:FE} {as:FA} {δ:Zh} {Q:PyData→Zh→Prop} {QA:List PyData→Zh→Prop} {T:Bool→Zh→Prop} {t u:FT} {S S':FS} {N:Zh→Prop} {R:PyData→Zh→Prop} {i:Nat} {d:PyData}
theorem Z1v (h:EvV e δ d) (q:Q d δ):EvP e δ Q:=by
 obtain ⟨t,e1,e2⟩:=h
 exact ⟨t,δ,e1,e2 ▸ q⟩
theorem Zu5 {p:Bool} (h:EvT t δ p) (q:T p δ):EpT t δ T:=⟨p,δ,h,q⟩
theorem Z7y {g:FG} (I:Nat→List PyData→Zh→Prop) (ds:List PyData) (m:Nat) (acc:List PyData) (h0:I m acc δ) (turn:∀ (k:Nat) (d:PyData) (acc:List PyData) (δ:Zh),ds[k]? = some d→I (m + k) acc δ→∃ δ1,g d δ = some δ1∧EpT t δ1 fun p δ2=>(p = true→EvP e δ2 fun d δ3=>I (m + k + 1) (acc ++ [d]) δ3)∧(p = false→I (m + k + 1) acc δ2)) :
  ∃ ts δ',compLoop g t e ds δ = some (ts,δ')∧I (m + ds.length) (acc ++ ts.map OT.data) δ':=by
 induction ds generalizing m acc δ with
 | nil=>exact ⟨[],δ,rfl,by rw [List.map_nil,List.append_nil]; exact h0⟩
 | cons d ds ih =>
  obtain ⟨δ1,e1,p,δ2,e2,q1,q2⟩:=turn 0 d acc δ rfl h0
  have next:∀ (k:Nat) (d:PyData) (acc:List PyData) (δ:Zh),ds[k]? = some d→I (m + 1 + k) acc δ→∃ δ1,g d δ = some δ1∧EpT t δ1 fun p δ2=>(p = true→EvP e δ2 fun d δ3=>I (m + 1 + k + 1) (acc ++ [d]) δ3)∧(p = false→I (m + 1 + k + 1) acc δ2):=fun k d acc δ hk hI=>by
   have:=turn (k + 1) d acc δ hk (by rw [show m + (k + 1) = m + 1 + k by omega]; exact hI)
   rwa [show m + (k + 1) + 1 = m + 1 + k + 1 by omega] at this
  have el:m + 1 + ds.length = m + (ds.length + 1):=by omega
  cases p with
  | true =>
   obtain ⟨o,δ3,e3,hI⟩:=q1 rfl
   obtain ⟨ts,δ',e4,hf⟩:=ih (m + 1) (acc ++ [o.data]) hI next
   refine ⟨o :: ts,δ',?_,?_⟩
   ·rw [compLoop,e1]; show (t δ1).bind _ = _; rw [e2]; show (e δ2).bind _ = _; rw [e3]; show (compLoop g t e ds δ3).bind _ = _; rw [e4]; rfl
   ·rw [List.length_cons,← el,List.map_cons]; rw [List.append_assoc] at hf; exact hf
  | false =>
   obtain ⟨ts,δ',e4,hf⟩:=ih (m + 1) acc (q2 rfl) next
   refine ⟨ts,δ',?_,by rw [List.length_cons,← el]; exact hf⟩
   rw [compLoop,e1]; show (t δ1).bind _ = _; rw [e2]; exact e4
end
end L2
namespace My
open PySem L2 PySem.Spec
theorem Z02 (p:List Int):Sh 1 (Zi p):=Ztg fun d m=>by
 obtain ⟨x,_,rfl⟩:=List.mem_map.mp m
 exact Zyd x
theorem Zp4 {p:List Int} (h:p.length < 64):Zon [Zi p] = some (.nd (((Y0 p).map PyData.int).map OT.fz)):=by
 show ((Zet (p.map PyData.int)).bind fun ns=>if ns.length < 64 then some (OT.nd (((Y0 ns).map PyData.int).map OT.fz)) else none) = _
 rw [Zao,Option.bind_some,if_pos h]
theorem Zv0 {p:List Int} {i:Int} (h0:0 ≤ i) (h1:i < p.length):gIx (Zi p) (.int i) = some (.fz (.int (p.getD i.toNat 0))):=by
 unfold Zi
 rw [Zkn,Znn h0 h1]; rfl
theorem Zva {p:List Int} (h:0 < p.length):gIx (Zi p) (.int (-1)) = some (.fz (.int (p.getD (p.length - 1) 0))):=by
 unfold Zi
 rw [Zkn]
 have e:p = p.dropLast ++ [p.getLast (by intro z; rw [z] at h; simp at h)]:=(List.dropLast_concat_getLast _).symm
 have g:p.getD (p.length - 1) 0 = p.getLast (by intro z; rw [z] at h; simp at h):=by
  rw [List.getLast_eq_getElem,List.getD_eq_getElem?_getD,List.getElem?_eq_getElem (by omega)]; rfl
 rw [g]
 conv=>lhs; rw [e,List.map_append]
 rw [List.map_cons,List.map_nil,Zn8]; rfl
noncomputable def Zkl (n:Int):List Int:=(List.range n.toNat).map fun i:Nat=>(i:Int)
noncomputable def Zuf (n:Nat) (f:Nat→Int):PyData:=.list ((List.range n).map fun j=>.int (f j))
noncomputable def Ja (n:Nat) (r:Nat→Nat→Int):PyData:=.list ((List.range n).map fun i=>Zuf n (r i))
theorem Znh {α:Type} {n i:Nat} (f:Nat→α) (h:i < n):atI ((List.range n).map f) (i:Int) = some (f i):=by
 rw [Zow,List.getElem?_map,List.getElem?_range h]; rfl
theorem Z1y {n j:Nat} {f:Nat→Int} (h:j < n):gIx (Zuf n f) (.int (j:Int)) = some (.fz (.int (f j))):=by
 unfold Zuf; rw [Zkn,Znh _ h]; rfl
theorem Zww {n i:Nat} {r:Nat→Nat→Int} (h:i < n):gIx (Ja n r) (.int (i:Int)) = some (.fz (Zuf n (r i))):=by
 unfold Ja; rw [Zkn,Znh _ h]; rfl
theorem Zlx (n:Nat) (r:Nat→Nat→Int):Zcg [Ja n r] = some (.int n):=by
 unfold Ja; rw [Zok,List.length_map,List.length_range]
theorem Zms {t b:Int} (hb:b ≠ 0):((Rat.divInt t b).den:Int) ∣ b:=by
 rw [Rat.den_divInt,if_neg hb]
 have:(b.natAbs / b.gcd t:Nat) ∣ b.natAbs:=Nat.div_dvd_of_dvd (by rw [Int.gcd_eq_natAbs_gcd_natAbs]; exact Nat.gcd_dvd_left ..)
 exact Int.ofNat_dvd_left.mpr this
theorem Zdl {a m k:Int} (hk:0 < k) (hm:0 < m):Rat.divInt (k * a) (m * k) = Rat.divInt a m:=by
 rw [Int.mul_comm k a]
 exact Rat.divInt_mul_right (by omega)
noncomputable def pn (p:List Int) (i:Nat):Nat:=(p.getD i 0).toNat
noncomputable def InR (n:Nat) (p:List Int):Prop:=p.length = n∧∀ i,i < n→0 ≤ p.getD i 0∧p.getD i 0 < n
theorem InR.at {n:Nat} {p:List Int} (h:InR n p) {i:Nat} (hi:i < n):gIx (Zi p) (.int (i:Int)) = some (.fz (.int (pn p i:Nat)))∧pn p i < n:=by
 obtain ⟨h1,h2⟩:=h
 obtain ⟨a,b⟩:=h2 i hi
 rw [Zv0 (by omega) (by omega),Int.toNat_natCast]
 unfold pn
 rw [Int.toNat_of_nonneg a]
 exact ⟨rfl,by omega⟩
theorem Zii {n x y i j:Nat} {S:Nat→Nat→Int} {δ:Zh} (hx:x < n) (hy:y < n) (h0:δ[0]? = some (some (.fz (Ja n S)))) (h1:δ[i]? = some (some (.fz (.int x)))) (h2:δ[j]? = some (some (.fz (.int y)))):EvV (Yg gIx (Yg gIx (Zd 0) (Zd i)) (Zd j)) δ (.int (S x y)):=Ww (Ww (Za h0) (Za h1) (Zww hx)) (Za h2) (Z1y hy)
noncomputable def J8 (n:Nat) (R:Nat→Nat→Int) (b:Int):List (List Rat):=(List.range n).map fun i=>(List.range n).map fun j=>Rat.divInt (R i j) b
theorem Zrk (T:List (List Rat)):Zcg [tbD T] = some (.int T.length):=by
 unfold tbD
 rw [Zok,List.length_map]
theorem Zgi (n:Nat) (R:Nat→Nat→Int) (b:Int):(J8 n R b).length = n:=by unfold J8; simp
theorem Zij {n:Nat} {t b:Int} (hb:0 < b) (hB:Bt n b) (hn:n ≤ 9000:=by decide):Told Yu [.int t,.int b] (frD (Rat.divInt t b)):=by
 obtain ⟨z',e⟩:=Zji (f1:=fun x y z=>[some (.fz (.int t)),some (.fz (.int b)),some (.fz (.int x)),some (.fz (.int y)),z]) (f2:=fun x y z=>[]) (t:=tV (Zj gNe (Zd 3) (fC (.int 0)))) (u:=Z3 (wE (Zj Zf6 (Zd 2) (Zd 3)) (Y4 4)) (Z3 (wE (Zd 3) (Y4 2)) (wE (Zd 4) (Y4 3)))) (fun x y z=>Zcf (Zv3 Za Z2 rfl)) (fun x y z hy=>⟨_,Yb (Zr (Zaa Za Za hy)) (Yb (Zr Za) (Zr Za))⟩) (b.toNat + 1) (t.natAbs:Int) b none (by omega) (by omega) (by omega)
 have eg:(Int.gcd (t.natAbs:Int) b:Int) = shr t b:=by
  unfold shr
  rw [if_neg (by omega),Int.gcd_eq_natAbs_gcd_natAbs,Int.gcd_eq_natAbs_gcd_natAbs,Int.natAbs_natCast]
 obtain ⟨e1,e2⟩:=Z3o (t:=t) (b:=b) (by omega) hB hn _ eg
 exact Zv rfl <| Zx (Zr (Zaj (Zb Za Zf) (Zq0 t))) <| Zx (Zr Za) <| Zx (Zl4 _ e (by intro z; cases z)) (Z8 (Za2 (Zb (Zu Za Za e1) (Zb (Zu Za Za e2) Zf)) (show 2 ≤ 1000 by decide)))
theorem Yc7:Zuo (.int 10) (.int 20) = some (.int 100000000000000000000):=rfl
theorem Ydg:Zuo (.int 10) (.int 15) = some (.int 1000000000000000):=rfl
theorem btc {n:Nat} {m:Int} (h1:decide (-(2 ^ n) < m) = true) (h2:decide (m < 2 ^ n) = true):Bt n m:=Bt.of_lt (of_decide_eq_true h1) (of_decide_eq_true h2)
noncomputable def Zth (r:List Int):OT:=.nd (r.map fun x=>.fz (.int x))
noncomputable def Dr (n:Nat) (base:Int) (L:List (List Int)):Prop:=L.length = n∧∀ r ∈ L,r.length = n∧∀ x ∈ r,0 ≤ x∧x < base
theorem Dr.put {n:Nat} {base v:Int} {L:List (List Int)} (h:Dr n base L) (h0:0 ≤ v) (h1:v < base) (a b:Nat):Dr n base (L.set a ((L.getD a []).set b v)):=by
 refine ⟨by rw [List.length_set]; exact h.1,fun r hr=>?_⟩
 rcases List.mem_or_eq_of_mem_set hr with hr | rfl
 ·exact h.2 r hr
 ·by_cases c:a < L.length
  ·have m:L.getD a [] ∈ L:=by rw [List.getD_eq_getElem?_getD,List.getElem?_eq_getElem c]; exact List.getElem_mem c
   obtain ⟨h3,h4⟩:=h.2 _ m
   refine ⟨by rw [List.length_set]; exact h3,fun x hx=>?_⟩
   rcases List.mem_or_eq_of_mem_set hx with hx | rfl
   ·exact h4 x hx
   ·exact ⟨h0,h1⟩
  ·rw [List.set_eq_of_length_le (by omega)] at hr
   exact h.2 _ hr
theorem Z2a {i:Nat} {e j j2:FE} {δ:Zh} {d:Int} {L:List (List Int)} {a b:Nat} (he:EvV e δ (.int d)) (hi:δ[i]? = some (some (.nd (L.map Zth)))) (hj:EvV j δ (.int a)) (ha:a < L.length) (hk:EvV j2 δ (.int b)) (hb:b < (L.getD a []).length) :
  Zhh i e j j2 δ = .nx (δ.set i (some (.nd ((L.set a ((L.getD a []).set b d)).map Zth)))):=by
 have e1:(L.map Zth)[a]? = some (.nd ((L.getD a []).map fun x=>.fz (.int x))):=by
  rw [List.getElem?_map,List.getElem?_eq_getElem ha,List.getD_eq_getElem?_getD,List.getElem?_eq_getElem ha]; rfl
 obtain ⟨_,e2,d2⟩:=he
 obtain ⟨_,e3,d3⟩:=hj
 obtain ⟨_,e4,d4⟩:=hk
 unfold Zhh
 rw [Zci,e2,Yw,hi]
 dsimp only
 rw [Zci,e3,Yw,d3]
 dsimp only
 rw [Zix (by rw [List.length_map]; exact ha)]
 dsimp only
 rw [e1]
 dsimp only
 rw [Zci,e4,Yw,d4]
 dsimp only
 rw [Zix (by rw [List.length_map]; exact hb)]
 dsimp only
 rw [d2]
 refine congrArg RS.nx (congrArg (δ.set i) (congrArg some (congrArg OT.nd ?_)))
 rw [List.map_set]
 refine congrArg _ ?_
 show _ = OT.nd _
 rw [List.map_set]
noncomputable def fnL (L:List (List Int)) (i j:Nat):Int:=(L.getD i []).getD j 0
theorem Zy4 {L:List (List Int)} {a b:Nat} {v:Int} (ha:a < L.length) (hb:b < (L.getD a []).length) (x y:Nat):fnL (L.set a ((L.getD a []).set b v)) x y = if x = a∧y = b then v else fnL L x y:=by
 unfold fnL
 rw [List.getD_eq_getElem?_getD (l:=L.set a _),List.getElem?_set]
 by_cases c:a = x
 ·subst c
  rw [if_pos rfl,if_pos ha]
  show (((L.getD a []).set b v).getD y 0) = _
  rw [List.getD_eq_getElem?_getD,List.getElem?_set]
  by_cases e:b = y
  ·subst e
   rw [if_pos rfl,if_pos hb,if_pos ⟨rfl,rfl⟩]; rfl
  ·rw [if_neg e,if_neg fun z=>e z.2.symm,← List.getD_eq_getElem?_getD]
 ·rw [if_neg c,if_neg fun z=>c z.1.symm,← List.getD_eq_getElem?_getD]
noncomputable def Z2c (p:List Int) (lo hi:Option Int):List Int:=(p.drop (HT.sIx p.length 0 lo)).take (HT.sIx p.length p.length hi - HT.sIx p.length 0 lo)
theorem Zvy (p:List Int) (lo hi:Option Int):cutD (p.map PyData.int) lo hi = (Z2c p lo hi).map PyData.int:=by
 unfold cutD Z2c
 rw [List.length_map,List.map_take,List.map_drop]
theorem Zkw {p:List Int} {k:Nat} (h:k ≤ p.length):Z2c p (some (k:Int)) none = p.drop k:=by
 unfold Z2c
 rw [HT.sIx_none,HT.sIx_nat,Nat.min_eq_left h,List.take_of_length_le (by rw [List.length_drop]; omega)]
noncomputable def Pm (n:Nat) (p:List Int):Prop:=p.Perm (Zkl n)
theorem Zpx {n:Nat} {x:Int}:x ∈ Zkl n ↔ 0 ≤ x∧x < n:=by
 unfold Zkl
 rw [Int.toNat_natCast,List.mem_map]
 constructor
 ·rintro ⟨i,hi,rfl⟩
  have:=List.mem_range.mp hi
  omega
 ·rintro ⟨h0,h1⟩
  exact ⟨x.toNat,List.mem_range.mpr (by omega),by omega⟩
theorem Zqb (n:Nat):(Zkl n).length = n:=by unfold Zkl; simp
theorem Pm.len {n:Nat} {p:List Int} (h:Pm n p):p.length = n:=by rw [h.length_eq,Zqb]
theorem getD_mem {p:List Int} {i:Nat} (h:i < p.length):p.getD i 0 ∈ p:=by
 rw [List.getD_eq_getElem?_getD,List.getElem?_eq_getElem h]; exact List.getElem_mem h
theorem Z2v {e:FE} {δ:Zh} {r p:List Int} {lo hi:FO} {l h:Option Int} (he:EvV e δ (Zi r)) (hl:EvO lo δ l) (hh:EvO hi δ h) (hp:Z2c r l h = p):EvV (fSl e lo hi) δ (Zi p):=hp ▸ (Z9h (ds:=r.map PyData.int) he hl hh).cast (by rw [Zvy]; rfl)
theorem Z5s {a b:FE} {δ:Zh} {p q:List Int} (ha:EvV a δ (Zi p)) (hb:EvV b δ (Zi q)) (h:p.length ≤ 1000) (k:q.length ≤ 1000):EvV (Yg Zui a b) δ (Zi (p ++ q)):=(Znr (ds:=p.map PyData.int) (es:=q.map PyData.int) ha hb (by rw [List.length_map,List.length_map]; omega)).cast (by rw [← List.map_append]; rfl)
theorem Z4c {e:FE} {δ:Zh} {x:Int} (h:EvV e δ (.int x)):EvV (Zf4 (Zc e Zo)) δ (Zi [x]):=Zgb (Zb h Zf) (show 1 ≤ 1000 by decide)
theorem Zgs {α β:Type} (f:α→β):∀ (l:List α) (j:Nat),(l.map f).eraseIdx j = (l.eraseIdx j).map f
 | [],_=>rfl
 | _ :: _,0=>rfl
 | a :: l,j + 1=>by
  show f a :: (l.map f).eraseIdx j = f a :: (l.eraseIdx j).map f
  rw [Zgs f l j]
noncomputable def cl (lo hi x:Nat):Nat:=if x < lo then lo else if x < hi then x else hi
theorem Zrc {e:FE} {δ:Zh} {i:Nat} {ts rs:List OT} {ds:List PyData} (h:e δ = some (.nd rs,δ)) (hd:OT.datas rs = ds) (hi:δ[i]? = some (some (.nd ts))) (hl:ts.length + ds.length ≤ 1000000):Ze6 i e δ = .nx (δ.set i (some (.nd (ts ++ ds.map OT.fz)))):=by
 unfold Ze6
 rw [hi]
 dsimp only
 rw [Zci,h,Yw,hi]
 dsimp only
 have lr:rs.length = ds.length:=by rw [← hd,Zeg]
 rw [if_pos (by rw [sizeLine_eq,lr]; omega),hd]
theorem Zti {α:Type} {caps:List Nat} {it:FI} {me:FE} {cs:Zh} {δ:Zh} (xs:List α) (mk f:α→PyData) (hi:EvI it δ (xs.map mk)) (hz:xs.length ≤ 1000000) (hb:blk 1 caps δ = none :: cs) (h:∀ x ∈ xs,EvV me (some (.fz (mk x)) :: cs) (f x)):∃ rs,Yx 1 caps it (gNm 0) Zhs me δ = some (.nd rs,δ)∧OT.datas rs = xs.map f:=by
 obtain ⟨t,e1,e2⟩:=Zbu xs mk f hi hz hb h
 cases t with
 | fz d =>
  unfold Yx at e1
  unfold EvI at hi
  rw [hi,Option.bind_some] at e1
  split at e1
  ·obtain ⟨z,h1,h2⟩:=bs e1
   cases h2
  ·cases e1
 | tp ts=>rw [OT.data_tp] at e2; cases e2
 | dc _ _ _=>rw [OT.data_dc] at e2; cases e2
 | nd rs =>
  rw [OT.data_nd,← datas_map] at e2
  injection e2 with e2
  exact ⟨rs,e1,e2⟩
theorem Zej (neg:Bool) (x:Int) (p:List Int):Zud neg (.int x) (Zi p) = some (.bool (if neg then !decide (x ∈ p) else decide (x ∈ p))):=by
 have e:memS (.int x) (p.map PyData.int) = decide (x ∈ p):=by
  unfold memS
  rw [List.any_map]
  rw [Bool.eq_iff_iff,List.any_eq_true,decide_eq_true_eq]
  constructor
  ·rintro ⟨y,hy,h⟩
   have:(y == x) = true:=h
   rw [← eq_of_beq this]; exact hy
  ·intro h
   exact ⟨x,h,(show (x == x) = true from beq_self_eq_true x)⟩
 have s:(p.map PyData.int).all scD = true:=by
  rw [List.all_eq_true]
  intro d hd
  obtain ⟨y,_,rfl⟩:=List.mem_map.mp hd
  rfl
 show (if (scD (.int x) && (p.map PyData.int).all scD) = true then some (PyData.bool (if neg then !memS (.int x) (p.map PyData.int) else memS (.int x) (p.map PyData.int))) else none) = _
 rw [s,e]; rfl
theorem Zr5 (x y:Bool):gNe (.bool x) (.bool y) = some (.bool (x != y)):=by
 cases x <;> cases y <;> rfl
theorem Pm.at {n:Nat} {p:List Int} (h:Pm n p) {i:Nat} (hi:i < n):∃ u,u < n∧p.getD u 0 = (i:Int):=by
 have m:(i:Int) ∈ p:=h.mem_iff.mpr (Zpx.mpr ⟨by omega,by omega⟩)
 obtain ⟨u,hu⟩:=List.getElem?_of_mem m
 exact ⟨u,by rw [← h.len]; exact (List.getElem?_eq_some_iff.mp hu).1,by rw [List.getD_eq_getElem?_getD,hu]; rfl⟩
theorem list_range {α β:Type} (p:List α) (d:α) (f:α→β):p.map f = (List.range p.length).map fun i=>f (p.getD i d):=by
 refine List.ext_getElem? fun i=>?_
 rw [List.getElem?_map,List.getElem?_map]
 by_cases c:i < p.length
 ·rw [List.getElem?_range c,List.getElem?_eq_getElem c]
  simp [List.getD_eq_getElem?_getD,List.getElem?_eq_getElem c]
 ·rw [List.getElem?_eq_none (by omega),List.getElem?_eq_none (by simp; omega)]; rfl
theorem Z1k {n:Nat} {base:Int} {L:List (List Int)} (h:Dr n base L):PyData.list ((L.map Zth).map OT.data) = Ja n (fnL L)∧∀ i j,i < n→j < n→0 ≤ fnL L i j∧fnL L i j < base:=by
 refine ⟨?_,fun i j hi hj=>?_⟩
 ·unfold Ja
  refine congrArg PyData.list ?_
  rw [List.map_map,list_range L [],h.1]
  refine List.map_congr_left fun i hi=>?_
  have hi:i < n:=by simpa using hi
  have hr:(L.getD i []).length = n:=by
   refine (h.2 _ ?_).1
   rw [List.getD_eq_getElem?_getD,List.getElem?_eq_getElem (by rw [h.1]; exact hi)]
   exact List.getElem_mem _
  show (OT.nd _).data = Zuf n _
  rw [OT.data_nd]
  unfold Zuf
  refine congrArg PyData.list ?_
  rw [List.map_map,list_range (L.getD i []) 0,hr]
  rfl
 ·have m1:L.getD i [] ∈ L:=by
   rw [List.getD_eq_getElem?_getD,List.getElem?_eq_getElem (by rw [h.1]; exact hi)]
   exact List.getElem_mem _
  obtain ⟨h1,h2⟩:=h.2 _ m1
  exact h2 _ (getD_mem (by omega))
theorem ix3 {x y z:PyData} {v:Int} (h0:0 ≤ v) (h1:v < 3):∃ d,gIx (.list [x,y,z]) (.int v) = some (.fz d)∧(d = x∨d = y∨d = z):=by
 obtain ⟨n,rfl⟩:∃ n:Nat,v = n:=⟨v.toNat,by omega⟩
 match n with
 | 0=>exact ⟨x,rfl,.inl rfl⟩
 | 1=>exact ⟨y,rfl,.inr (.inl rfl)⟩
 | 2=>exact ⟨z,rfl,.inr (.inr rfl)⟩
 | n + 3=>exact absurd h1 (by omega)
theorem ix4 {x y z w:PyData} {v:Int} (h0:0 ≤ v) (h1:v < 4):∃ d,gIx (.list [x,y,z,w]) (.int v) = some (.fz d)∧(d = x∨d = y∨d = z∨d = w):=by
 obtain ⟨n,rfl⟩:∃ n:Nat,v = n:=⟨v.toNat,by omega⟩
 match n with
 | 0=>exact ⟨x,rfl,.inl rfl⟩
 | 1=>exact ⟨y,rfl,.inr (.inl rfl)⟩
 | 2=>exact ⟨z,rfl,.inr (.inr (.inl rfl))⟩
 | 3=>exact ⟨w,rfl,.inr (.inr (.inr rfl))⟩
 | n + 4=>exact absurd h1 (by omega)
noncomputable def B20:Int:=100000000000000000000
noncomputable def wtB (cnt:FE):FS:=(Z3 (wE (Yg gIx (Zf4 (Zc (fC (.int 3)) (Zc (fC (.int 12)) (Zc (Zj Zuo (fC (.int 10)) (fC (.int 20))) Zo)))) (Zj Zf6 (Zd 3) (fC (.int 3)))) (Y4 4))
  (Z3 (wE (Zf4 Zo) (Zbb 5))
  (Z3 (Jz (iRa (Zc cnt Zo)) (gNm 6)
  (Z3 (wE (Zt Wm (Zc (Zd 3) (Zc (Zj Zdp (fC (.int 50)) (Zd 6)) Zo))) (Y4 7))
  (Z3 (Zbe (tV (Zj gLt (Zj Zdp (Zd 1) (Zd 6)) (Za9 Zcg (Zc (Zd 0) Zo))))
  (wE (Yg gIx (Zd 0) (Zj Zdp (Zd 1) (Zd 6))) (Y4 7))
  fNx)
  (Y9 5 (Zj Zf6 (Zd 7) (Zd 4))))))
  (Zd1 5))))
theorem Z9o (ns:List Int) (st:Nat) (x c:Int) {cnt:FE} {m:Nat} (hm:m ≤ 1000) (hc:∀ {δ:Zh},δ[2]? = some (some (.fz (.int x)))→EvV cnt δ (.int m)):∃ vs:List Int,Told (Je 4 8 (wtB cnt)) [Zi ns,.int st,.int x,.int c] (Zi vs)∧vs.length = m∧∀ v ∈ vs,0 ≤ v∧v < B20:=by
 obtain ⟨d,e,h⟩:=ix3 (x:=.int 3) (y:=.int 12) (z:=.int B20) (v:=c.fmod 3) (Zeb (by decide)) (Zdw (by decide))
 obtain ⟨b,rfl,b0,b1⟩:∃ b:Int,d = .int b∧0 < b∧b ≤ B20:=by
  unfold B20 at h ⊢
  rcases h with h | h | h <;> exact ⟨_,h,by decide,by decide⟩
 have key:∃ d,Told (Je 4 8 (wtB cnt)) [Zi ns,.int st,.int x,.int c] d∧∃ vs:List Int,d = Zi vs∧vs.length = m∧∀ v ∈ vs,0 ≤ v∧v < B20:=by
  refine Zmw rfl <| Zat (Zr (Ww (Zgb (Zb Z2 (Zb Z2 (Zb (Zu Z2 Z2 Yc7) Zf))) (show 3 ≤ 1000 by decide)) (Zaa Za Z2 (by decide)) e)) <| Zat Zf7 <| Zlu (ds:=Ze0 0 m) (fun i δ=>∃ (vs:List Int) (z6 z7:Option OT),δ = [some (.fz (Zi ns)),some (.fz (.int st)),some (.fz (.int x)),some (.fz (.int c)),some (.fz (.int b)),some (.nd (vs.map fun v=>.fz (.int v))),z6,z7]∧vs.length = i∧∀ v ∈ vs,0 ≤ v∧v < B20) (Zhp (Zb (hc rfl) Zf) (by omega)) ⟨[],none,none,rfl,rfl,fun _ h=>nomatch h⟩ (fun i d δ hd q=>?_) fun δ' q=>?_
  ·obtain ⟨vs,z6,z7,rfl,hl,hv⟩:=q
   obtain ⟨hi,rfl⟩:=Jv hd
   rw [Int.zero_add]
   obtain ⟨v,ev⟩:=Zsj c (50 + (i:Int))
   obtain ⟨w,e3⟩:∃ w,Zbe (tV (Zj gLt (Zj Zdp (Zd 1) (Zd 6)) (Za9 Zcg (Zc (Zd 0) Zo)))) (wE (Yg gIx (Zd 0) (Zj Zdp (Zd 1) (Zd 6))) (Y4 7)) fNx [some (.fz (Zi ns)),some (.fz (.int st)),some (.fz (.int x)),some (.fz (.int c)),some (.fz (.int b)),some (.nd (vs.map fun v=>.fz (.int v))),some (.fz (.int i)),some (.fz (.int v))] = .nx [some (.fz (Zi ns)),some (.fz (.int st)),some (.fz (.int x)),some (.fz (.int c)),some (.fz (.int b)),some (.nd (vs.map fun v=>.fz (.int v))),some (.fz (.int i)),some (.fz (.int w))]:=by
    by_cases q:(st:Int) + (i:Int) < ns.length
    ·exact ⟨_,Zbp (Zcf (Zg5 (W4 Za Za) (Zac Za) (decide_eq_true q))) (Zr (Wv Za (W4 Za Za) (by omega) q))⟩
    ·exact ⟨v,Yl (Zcf (Zg5 (W4 Za Za) (Zac Za) (decide_eq_false q))) rfl⟩
   refine ⟨_,_,rfl,.inl (Yb (Zr (Zm (Zb Za (Zb (W4 Z2 Za) Zf)) ev)) <| Yb e3 (Zje (vs:=vs) (Zaa Za Za (by omega)) rfl (by omega))),vs ++ [w.fmod b],_,_,rfl,by rw [List.length_append,hl]; rfl,fun u hu=>?_⟩
   rcases List.mem_append.mp hu with q | q
   ·exact hv u q
   ·rw [List.mem_singleton.mp q]
    exact ⟨Zeb b0,Int.lt_of_lt_of_le (Zdw b0) b1⟩
  ·obtain ⟨vs,z6,z7,rfl,hl,hv⟩:=q
   rw [Y8] at hl
   exact Z85 rfl ⟨vs,Zi4 vs,hl,hv⟩
 obtain ⟨d,h,vs,rfl,r⟩:=key
 exact ⟨vs,h,r⟩
theorem Z1a {np n:Nat} {S:FS} {xs:List PyData} {o:OT} {δ':Zh} (hl:xs.length = np) (k:S (Zf3 n xs) = .rt o δ'):Je np n S xs = .ok o:=by rw [Zg1 hl,k,Zrz]
theorem Zzv {δ:Zh} {i:Nat} {o:OT} (h:δ[i]? = some (some o)):Zd1 i δ = .rt o (δ.set i none):=by rw [Zor,h,Z0h]
noncomputable def B25:Int:=10000000000000000000000000
noncomputable def sep (s:List Int) (x y:Nat):Bool:=decide ((x:Int) ∈ s) != decide ((y:Int) ∈ s)
theorem Dr.len {n:Nat} {base:Int} {L:List (List Int)} (h:Dr n base L) {k:Nat} (hk:k < n):(L.getD k []).length = n:=by
 refine (h.2 _ ?_).1
 rw [List.getD_eq_getElem?_getD,List.getElem?_eq_getElem (by rw [h.1]; exact hk)]
 exact List.getElem_mem _
theorem Z5k {δ:Zh} {a b:FE} {i x y:Nat} {n:Nat} {base:Int} {L:List (List Int)} (h:Dr n base L) (hi:δ[i]? = some (some (.nd (L.map Zth)))) (ha:EvV a δ (.int x)) (hx:x < n) (hb:EvV b δ (.int y)) (hy:y < n):EvV (Yg gIx (Yg gIx (Zma i) a) b) δ (.int (fnL L x y)):=by
 have e1:EvV (Zma i) δ (.list (L.map Zi)):=Zn9 hi (by
  rw [OT.data_nd,List.map_map]
  exact congrArg PyData.list (List.map_congr_left fun r _=>Zi4 r))
 have e2:EvV (Yg gIx (Zma i) a) δ (Zi (L.getD x [])):=Zyn e1 ha (Z0b (by rw [List.getElem?_map,List.getD_eq_getElem?_getD,List.getElem?_eq_getElem (by rw [h.1]; exact hx)]; rfl))
 exact (Wv e2 hb (by omega) (by rw [h.len hx]; omega)).cast (by rw [show (y:Int).toNat = y by omega]; rfl)
noncomputable def rE (n:Nat) (A B:PyData) (L:List (List Int)) (s:List Int) (w:Int) (z6 z7:Option OT):Zh:=[some (.fz (.int n)),some (.fz A),some (.fz B),some (.nd (L.map Zth)),some (.fz (Zi s)),some (.fz (.int w)),z6,z7]
noncomputable def Zo6:FS:=Zbe (tV (Zj gNe (Zj (Zud false) (Zd 6) (Zd 4)) (Zj (Zud false) (Zd 7) (Zd 4))))
  (Zhh 3 (Zj Zdp (Yg gIx (Yg gIx (Zma 3) (Zd 6)) (Zd 7)) (Zd 5)) (Zd 6) (Zd 7))
  fNx
structure Up (n:Nat) (L0:List (List Int)) (s:List Int) (w:Int) (P:Nat→Nat→Prop) (L:List (List Int)):Prop where
 dr:Dr n B25 L
 yes:∀ x y,x < n→y < n→P x y→fnL L x y = fnL L0 x y + (if sep s x y = true then w else 0)
 no:∀ x y,x < n→y < n→¬ P x y→fnL L x y = fnL L0 x y
theorem Up.mono {n:Nat} {L0 L:List (List Int)} {s:List Int} {w:Int} {P Q:Nat→Nat→Prop} (h:Up n L0 s w P L) (e:∀ x y,x < n→y < n→(P x y ↔ Q x y)):Up n L0 s w Q L:=⟨h.dr,fun x y hx hy q=>h.yes x y hx hy ((e x y hx hy).mpr q),fun x y hx hy q=>h.no x y hx hy fun z=>q ((e x y hx hy).mp z)⟩
theorem Z07 {n:Nat} {A B:PyData} {L0 L:List (List Int)} {s:List Int} {w:Int} {P:Nat→Nat→Prop} {i j:Nat} (hi:i < n) (hj:j < n) (U:Up n L0 s w P L) (np:¬ P i j) (lo:0 ≤ fnL L0 i j) (w0:0 ≤ w) (hb:fnL L0 i j + w < B25) :
  ∃ L',Zo6 (rE n A B L s w (some (.fz (.int i))) (some (.fz (.int j)))) = .nx (rE n A B L' s w (some (.fz (.int i))) (some (.fz (.int j))))∧Up n L0 s w (fun x y=>P x y∨(x = i∧y = j)) L':=by
 have t:=Zcf (Zu (g:=gNe) (δ:=rE n A B L s w (some (.fz (.int i))) (some (.fz (.int j)))) (Zu (Za (i:=6) rfl) (Za (i:=4) rfl) (Zej false (i:Int) s)) (Zu (Za (i:=7) rfl) (Za (i:=4) rfl) (Zej false (j:Int) s)) (Zr5 _ _))
 have t:EvT _ _ (sep s i j):=t
 cases c:sep s i j with
 | false =>
  rw [c] at t
  refine ⟨L,Yl t rfl,U.dr,fun x y hx hy q=>?_,fun x y hx hy q=>U.no x y hx hy fun z=>q (.inl z)⟩
  rcases q with q | ⟨rfl,rfl⟩
  ·exact U.yes x y hx hy q
  ·rw [U.no x y hx hy np,c,if_neg Bool.false_ne_true,Int.add_zero]
 | true =>
  rw [c] at t
  have f:=Zy4 (L:=L) (a:=i) (b:=j) (v:=fnL L i j + w) (by rw [U.dr.1]; exact hi) (by rw [U.dr.len hi]; exact hj)
  have e:=U.no i j hi hj np
  refine ⟨_,Zbp t (Z2a (L:=L) (a:=i) (b:=j) (d:=fnL L i j + w) (W4 (Z5k U.dr rfl (Za rfl) hi (Za rfl) hj) (Za rfl)) rfl (Za rfl) (by rw [U.dr.1]; exact hi) (Za rfl) (by rw [U.dr.len hi]; exact hj)),U.dr.put (by rw [e]; omega) (by rw [e]; exact hb) i j,fun x y hx hy q=>?_,fun x y hx hy q=>?_⟩
  ·rw [f]
   by_cases z:x = i∧y = j
   ·obtain ⟨rfl,rfl⟩:=z
    rw [if_pos ⟨rfl,rfl⟩,e,c,if_pos rfl]
   ·rw [if_neg z]
    exact U.yes x y hx hy (q.resolve_right z)
  ·rw [f,if_neg fun z=>q (.inr z)]
   exact U.no x y hx hy fun z=>q (.inl z)
theorem Zvv {n:Nat} {A B:PyData} {L0 L:List (List Int)} {s:List Int} {w:Int} {i:Nat} {z7:Option OT} (n10:n ≤ 10) (hi:i < n) (U:Up n L0 s w (fun x _=>x < i) L) (lo:∀ x y,x < n→y < n→0 ≤ fnL L0 x y) (w0:0 ≤ w) (hb:∀ x y,x < n→y < n→fnL L0 x y + w < B25) :
  ∃ L' z7',Jz (iRa (Zc (Zd 0) Zo)) (gNm 7) Zo6 (rE n A B L s w (some (.fz (.int i))) z7) = .nx (rE n A B L' s w (some (.fz (.int i))) z7')∧Up n L0 s w (fun x _=>x < i + 1) L':=by
 obtain ⟨δ',e,L',z7',rfl,U'⟩:=Zcy (S:=Zo6) (g:=gNm 7) (it:=iRa (Zc (Zd 0) Zo)) (δ:=rE n A B L s w (some (.fz (.int i))) z7) (ds:=Ze0 0 n) (fun j δ=>∃ L' z7',δ = rE n A B L' s w (some (.fz (.int i))) z7'∧Up n L0 s w (fun x y=>x < i∨(x = i∧y < j)) L') (Zhp (Zb (Za rfl) Zf) (by omega)) ⟨L,z7,rfl,U.mono fun x y _ _=>by omega⟩ fun j d δ hd q=>by
  obtain ⟨L',z7',rfl,U'⟩:=q
  obtain ⟨hj,rfl⟩:=Jv hd
  rw [Int.zero_add]
  obtain ⟨L2,e2,U2⟩:=Z07 (A:=A) (B:=B) hi hj U' (by omega) (lo i j hi hj) w0 (hb i j hi hj)
  exact ⟨_,_,rfl,.inl e2,L2,_,rfl,U2.mono fun x y _ _=>by omega⟩
 rw [Y8] at U'
 exact ⟨L',z7',e,U'.mono fun x y _ hy=>by omega⟩
theorem Zum {n:Nat} {A B:PyData} {L0:List (List Int)} {s:List Int} {w:Int} {z6 z7:Option OT} (n10:n ≤ 10) (D:Dr n B25 L0) (lo:∀ x y,x < n→y < n→0 ≤ fnL L0 x y) (w0:0 ≤ w) (hb:∀ x y,x < n→y < n→fnL L0 x y + w < B25) :
  ∃ L' z6' z7',Jz (iRa (Zc (Zd 0) Zo)) (gNm 6) (Jz (iRa (Zc (Zd 0) Zo)) (gNm 7) Zo6) (rE n A B L0 s w z6 z7) = .nx (rE n A B L' s w z6' z7')∧Dr n B25 L'∧∀ x y,x < n→y < n→fnL L' x y = fnL L0 x y + (if sep s x y = true then w else 0):=by
 obtain ⟨δ',e,L',z6',z7',rfl,U'⟩:=Zcy (S:=Jz (iRa (Zc (Zd 0) Zo)) (gNm 7) Zo6) (g:=gNm 6) (it:=iRa (Zc (Zd 0) Zo)) (δ:=rE n A B L0 s w z6 z7) (ds:=Ze0 0 n) (fun i δ=>∃ L' z6' z7',δ = rE n A B L' s w z6' z7'∧Up n L0 s w (fun x _=>x < i) L') (Zhp (Zb (Za rfl) Zf) (by omega)) ⟨L0,z6,z7,rfl,D,fun _ _ _ _ z=>absurd z (Nat.not_lt_zero _),fun _ _ _ _ _=>rfl⟩ fun i d δ hd q=>by
  obtain ⟨L',z6',z7',rfl,U'⟩:=q
  obtain ⟨hi,rfl⟩:=Jv hd
  rw [Int.zero_add]
  obtain ⟨L2,z,e2,U2⟩:=Zvv (A:=A) (B:=B) (z7:=z7') n10 hi U' lo w0 hb
  exact ⟨_,_,rfl,.inl e2,L2,_,z,rfl,U2⟩
 rw [Y8] at U'
 exact ⟨L',z6',z7',e,U'.dr,fun x y hx hy=>U'.yes x y hx hy hx⟩
theorem Zov (s:List Int) (x y:Nat):sep s x y = sep s y x:=by unfold sep; cases decide ((x:Int) ∈ s) <;> cases decide ((y:Int) ∈ s) <;> rfl
theorem Zot (s:List Int) (x:Nat):sep s x x = false:=by unfold sep; cases decide ((x:Int) ∈ s) <;> rfl
theorem Zv5 {n:Nat}:Dr n B25 ((List.range n).map fun _=>List.replicate n 0)∧∀ x y,x < n→y < n→fnL ((List.range n).map fun _=>List.replicate n 0) x y = 0:=by
 refine ⟨⟨by rw [List.length_map,List.length_range],fun r hr=>?_⟩,fun i j hi hj=>?_⟩
 ·obtain ⟨_,_,rfl⟩:=List.mem_map.mp hr
  exact ⟨List.length_replicate,fun x hx=>by rw [List.eq_of_mem_replicate hx]; decide⟩
 ·unfold fnL
  rw [List.getD_eq_getElem?_getD (l:=List.map _ _),List.getElem?_map,List.getElem?_range hi]
  show (List.replicate n (0:Int)).getD j 0 = 0
  rw [List.getD_eq_getElem?_getD,List.getElem?_replicate,if_pos hj]; rfl
theorem Z90 {F:FD} {as:FA} {δ:Zh} {ds:List PyData} {o:OT} (h:EvA as δ ds) (hF:F ds = .ok o):Zt F as δ = some (o,δ):=by
 obtain ⟨ts,e1,d1⟩:=h
 rw [Zom,e1,Option.bind_some]
 dsimp only
 rw [d1,hF]; rfl
theorem Z9a {α:Type} {g:FG} {t:FT} {me:FE} {cs:Zh} (x1 x2:α→PyData) (p:α→Bool) (f:α→OT):∀ (xs:List α) (z0 z1:Option OT),(∀ x ∈ xs,∀ z0 z1,g (.tuple [x1 x,x2 x]) (z0 :: z1 :: cs) = some (some (.fz (x1 x)) :: some (.fz (x2 x)) :: cs))→(∀ x ∈ xs,t (some (.fz (x1 x)) :: some (.fz (x2 x)) :: cs) = some (p x,some (.fz (x1 x)) :: some (.fz (x2 x)) :: cs))→(∀ x ∈ xs,p x = true→me (some (.fz (x1 x)) :: some (.fz (x2 x)) :: cs) = some (f x,some (.fz (x1 x)) :: some (.fz (x2 x)) :: cs)) →
  ∃ z0' z1',compLoop g t me (xs.map fun x=>.tuple [x1 x,x2 x]) (z0 :: z1 :: cs) = some ((xs.filter p).map f,z0' :: z1' :: cs):=by
 intro xs
 induction xs with
 | nil=>exact fun z0 z1 _ _ _=>⟨z0,z1,rfl⟩
 | cons x xs ih =>
  intro z0 z1 hg ht hm
  obtain ⟨y0,y1,e⟩:=ih (some (.fz (x1 x))) (some (.fz (x2 x))) (fun y hy=>hg y (.tail _ hy)) (fun y hy=>ht y (.tail _ hy)) fun y hy=>hm y (.tail _ hy)
  refine ⟨y0,y1,?_⟩
  rw [List.map_cons,compLoop,hg x (.head _),Option.bind_some,ht x (.head _),Option.bind_some]
  dsimp only
  cases hp:p x with
  | true=>rw [if_pos rfl,hm x (.head _) hp,Option.bind_some,List.filter_cons_of_pos hp,List.map_cons]; dsimp only; rw [e]; rfl
  | false=>rw [if_neg Bool.false_ne_true,List.filter_cons_of_neg (by rw [hp]; exact Bool.false_ne_true)]; exact e
theorem Z3w {α:Type} {caps:List Nat} {it:FI} {g:FG} {t:FT} {me:FE} {cs δ:Zh} (xs:List α) (x1 x2:α→PyData) (p:α→Bool) (f:α→OT) (hi:EvI it δ (xs.map fun x=>.tuple [x1 x,x2 x])) (hz:xs.length ≤ 1000000) (hb:blk 2 caps δ = none :: none :: cs)
  (hg:∀ x ∈ xs,∀ z0 z1,g (.tuple [x1 x,x2 x]) (z0 :: z1 :: cs) = some (some (.fz (x1 x)) :: some (.fz (x2 x)) :: cs)) (ht:∀ x ∈ xs,t (some (.fz (x1 x)) :: some (.fz (x2 x)) :: cs) = some (p x,some (.fz (x1 x)) :: some (.fz (x2 x)) :: cs)) (hm:∀ x ∈ xs,p x = true→me (some (.fz (x1 x)) :: some (.fz (x2 x)) :: cs) = some (f x,some (.fz (x1 x)) :: some (.fz (x2 x)) :: cs)) :
  Yx 2 caps it g t me δ = some (.nd ((xs.filter p).map f),δ):=by
 obtain ⟨z0,z1,e⟩:=Z9a x1 x2 p f xs none none hg ht hm
 unfold EvI at hi
 unfold Yx
 rw [hi,Option.bind_some]
 dsimp only
 rw [if_pos (by rw [sizeLine_eq,List.length_map]; omega),hb,e]; rfl
theorem Zjp {α β:Type} (f:α→PyData) (g:β→PyData) (r:List α) (s:List β):Zhy (r.map f) (s.map g) = (r.zip s).map fun q=>.tuple [f q.1,g q.2]:=by
 unfold Zhy
 rw [List.zip_map,List.map_map]; rfl
theorem Zkg {n:Nat} (hn:n ≤ 10) (R:Nat→Nat→Int) {b:Int} (hb:0 < b) (bb:Bt 300 b):Told J5 [Ja n R,.int b] (tbD (J8 n R b)):=by
 have e:tbD (J8 n R b) = .list ((List.range n).map fun i=>.list ((List.range n).map fun j=>frD (Rat.divInt (R i j) b))):=by
  unfold tbD J8
  rw [List.map_map]
  refine congrArg PyData.list (List.map_congr_left fun i _=>?_)
  show Zl9 _ = _
  unfold Zl9
  rw [List.map_map]; rfl
 rw [e]
 exact Zv rfl <| Z8 <| Zbu (cs:=[some (.fz (.int b))]) (List.range n) (fun i=>Zuf n (R i)) (fun i=>.list ((List.range n).map fun j=>frD (Rat.divInt (R i j) b))) (W6 Za) (by rw [List.length_range]; omega) rfl fun i _ =>
  Zbu (cs:=[some (.fz (.int b))]) (List.range n) (fun j=>.int (R i j)) (fun j=>frD (Rat.divInt (R i j) b)) (W6 Za) (by rw [List.length_range]; omega) rfl fun j _=>Zm (Zb Za (Zb Za Zf)) (Zij hb bb)
structure Rw (n:Nat) (R:Nat→Nat→Int):Prop where
 sy:∀ i j,i < n→j < n→R i j = R j i∧R i i = 0
 bt:∀ i j,i < n→j < n→Bt 300 (R i j)
noncomputable def ctD (p:List Int × Rat):PyData:=.tuple [Zi p.1,frD p.2]
noncomputable def Zm4 (L:List (List Int × Rat)):PyData:=.list (L.map ctD)
theorem Zu7 (a b:List Int):gEq (Zi a) (Zi b) = some (.bool (decide (a = b))):=by
 have s:∀ p,SeqAt.shaped (Zi p) = true:=fun p=>((Z02 p).shp (by omega)).ok
 unfold gEq
 rw [if_pos (by rw [s,s]; rfl)]
 exact congrArg (fun z=>some (PyData.bool z)) (Zsh a b)
theorem Z0o {d:PyData} {n:Nat} (h:Sh n d) (hn:n ≤ 64) (hp:Ws d = true):gEq d d = some (.bool true)∧gNe d d = some (.bool false):=by
 have s:=(h.shp hn).ok
 unfold gEq gNe
 rw [if_pos (by rw [s]; rfl),if_pos (by rw [s]; rfl),Zvl hp]
 exact ⟨rfl,rfl⟩
theorem Z5d {w:Str} (h:PyData.strOk w = true):Sh 0 (.str w):=⟨by rw [PyData.canLay0]; exact h,Nat.le_of_eq rfl⟩
theorem Zre (w:Str):Ws (.str w) = true:=by rw [Ws]
theorem Zwr {w:Str} (h:PyData.strOk w = true):gNe (.str w) (.str w) = some (.bool false)∧gEq (.str w) (.str w) = some (.bool true):=by
 have:=Z0o (Z5d h) (by decide) (Zre w)
 exact ⟨this.2,this.1⟩
theorem Zgw (k:Nat) (i:Int):Told (Zn (k + 1)) [.int i,.int i] (.bool true) :=
 show Told (Je 2 4 (Wc (Zn k))) [.int i,.int i] (.bool true) from Zv rfl <| Zay <| Zd8 (Z6v (Zex Za) rfl) <| Z8 (Zdj (Zio Za rfl) (Zdj (Z6k (Zex Za) rfl) (Zp9 Za Za (decide_eq_true rfl))))
theorem Zry (k:Nat) {w:Str} (h:PyData.strOk w = true):Told (Zn (k + 1)) [.str w,.str w] (.bool true) :=
 show Told (Je 2 4 (Wc (Zn k))) [.str w,.str w] (.bool true) from Zv rfl <| Zx (Yl (Z6v (Zex Za) rfl) rfl) <| Zay <| Zd8 (Z6v (Zex Za) rfl) <| Z8 (Zdj (Zio Za rfl) (Zu Za Za (Zwr h).2))
theorem Zap {k:Nat} {x:PyData} {ds:List PyData} (hx:x = .list ds∨x = .tuple ds) (h:∀ d ∈ ds,Told (Zn k) [d,d] (.bool true)):Told (Zn (k + 1)) [x,x] (.bool true):=by
 have key:Zof "int" x = false→Zof "str" x = false→Zhc x = false→Zcg [x] = some (.int ds.length)→Z2h [x,x] = some (Zhy ds ds)→Told (Zn (k + 1)) [x,x] (.bool true):=fun h1 h2 hf hl hz =>
  show Told (Je 2 4 (Wc (Zn k))) [x,x] (.bool true) from Zv rfl <| Zx (Yl (Zge (Zio Za h1 hf)) rfl) <| Zx (Yl (Zge (Zio Za h2 hf)) rfl) <|
   Zx (Yl (Z48 (Zcf (Zu (Zex Za hf) (Zex Za hf) ((Zr5 _ _).trans (by rw [bne_self_eq_false])))) (Zcf (Zu (Zex Za hf) (Zex Za hf) ((Zr5 _ _).trans (by rw [bne_self_eq_false]))))) rfl) <|
   Zx (Yl (Zcf (Zv3 (Zaj (Zb Za Zf) hl) (Zaj (Zb Za Zf) hl) (by rw [decide_eq_true rfl]; rfl))) rfl) <|
   Zho (ds:=Zhy ds ds) (fun i δ=>∃ z1 z2,δ = [some (.fz x),some (.fz x),z1,z2]) (Zsf (Zb Za (Zb Za Zf)) hz) ⟨none,none,rfl⟩ (fun i d δ hd q=>by
    obtain ⟨z1,z2,rfl⟩:=q
    obtain ⟨a,b,ha,hb,rfl⟩:=Zn7 hd
    rw [ha] at hb
    cases hb
    exact ⟨_,_,rfl,.inl (Yl (Zh5 (p:=true) (Zge (Zm (Zb Za (Zb Za Zf)) (h a (List.mem_of_getElem? ha))))) rfl),_,_,rfl⟩) fun δ' _=>Z8 Z2
 rcases hx with rfl | rfl
 ·exact key rfl rfl rfl (Zok ds) rfl
 ·exact key rfl rfl rfl (Zxv ds) rfl
theorem Zjt (k:Nat) (q:Rat):Told (Zn (k + 2)) [frD q,frD q] (.bool true):=Zap (ds:=[.int q.num,.int (q.den:Int)]) (.inr rfl) fun d m=>by
 rcases List.mem_cons.mp m with rfl | m
 ·exact Zgw k _
 ·rw [List.mem_singleton.mp m]; exact Zgw k _
theorem Zwy (k:Nat) (T:List (List Rat)):Told (Zn (k + 4)) [tbD T,tbD T] (.bool true):=Zap (ds:=T.map Zl9) (.inl rfl) fun d m=>by
 obtain ⟨r,_,rfl⟩:=List.mem_map.mp m
 refine Zap (ds:=r.map frD) (.inl rfl) fun d m=>?_
 obtain ⟨q,_,rfl⟩:=List.mem_map.mp m
 exact Zjt k q
theorem Zv1 {α:Type} {caps:List Nat} {it:FI} {g:FG} {t:FT} {me:FE} {cs δ:Zh} (xs:List α) (x1 x2:α→PyData) (p:α→Bool) (f:α→PyData) (hi:EvI it δ (xs.map fun x=>.tuple [x1 x,x2 x])) (hz:xs.length ≤ 1000000) (hb:blk 2 caps δ = none :: none :: cs)
  (hg:∀ x ∈ xs,∀ z0 z1,g (.tuple [x1 x,x2 x]) (z0 :: z1 :: cs) = some (some (.fz (x1 x)) :: some (.fz (x2 x)) :: cs)) (ht:∀ x ∈ xs,EvT t (some (.fz (x1 x)) :: some (.fz (x2 x)) :: cs) (p x)) (hm:∀ x ∈ xs,p x = true→EvV me (some (.fz (x1 x)) :: some (.fz (x2 x)) :: cs) (f x)) :
  EvV (Yx 2 caps it g t me) δ (.list ((xs.filter p).map f)):=by
 have ch:∀ x,∃ o:OT,x ∈ xs→p x = true→me (some (.fz (x1 x)) :: some (.fz (x2 x)) :: cs) = some (o,some (.fz (x1 x)) :: some (.fz (x2 x)) :: cs)∧o.data = f x:=fun x=>by
  by_cases c:x ∈ xs∧p x = true
  ·obtain ⟨o,h⟩:=hm x c.1 c.2
   exact ⟨o,fun _ _=>h⟩
  ·exact ⟨.fz .none,fun a b=>absurd ⟨a,b⟩ c⟩
 obtain ⟨F,hF⟩:=Classical.axiomOfChoice ch
 refine ⟨_,Z3w xs x1 x2 p F hi hz hb hg ht fun x m q=>(hF x m q).1,?_⟩
 rw [OT.data_nd,List.map_map]
 exact congrArg PyData.list (List.map_congr_left fun x m=>(hF x (List.mem_filter.mp m).1 (List.mem_filter.mp m).2).2)
noncomputable def cz (Z:List (List Int × Int)) (x y:Nat):Int:=(Z.map fun q=>if sep q.1 x y = true then q.2 else 0).sum
theorem Zzj (Z:List (List Int × Int)) (q:List Int × Int) (x y:Nat):cz (Z ++ [q]) x y = cz Z x y + (if sep q.1 x y = true then q.2 else 0):=by
 unfold cz
 rw [List.map_append,List.sum_append]
 show _ + (_ + 0) = _
 rw [Int.add_zero]
theorem Zmz {n:Nat} {f g:Nat→Nat→Int} (h:∀ i j,i < n→j < n→f i j = g i j):Ja n f = Ja n g:=by
 unfold Ja Zuf
 refine congrArg PyData.list (List.map_congr_left fun i hi=>congrArg PyData.list (List.map_congr_left fun j hj=>?_))
 rw [h i j (List.mem_range.mp hi) (List.mem_range.mp hj)]
theorem Zqy {n:Nat} (n10:n ≤ 10) {Ls:List (List Int)} {vs:List Int} (hl:Ls.length ≤ 60) (hv:∀ v ∈ vs,0 ≤ v∧v < 1000 * B20):Told Zae [.int n,.list (Ls.map Zi),Zi vs] (Ja n (cz (Ls.zip vs)))∧Rw n (cz (Ls.zip vs)):=by
 obtain ⟨D0,f0⟩:=Zv5 (n:=n)
 have s1:wE (Yx 1 [0] (iRa (Zc (Zd 0) Zo)) (gNm 0) Zhs (Zuk (fC (.int 0)) (Zd 1))) (Zbb 3) (Zf3 8 [.int n,.list (Ls.map Zi),Zi vs]) = .nx [some (.fz (.int n)),some (.fz (.list (Ls.map Zi))),some (.fz (Zi vs)),some (.nd (((List.range n).map fun _=>List.replicate n 0).map Zth)),none,none,none,none]:=by
  refine (Zg4 (Zj2 (cs:=[some (.fz (.int n))]) (List.range n) (fun i:Nat=>PyData.int (0 + (i:Int))) (fun _=>Zth (List.replicate n 0)) (Zhp (Zb (Za rfl) Zf) (by omega)) (by rw [List.length_range,sizeLine_eq]; omega) rfl fun x _=>?_)).trans (by rw [List.map_map]; rfl)
  unfold Zth
  rw [List.map_replicate]
  exact Zxe (by omega)
 obtain ⟨δ',e,L,z4,z5,z6,z7,rfl,D,ex,bd⟩:=Zcy (S:=Jz (iRa (Zc (Zd 0) Zo)) (gNm 6) (Jz (iRa (Zc (Zd 0) Zo)) (gNm 7) Zo6)) (g:=gTp 2 (gCn (gNm 4) (gCn (gNm 5) gNl))) (it:=Zdm (Zc (Zd 1) (Zc (Zd 2) Zo))) (δ:=[some (.fz (.int n)),some (.fz (.list (Ls.map Zi))),some (.fz (Zi vs)),some (.nd (((List.range n).map fun _=>List.replicate n 0).map Zth)),none,none,none,none]) (ds:=Zhy (Ls.map Zi) (vs.map PyData.int)) (fun k δ=>∃ (L:List (List Int)) (z4 z5 z6 z7:Option OT),δ = [some (.fz (.int n)),some (.fz (.list (Ls.map Zi))),some (.fz (Zi vs)),some (.nd (L.map Zth)),z4,z5,z6,z7]∧Dr n B25 L∧(∀ x y,x < n→y < n→fnL L x y = cz ((Ls.zip vs).take k) x y)∧∀ x y,x < n→y < n→0 ≤ fnL L x y∧fnL L x y ≤ k * (1000 * B20)) (Zgv (Za rfl) (Za (d:=Zi vs) rfl) rfl) ⟨_,_,_,_,_,rfl,D0,fun i j hi hj=>f0 i j hi hj,fun x y hx hy=>by rw [f0 x y hx hy]; exact ⟨Int.le_refl _,Int.le_of_eq (by rw [Int.natCast_zero,Int.zero_mul])⟩⟩ fun k d δ hd q=>by
  obtain ⟨L,z4,z5,z6,z7,rfl,D,ex,bd⟩:=q
  rw [Zjp,List.getElem?_map] at hd
  obtain ⟨⟨s,w⟩,hq,rfl⟩:=Option.map_eq_some_iff.mp hd
  have ml:=List.of_mem_zip (List.mem_of_getElem? hq)
  have k60:k < 60:=by
   have:=(List.getElem?_eq_some_iff.mp hq).1
   rw [List.length_zip] at this
   omega
  obtain ⟨w0,w1⟩:=hv w ml.2
  have kB:(k:Int) * (1000 * B20) ≤ 60 * (1000 * B20):=Int.mul_le_mul_of_nonneg_right (by omega) (by decide)
  obtain ⟨L',y6,y7,e,D',f⟩:=Zum (A:=.list (Ls.map Zi)) (B:=Zi vs) (s:=s) (z6:=z6) (z7:=z7) n10 D (fun x y hx hy=>(bd x y hx hy).1) w0 fun x y hx hy=>by
   have:=(bd x y hx hy).2
   have:B25 = 100000 * B20:=by decide
   have:0 < B20:=by decide
   omega
  refine ⟨_,_,rfl,.inl e,L',_,_,y6,y7,rfl,D',fun i j hi hj=>?_,fun x y hx hy=>?_⟩
  ·rw [f i j hi hj,ex i j hi hj,List.take_add_one,hq]
   exact (Zzj _ (s,w) i j).symm
  ·have:=bd x y hx hy
   rw [f x y hx hy,Int.natCast_succ,Int.add_mul,Int.one_mul]
   split <;> omega
 have tk:(Ls.zip vs).take (Zhy (Ls.map Zi) (vs.map PyData.int)).length = Ls.zip vs:=by rw [Zjp,List.length_map,List.take_length]
 rw [tk] at ex
 obtain ⟨e1,e2⟩:=Z1k D
 refine ⟨⟨_,Z1a rfl (Yb s1 (Yb e (Zzv (i:=3) rfl))),?_⟩,fun i j hi hj=>⟨?_,?_⟩,fun i j hi hj=>?_⟩
 ·rw [OT.data_nd,e1]
  exact Zmz ex
 ·unfold cz
  exact congrArg List.sum (List.map_congr_left fun q _=>by rw [Zov])
 ·unfold cz
  rw [show (Ls.zip vs).map (fun q=>if sep q.1 i i = true then q.2 else 0) = (Ls.zip vs).map (fun _=>0) from List.map_congr_left fun q _=>by rw [Zot,if_neg Bool.false_ne_true]]
  generalize Ls.zip vs = Z
  induction Z with
  | nil=>rfl
  | cons q Z ih=>rw [List.map_cons,List.sum_cons,ih]; rfl
 ·rw [← ex i j hi hj]
  have:=e2 i j hi hj
  refine Bt.of_lt ?_ ?_
  ·have:(0:Int) < 2 ^ 300:=by decide +kernel
   omega
  ·have:B25 < 2 ^ 300:=by decide +kernel
   omega
theorem Zp1 (ns:List Int) (st:Nat) (m:Nat) (c:Int) (hm:m ≤ 1000):∃ vs:List Int,Told Jj [Zi ns,.int st,.int m,.int c] (Zi vs)∧vs.length = m∧∀ v ∈ vs,0 ≤ v∧v < B20:=Z9o ns st m c (cnt:=Zd 2) hm fun h=>Za h
noncomputable def lO (L:List (List Int)):OT:=.nd ((L.map Zi).map OT.fz)
theorem Zj5 (L:List (List Int)):(lO L).data = .list (L.map Zi):=by unfold lO; rw [OT.data_nd,OT.map_fz]
theorem Zrj (L:List (List Int)) (x:List Int):lO (L ++ [x]) = .nd ((L.map Zi).map OT.fz ++ [OT.fz (Zi x)]):=by
 unfold lO
 rw [List.map_append,List.map_append]; rfl
theorem Znz (L:List (List Int)):OT.datas ((L.map Zi).map OT.fz) = L.map Zi:=by
 have:=Zj5 L
 unfold lO at this
 rw [OT.data_nd] at this
 rw [OT.datas_map]
 exact PyData.list.inj this
theorem Z8z (L:List (List Int)):Zk6 ((L.map Zi).map OT.fz) = true:=by
 induction L with
 | nil=>rfl
 | cons x L ih=>exact ih
theorem Zqo {δ:Zh} {i:Nat} {L:List (List Int)} (h:δ[i]? = some (some (lO L))):Z2n δ[i]? = some ((L.map Zi).map OT.fz):=by
 rw [h]
 show (if Zk6 ((L.map Zi).map OT.fz) = true then some ((L.map Zi).map OT.fz) else none) = _
 rw [if_pos (Z8z L)]
theorem Zvz {δ:Zh} {i:Nat} {L:List (List Int)} (h:δ[i]? = some (some (lO L))):Znp i δ = some (lO L,δ):=by
 unfold Znp
 rw [Zqo h,Option.bind_some,Znz]; rfl
theorem Ybq {i:Nat} {a:FE} {δ:Zh} {l:List (List Int)} {j:Nat} (hi:δ[i]? = some (some (lO l))) (ha:EvV a δ (.int j)) (hj:j < l.length) (hl:l.length ≤ 1000) :
  Z2e i a δ = some (.fz (Zi (l.getD j [])),δ.set i (some (lO (l.eraseIdx j)))):=by
 obtain ⟨t,e0,d0⟩:=ha
 rw [Znx d0] at e0
 have e1:((l.map Zi).map OT.fz)[j]? = some (.fz (Zi (l.getD j []))):=by
  rw [List.getElem?_map,List.getElem?_map,List.getD_eq_getElem?_getD,List.getElem?_eq_getElem hj]; rfl
 unfold lO at hi ⊢
 unfold Z2e
 rw [hi]
 dsimp only
 rw [e0,Option.bind_some]
 dsimp only
 rw [hi]
 dsimp only
 rw [OT.data_fz]
 dsimp only
 rw [Zix (by rw [List.length_map,List.length_map]; exact hj)]
 dsimp only
 rw [e1]
 dsimp only
 rw [if_pos (by rw [List.length_map,List.length_map,sizeLine_eq]; omega),Zgs,Zgs]
theorem popS {e:FE} {δ δ':Zh} {o:OT} {i:Nat} (h:e δ = some (o,δ')):wE e (Y4 i) δ = .nx (δ'.set i (some (.fz o.data))):=by
 rw [Zci,h,Yw,Zta]
theorem Zvr {δ:Zh} {i:Nat} {L:List (List Int)} {x:List Int} (h:δ[i]? = some (some (lO (L ++ [x])))):EvV (Z7a i (fUn Zue (fC (.int 1)))) δ (Zi x):=by
 obtain ⟨t,e,d⟩:=Zno (Z2 (δ:=δ) (d:=.int 1))
 refine ⟨.fz (Zi x),?_,OT.data_fz _⟩
 unfold Z7a
 rw [Zqo h,Option.bind_some,e,Option.bind_some]
 dsimp only
 rw [d,Znz,List.map_append]
 dsimp only
 rw [show atI (L.map Zi ++ [x].map Zi) (-1) = some (Zi x) from Zn8 _ _]; rfl
noncomputable def sL (l:List (List Int)):Nat:=(l.map List.length).sum
theorem Zjs:∀ (l:List (List Int)) (j:Nat),j < l.length→sL (l.eraseIdx j) + (l.getD j []).length = sL l
 | [],_,h=>by simp at h
 | a :: l,0,_=>by unfold sL; rw [List.map_cons,List.sum_cons]; exact Nat.add_comm _ _
 | a :: l,j + 1,h=>by
  have:=Zjs l j (by simpa using h)
  unfold sL at this ⊢
  rw [List.map_cons,List.sum_cons,← this]
  show (a.length + _) + _ = _
  exact Nat.add_assoc _ _ _
theorem Zt5 {it:FI} {g:FG} {S S':FS} {δ:Zh} {ds:List PyData} {Q:PyData→Prop} (I:Nat→Zh→Prop) (hi:EvI it δ ds) (h0:I 0 δ) (turn:∀ (i:Nat) (d:PyData) (δ:Zh),ds[i]? = some d→I i δ→(∃ δ1 δ2,g d δ = some δ1∧S δ1 = .nx δ2∧I (i + 1) δ2)∨∃ δ1,g d δ = some δ1∧Znf S δ1 Q) (fin:∀ δ',I ds.length δ'→Znf S' δ' Q):Znf (Z3 (Jz it g S) S') δ Q:=by
 have key:(∃ δ',forLoop g S ds δ = .nx δ'∧I ds.length δ')∨∃ o δ',forLoop g S ds δ = .rt o δ'∧Q o.data:=by
  clear fin hi
  induction ds generalizing δ I with
  | nil=>exact .inl ⟨δ,rfl,h0⟩
  | cons d ds ih =>
   rcases turn 0 d δ rfl h0 with ⟨δ1,δ2,e1,e2,h1⟩ | ⟨δ1,e1,d',⟨o,δ2,e2,hd⟩,hq⟩
   ·rcases ih (δ:=δ2) (fun i δ=>I (i + 1) δ) h1 fun i d' δ hd hi=>turn (i + 1) d' δ (by simpa using hd) hi with ⟨δ',e3,h3⟩ | ⟨o,δ',e3,h3⟩
    ·refine .inl ⟨δ',?_,h3⟩
     rw [Jy,e1]
     dsimp only
     rw [e2]
     exact e3
    ·refine .inr ⟨o,δ',?_,h3⟩
     rw [Jy,e1]
     dsimp only
     rw [e2]
     exact e3
   ·refine .inr ⟨o,δ2,?_,by rw [hd]; exact hq⟩
    rw [Jy,e1]
    dsimp only
    rw [e2]
 rcases key with ⟨δ',e,h⟩ | ⟨o,δ',e,h⟩
 ·exact Zat (Zgc hi e) (fin δ' h)
 ·exact Zwa ⟨_,⟨o,δ',Zgc hi e,rfl⟩,h⟩
theorem Zps (p:List Int):Z2c p (some 1) none = p.drop 1:=by
 cases p with
 | nil=>rfl
 | cons x p=>exact Zkw (k:=1) (by simp)
noncomputable def Zr8 (p:List Int):Bool:=(p.zip (p.drop 1)).all fun q=>decide (q.1 < q.2)
noncomputable def Z2l (n:Int) (p:List Int):Bool:=!decide (p.length = 0) && (Zr8 p && (decide (1 ≤ p.getD 0 0) && decide (p.getD (p.length - 1) 0 < n)))
theorem Zlg (p:List Int):Told W0 [Zi p] (.bool (Zr8 p)):=by
 obtain ⟨z,hz⟩:∃ z,z = p.zip (p.drop 1):=⟨_,rfl⟩
 have key:∃ d,Told W0 [Zi p] d∧d = .bool (Zr8 p):=by
  refine Zmw rfl <| Zt5 (ds:=z.map prD) (fun i δ=>(∃ z1 z2,δ = [some (.fz (Zi p)),z1,z2])∧∀ j q,j < i→z[j]? = some q→q.1 < q.2) (Zgv (as:=p.map PyData.int) (bs:=(p.drop 1).map PyData.int) (Za) (Z2v Za (Yb7 Z2) Yau (Zps p)) ?_) ⟨⟨_,_,rfl⟩,fun j q hj=>absurd hj (Nat.not_lt_zero j)⟩ (fun i d δ hd q=>?_) fun δ' q=>?_
  ·unfold Zhy
   rw [hz,List.zip_map,List.map_map]; rfl
  ·obtain ⟨⟨z1,z2,rfl⟩,hq⟩:=q
   rw [List.getElem?_map] at hd
   cases e:z[i]? with
   | none=>rw [e] at hd; cases hd
   | some x =>
    rw [e] at hd
    cases hd
    by_cases c:x.1 < x.2
    ·refine .inl ⟨_,_,rfl,Yl (Zh5 (p:=true) (Zcf (Zg5 Za Za (decide_eq_true c)))) rfl,⟨_,_,rfl⟩,fun j q hj hqj=>?_⟩
     by_cases cj:j = i
     ·subst cj; rw [e] at hqj; cases hqj; exact c
     ·exact hq j q (by omega) hqj
    ·refine .inr ⟨_,rfl,Zsw (Zh5 (p:=false) (Zcf (Zg5 Za Za (decide_eq_false c)))) (Zil Z2 ?_)⟩
     have:Zr8 p = false:=by
      unfold Zr8
      rw [← hz,List.all_eq_false]
      exact ⟨x,List.mem_of_getElem? e,by simpa using c⟩
     rw [this]
  ·obtain ⟨_,hq⟩:=q
   refine Zil Z2 ?_
   have:Zr8 p = true:=by
    unfold Zr8
    rw [← hz,List.all_eq_true]
    intro x hx
    obtain ⟨j,hj⟩:=List.getElem?_of_mem hx
    exact decide_eq_true (hq j x (by rw [List.length_map]; exact (List.getElem?_eq_some_iff.mp hj).1) hj)
   rw [this]
 obtain ⟨d,h,rfl⟩:=key
 exact h
theorem whole {i:Int}:Told Yo [.int i] (.bool true):=.of (Zf5 i) (OT.data_fz _)
theorem Zrf (n:Int) (p:List Int):Told Zbs [.int n,Zi p] (.bool (Z2l n p)):=by
 unfold Z2l
 by_cases c:p.length = 0
 ·rw [decide_eq_true c]
  exact Zv rfl <| Zay <| Zd8 (Z48 (Zh5 (p:=true) (Zge (Zio Za rfl))) (Zcf (Zp9 (Zac Za) Z2 (decide_eq_true (by omega))))) (Z8 Z2)
 rw [decide_eq_false c]
 refine Zv rfl <| Zx (Yl (Z48 (Zh5 (p:=true) (Zge (Zio Za rfl))) (Zcf (Zp9 (Zac Za) Z2 (decide_eq_false (by omega))))) rfl) <|
  Zho (ds:=p.map PyData.int) (fun i δ=>∃ z,δ = [some (.fz (.int n)),some (.fz (Zi p)),z]) (W6 Za) ⟨_,rfl⟩ (fun i d δ hd q=>?_) fun δ' q=>?_
 ·obtain ⟨z,rfl⟩:=q
  obtain ⟨x,_,rfl⟩:=List.mem_map.mp (List.mem_of_getElem? hd)
  exact ⟨_,_,rfl,.inl (Yl (Zh5 (p:=true) (Zge (Zm (Zb Za Zf) whole))) rfl),_,rfl⟩
 ·obtain ⟨z,rfl⟩:=q
  have r:=Zm (δ:=[some (.fz (.int n)),some (.fz (Zi p)),z]) (as:=Zc (Zd 1) Zo) (Zb Za Zf) (Zlg p)
  refine Z8 ?_
  cases e:Zr8 p with
  | false=>rw [e] at r; exact Zn3 r
  | true =>
   rw [e] at r
   have a0:=Wv (p:=p) (δ:=[some (.fz (.int n)),some (.fz (Zi p)),z]) (Za (i:=1)) (Z2 (d:=.int 0)) (by decide) (by omega)
   refine Zdj r ?_
   by_cases c3:1 ≤ p.getD 0 0
   ·rw [decide_eq_true c3]
    exact Zdj (Zw7 a0 Z2 (decide_eq_true c3)) (Zg5 (Ww Za (Zno Z2) (Zva (by omega))) Za rfl)
   ·rw [decide_eq_false c3]
    exact Zn3 (Zw7 a0 Z2 (decide_eq_false c3))
theorem Zkv {n:Int} {p:List Int} (c:Z2l n p = true):Told J2 [.int n,Zi p] .none :=
 Zqi rfl (Yl (Zh5 (p:=true) (Zge (Zm (Zb Za (Zb Za Zf)) (c ▸ Zrf n p)))) rfl)
theorem Zwn {p:List Int}:Zr8 p = true ↔ p.Pairwise (· < ·):=by
 induction p with
 | nil=>exact ⟨fun _=>.nil,fun _=>rfl⟩
 | cons x p ih =>
  cases p with
  | nil=>exact ⟨fun _=>.cons (fun _ m=>nomatch m) .nil,fun _=>rfl⟩
  | cons y q =>
   have e:Zr8 (x :: y :: q) = (decide (x < y) && Zr8 (y :: q)):=rfl
   rw [e,Bool.and_eq_true,ih,decide_eq_true_eq]
   constructor
   ·rintro ⟨h1,h2⟩
    refine .cons (fun z hz=>?_) h2
    rcases List.mem_cons.mp hz with rfl | hz
    ·exact h1
    ·exact Int.lt_trans h1 (List.rel_of_pairwise_cons h2 hz)
   ·intro h
    exact ⟨List.rel_of_pairwise_cons h (.head _),h.tail⟩
theorem Ztw {n:Int} {p:List Int}:Z2l n p = true ↔ p ≠ []∧p.Pairwise (· < ·)∧∀ x ∈ p,1 ≤ x∧x < n:=by
 unfold Z2l
 simp only [Bool.and_eq_true,Bool.not_eq_true',decide_eq_false_iff_not,decide_eq_true_eq]
 rw [Zwn]
 constructor
 ·rintro ⟨h1,h2,h3,h4⟩
  refine ⟨fun z=>h1 (by rw [z]; rfl),h2,fun x hx=>?_⟩
  obtain ⟨i,hi,rfl⟩:=List.getElem_of_mem hx
  rw [List.getD_eq_getElem?_getD,List.getElem?_eq_getElem (by omega)] at h3 h4
  have pw:=List.pairwise_iff_getElem.mp h2
  simp only [Option.getD_some] at h3 h4
  constructor
  ·by_cases c:i = 0
   ·subst c; exact h3
   ·have:=pw 0 i (by omega) hi (by omega); omega
  ·by_cases c:i = p.length - 1
   ·subst c; exact h4
   ·have:=pw i (p.length - 1) hi (by omega) (by omega); omega
 ·rintro ⟨h1,h2,h3⟩
  have hp:0 < p.length:=List.length_pos_iff.mpr h1
  exact ⟨by omega,h2,(h3 _ (getD_mem hp)).1,(h3 _ (getD_mem (by omega))).2⟩
noncomputable def rl (S:Nat→Nat→Int) (i j k l:Nat):Int:=min (S i k + S j l) (S i l + S j k) - (S i j + S k l)
theorem Zes {n i j k l:Nat} {S:Nat→Nat→Int} (hi:i < n) (hj:j < n) (hk:k < n) (hl:l < n):Told Z0 [Ja n S,.int i,.int j,.int k,.int l] (.tuple [.int (S i j + S k l),.int (S i k + S j l),.int (S i l + S j k)]) :=
 Zv rfl <| Z8 <| Za2 (Zb (W4 (Zii hi hj rfl rfl rfl) (Zii hk hl rfl rfl rfl)) (Zb (W4 (Zii hi hk rfl rfl rfl) (Zii hj hl rfl rfl rfl)) (Zb (W4 (Zii hi hl rfl rfl rfl) (Zii hj hk rfl rfl rfl)) Zf))) (show 3 ≤ 1000 by decide)
theorem Z38 (i j:Int):(if j < i then j else i) = min i j:=by
 by_cases c:j < i
 ·rw [if_pos c,Int.min_eq_right (by omega)]
 ·rw [if_neg c,Int.min_eq_left (by omega)]
theorem Zx4 {a b:FE} {δ:Zh} {i j:Int} (ha:EvV a δ (.int i)) (hb:EvV b δ (.int j)):EvV (Za9 Zx6 (Zc a (Zc b Zo))) δ (.int (min i j)):=Z38 i j ▸ Zaj (Zb ha (Zb hb Zf)) (Z5e i j)
theorem Zlo (x y z:Int):Told Yj [.tuple [.int x,.int y,.int z]] (.int (min y z - x)) :=
 Zv rfl <| Z8 <| Znt (Zx4 (Ww Za Z2 rfl) (Ww Za Z2 rfl)) (Ww Za Z2 rfl)
noncomputable def Zkk (p:List Int) (i:Nat):List (Int × Int):=(List.range i).flatMap fun k=>(p.drop k).map fun y=>(p.getD k 0,y)
noncomputable def dbl (p:List Int):List (Int × Int):=Zkk p p.length
theorem Zir (p:List Int) (i:Nat):Zkk p (i + 1) = Zkk p i ++ (p.drop i).map fun y=>(p.getD i 0,y):=by
 unfold Zkk; rw [List.range_succ,List.flatMap_append,List.flatMap_cons,List.flatMap_nil,List.append_nil]
theorem Zuc (p:List Int) (i:Nat):(Zkk p i).length ≤ i * p.length:=by
 induction i with
 | zero=>exact Nat.zero_le _
 | succ i ih =>
  rw [Zir,List.length_append,List.length_map,List.length_drop,Nat.succ_mul]
  omega
theorem Zgr {p:List Int} {x:Int × Int}:x ∈ dbl p ↔ ∃ k j,k ≤ j∧j < p.length∧x = (p.getD k 0,p.getD j 0):=by
 unfold dbl Zkk
 rw [List.mem_flatMap]
 constructor
 ·rintro ⟨k,hk,h⟩
  obtain ⟨y,hy,rfl⟩:=List.mem_map.mp h
  obtain ⟨j,hj,rfl⟩:=List.getElem_of_mem hy
  rw [List.length_drop] at hj
  refine ⟨k,k + j,by omega,by omega,?_⟩
  rw [List.getElem_drop,List.getD_eq_getElem?_getD (i:=k + j),List.getElem?_eq_getElem (by omega)]; rfl
 ·rintro ⟨k,j,h1,h2,rfl⟩
  refine ⟨k,List.mem_range.mpr (by omega),List.mem_map.mpr ⟨_,?_,rfl⟩⟩
  have:p.getD j 0 = (p.drop k).getD (j - k) 0:=by
   rw [List.getD_eq_getElem?_getD,List.getD_eq_getElem?_getD,List.getElem?_drop,show k + (j - k) = j by omega]
  rw [this]
  exact getD_mem (by rw [List.length_drop]; omega)
theorem Zip {p:List Int} {x:Int × Int} (h:x ∈ dbl p):x.1 ∈ p∧x.2 ∈ p:=by
 obtain ⟨k,j,h1,h2,rfl⟩:=Zgr.mp h
 exact ⟨getD_mem (by omega),getD_mem h2⟩
theorem Zsk {p:List Int} {i:Nat} {d:PyData} (h:(p.map PyData.int)[i]? = some d):i < p.length∧d = .int (p.getD i 0):=by
 rw [List.getElem?_map] at h
 cases e:p[i]? with
 | none=>rw [e] at h; cases h
 | some x =>
  rw [e] at h
  cases h
  exact ⟨(List.getElem?_eq_some_iff.mp e).1,by rw [List.getD_eq_getElem?_getD,e]; rfl⟩
theorem Zeh (p:List Int) (hl:p.length ≤ 100):Told Wq [Zi p] (.list ((dbl p).map prD)):=by
 refine Zv rfl <| Zx Zf7 <| Zho (ds:=Zi7 (p.map PyData.int)) (fun i δ=>∃ z1 z2 z3,δ = [some (.fz (Zi p)),some (.nd (((Zkk p i).map prD).map OT.fz)),z1,z2,z3]) (Z18 Za) ⟨_,_,_,rfl⟩ (fun i d δ hd q=>?_) fun δ' q=>?_
 ·obtain ⟨z1,z2,z3,rfl⟩:=q
  obtain ⟨x,hx,rfl⟩:=Zkd hd
  obtain ⟨hi,rfl⟩:=Zsk hx
  have ln:=Zuc p i
  have l2:i * p.length ≤ 100 * 100:=Nat.mul_le_mul (by omega) hl
  refine Znq (ds:=(p.drop i).map PyData.int) (fun j δ=>∃ z,δ = [some (.fz (Zi p)),some (.nd (((Zkk p i ++ ((p.drop i).take j).map fun y=>(p.getD i 0,y)).map prD).map OT.fz)),some (.fz (.int i)),some (.fz (.int (p.getD i 0))),z]) rfl (W6 (Z2v Za (Yb7 Za) Yau (Zkw (by omega)))) ⟨z3,by rw [List.take_zero,List.map_nil,List.append_nil]; rfl⟩ (fun j d δ hd q=>?_) fun δ' q=>?_
  ·obtain ⟨z,rfl⟩:=q
   obtain ⟨hj,rfl⟩:=Zsk hd
   refine ⟨_,_,rfl,.inl (Zf1 (Za2 (Zb Za (Zb Za Zf)) (show 2 ≤ 1000 by decide)) rfl (by rw [List.length_map,List.length_map,List.length_append,List.length_map,List.length_take,List.length_drop]; omega)),some (.fz (.int ((p.drop i).getD j 0))),?_⟩
   have e:(p.drop i).take (j + 1) = (p.drop i).take j ++ [(p.drop i).getD j 0]:=by
    rw [List.take_succ,List.getD_eq_getElem?_getD,List.getElem?_eq_getElem hj]; rfl
   rw [e]
   simp only [List.map_append,List.append_assoc]
   rfl
  ·obtain ⟨z,rfl⟩:=q
   rw [List.length_map,List.take_length,← Zir]
   exact ⟨_,_,_,rfl⟩
 ·obtain ⟨z1,z2,z3,rfl⟩:=q
  refine Z67 rfl ?_
  rw [OT.data_nd,OT.map_fz]
  unfold Zi7
  rw [List.length_map,List.length_zipIdx,List.length_map]; rfl
noncomputable def away (n:Nat) (p:List Int):List Int:=((List.range n).filter fun i:Nat=>!decide ((i:Int) ∈ p)).map fun i:Nat=>(i:Int)
theorem Za1 {n:Nat} {p:List Int} {x:Int}:x ∈ away n p ↔ 0 ≤ x∧x < n∧x ∉ p:=by
 unfold away
 rw [List.mem_map]
 constructor
 ·rintro ⟨i,hi,rfl⟩
  obtain ⟨h1,h2⟩:=List.mem_filter.mp hi
  have:=List.mem_range.mp h1
  exact ⟨by omega,by omega,by simpa using h2⟩
 ·rintro ⟨h1,h2,h3⟩
  refine ⟨x.toNat,List.mem_filter.mpr ⟨List.mem_range.mpr (by omega),?_⟩,by omega⟩
  rw [show ((x.toNat:Nat):Int) = x by omega,decide_eq_false h3]; rfl
theorem Zu3 (n:Nat) (p:List Int):(away n p).length ≤ n:=by
 unfold away
 rw [List.length_map]
 exact Nat.le_trans (List.length_filter_le _ _) (Nat.le_of_eq List.length_range)
theorem Zyx {n:Nat} {p:List Int} {caps:List Nat} {it:FI} {δ:Zh} (hi:EvI it δ (Ze0 0 n)) (hn:n ≤ 1000) (hb:blk 1 caps δ = [none,some (.fz (Zi p))]):EvV (Yx 1 caps it (gNm 0) (tV (Zj (Zud true) (Zd 0) (Zd 1))) (Zd 0)) δ (Zi (away n p)):=by
 refine (Zoo (cs:=[some (.fz (Zi p))]) (List.range n) (fun i:Nat=>PyData.int (0 + (i:Int))) (fun i=>!decide ((i:Int) ∈ p)) hi (by rw [List.length_range]; omega) hb (fun x _=>Zcf (Zu Za Za ?_)) fun x _ _=>rfl).cast ?_
 ·rw [Zej,Int.zero_add]; rfl
 ·unfold away Zi
  rw [List.map_map]
  refine congrArg PyData.list (List.map_congr_left fun i _=>?_)
  show PyData.int (0 + (i:Int)) = PyData.int i
  rw [Int.zero_add]
noncomputable def rlI (S:Nat→Nat→Int) (p q:Int × Int):Int:=rl S p.1.toNat p.2.toNat q.1.toNat q.2.toNat
noncomputable def Lst (S:Nat→Nat→Int) (A B:List Int) (m:Int):Prop:=(∃ p ∈ dbl A,∃ q ∈ dbl B,m = rlI S p q)∧∀ p ∈ dbl A,∀ q ∈ dbl B,m ≤ rlI S p q
theorem Lst.exists (S:Nat→Nat→Int) {A B:List Int} {p q:Int × Int} (hp:p ∈ dbl A) (hq:q ∈ dbl B):∃ m,Lst S A B m:=by
 obtain ⟨vs,hv⟩:∃ vs,vs = (dbl A).flatMap fun p=>(dbl B).map fun q=>rlI S p q:=⟨_,rfl⟩
 have mem:∀ x,x ∈ vs ↔ ∃ p ∈ dbl A,∃ q ∈ dbl B,x = rlI S p q:=fun x=>by
  rw [hv,List.mem_flatMap]
  constructor
  ·rintro ⟨p,hp,h⟩
   obtain ⟨q,hq,rfl⟩:=List.mem_map.mp h
   exact ⟨p,hp,q,hq,rfl⟩
  ·rintro ⟨p,hp,q,hq,rfl⟩
   exact ⟨p,hp,List.mem_map.mpr ⟨q,hq,rfl⟩⟩
 have hm:=(mem _).mpr ⟨p,hp,q,hq,rfl⟩
 obtain ⟨h1,h2⟩:=Zr3 (ns:=vs) (List.length_pos_of_mem hm)
 exact ⟨Z8u vs,(mem _).mp h1,fun p hp q hq=>h2 _ ((mem _).mpr ⟨p,hp,q,hq,rfl⟩)⟩
theorem Zsq {n:Nat} {S:Nat→Nat→Int} {δ:Zh} {ea eb ec ee:FE} {a b c e:Int} (h0:δ[0]? = some (some (.fz (Ja n S)))) (h2:δ[2]? = some (some (.fz (fnD "tree_rule")))) (ha:EvV ea δ (.int a)) (hb:EvV eb δ (.int b)) (hc:EvV ec δ (.int c)) (he:EvV ee δ (.int e)) (ba:0 ≤ a∧a < n) (bb:0 ≤ b∧b < n) (bc:0 ≤ c∧c < n) (be:0 ≤ e∧e < n) :
  EvV (Zev 2 "tree_rule" Yj (Zc (Zt Z0 (Zc (Zd 0) (Zc ea (Zc eb (Zc ec (Zc ee Zo)))))) Zo)) δ (.int (rlI S (a,b) (c,e))):=by
 have t:=Zes (S:=S) (n:=n) (i:=a.toNat) (j:=b.toNat) (k:=c.toNat) (l:=e.toNat) (by omega) (by omega) (by omega) (by omega)
 rw [Int.toNat_of_nonneg ba.1,Int.toNat_of_nonneg bb.1,Int.toNat_of_nonneg bc.1,Int.toNat_of_nonneg be.1] at t
 exact Zws h2 (Zb (Zm (Zb (Za h0) (Zb ha (Zb hb (Zb hc (Zb he Zf))))) t) Zf) (Zlo _ _ _)
noncomputable def Z5v (n:Nat) (S:Nat→Nat→Int) (A B:List Int) (least:Int) (z6 z7 z8 z9:Option OT):Zh:=[some (.fz (Ja n S)),some (.fz (Zi A)),some (.fz (fnD "tree_rule")),some (.fz (Zi B)),some (.fz (.list ((dbl B).map prD))),some (.fz (.int least)),z6,z7,z8,z9]
theorem Zo0 {n:Nat} {S:Nat→Nat→Int} {A:List Int} (hn:n ≤ 100) (hl:A.length ≤ 100) (hA:∀ x ∈ A,1 ≤ x∧x < n) (ne:A ≠ []):∃ m,Lst S A (away n A) m∧Told Zz [Ja n S,Zi A,fnD "tree_rule"] (.int (max 0 m)):=by
 have hp:0 < A.length:=List.length_pos_iff.mpr ne
 have n0:0 < n:=by have:=hA _ (getD_mem hp); omega
 obtain ⟨B,hB⟩:∃ B,B = away n A:=⟨_,rfl⟩
 have b0:(0:Int) ∈ B:=by rw [hB]; exact Za1.mpr ⟨by decide,by omega,fun z=>absurd (hA 0 z).1 (by decide)⟩
 have inB:∀ x ∈ B,0 ≤ x∧x < n:=fun x hx=>by rw [hB] at hx; obtain ⟨h1,h2,_⟩:=Za1.mp hx; exact ⟨h1,h2⟩
 have inA:∀ x ∈ A,0 ≤ x∧x < n:=fun x hx=>⟨Int.le_trans (by decide) (hA x hx).1,(hA x hx).2⟩
 have a00:(A.getD 0 0,A.getD 0 0) ∈ dbl A:=Zgr.mpr ⟨0,0,Nat.le_refl _,hp,rfl⟩
 have b00:((0:Int),(0:Int)) ∈ dbl B:=by
  obtain ⟨j,hj,e⟩:=List.getElem_of_mem b0
  exact Zgr.mpr ⟨j,j,Nat.le_refl _,hj,by rw [List.getD_eq_getElem?_getD,List.getElem?_eq_getElem hj,e]; rfl⟩
 obtain ⟨m,hm⟩:=Lst.exists S a00 b00
 rw [← hB]
 refine ⟨m,hm,?_⟩
 have lB:B.length ≤ 100:=by rw [hB]; exact Nat.le_trans (Zu3 n A) hn
 have inner:∀ (p:Int × Int) (least:Int) (z8 z9:Option OT),p ∈ dbl A→(∃ p ∈ dbl A,∃ q ∈ dbl B,least = rlI S p q)→∃ δ',Jz (Zer (Zd 4)) (gTp 2 (gCn (gNm 8) (gCn (gNm 9) gNl)))
   (wE (Za9 Zx6 (Zc (Zd 5) (Zc (Zev 2 "tree_rule" Yj (Zc (Zt Z0 (Zc (Zd 0) (Zc (Zd 6) (Zc (Zd 7) (Zc (Zd 8) (Zc (Zd 9) Zo)))))) Zo)) Zo))) (Y4 5))
   (Z5v n S A B least (some (.fz (.int p.1))) (some (.fz (.int p.2))) z8 z9) = .nx δ' ∧
   ∃ least' z8 z9,δ' = (Z5v n S A B least' (some (.fz (.int p.1))) (some (.fz (.int p.2))) z8 z9)∧(∃ p ∈ dbl A,∃ q ∈ dbl B,least' = rlI S p q)∧least' ≤ least∧∀ q ∈ dbl B,least' ≤ rlI S p q:=fun p least z8 z9 hp hin=>by
  obtain ⟨p1,p2⟩:=Zip hp
  obtain ⟨δ',e,least',z8,z9,rfl,h1,h2,h3⟩:=Zcy (S:=wE (Za9 Zx6 (Zc (Zd 5) (Zc (Zev 2 "tree_rule" Yj (Zc (Zt Z0 (Zc (Zd 0) (Zc (Zd 6) (Zc (Zd 7) (Zc (Zd 8) (Zc (Zd 9) Zo)))))) Zo)) Zo))) (Y4 5)) (g:=gTp 2 (gCn (gNm 8) (gCn (gNm 9) gNl))) (it:=Zer (Zd 4)) (ds:=(dbl B).map prD) (δ:=(Z5v n S A B least (some (.fz (.int p.1))) (some (.fz (.int p.2))) z8 z9))
   (fun i δ=>∃ least' z8 z9,δ = (Z5v n S A B least' (some (.fz (.int p.1))) (some (.fz (.int p.2))) z8 z9)∧(∃ p ∈ dbl A,∃ q ∈ dbl B,least' = rlI S p q)∧least' ≤ least∧∀ j q,j < i→(dbl B)[j]? = some q→least' ≤ rlI S p q) (W6 Za) ⟨least,z8,z9,rfl,hin,Int.le_refl _,fun j q hj=>absurd hj (Nat.not_lt_zero j)⟩ fun i d δ hd q=>by
   obtain ⟨least',z8,z9,rfl,h1,h2,h3⟩:=q
   rw [List.getElem?_map] at hd
   cases e:(dbl B)[i]? with
   | none=>rw [e] at hd; cases hd
   | some q =>
    rw [e] at hd
    cases hd
    have hq:=List.mem_of_getElem? e
    obtain ⟨q1,q2⟩:=Zip hq
    refine ⟨_,_,rfl,.inl (Zr (Zx4 Za (Zsq rfl rfl Za Za Za Za (inA _ p1) (inA _ p2) (inB _ q1) (inB _ q2)))),min least' (rlI S p q),some (.fz (.int q.1)),some (.fz (.int q.2)),rfl,?_,Int.le_trans (Int.min_le_left ..) h2,fun j q' hj hq'=>?_⟩
    ·rcases Int.le_total least' (rlI S p q) with z | z
     ·rw [Int.min_eq_left z]; exact h1
     ·rw [Int.min_eq_right z]; exact ⟨p,hp,q,hq,rfl⟩
    ·by_cases cj:j = i
     ·subst cj; rw [e] at hq'; cases hq'; exact Int.min_le_right ..
     ·exact Int.le_trans (Int.min_le_left ..) (h3 j q' (Nat.lt_of_le_of_ne (Nat.le_of_lt_succ hj) cj) hq')
  refine ⟨_,e,least',z8,z9,rfl,h1,h2,fun q hq=>?_⟩
  obtain ⟨j,hj⟩:=List.getElem?_of_mem hq
  exact h3 j q (by rw [List.length_map]; exact (List.getElem?_eq_some_iff.mp hj).1) hj
 have key:∃ d,Told Zz [Ja n S,Zi A,fnD "tree_rule"] d∧d = .int (max 0 m):=by
  refine Zmw rfl <| Zat (Zr (hB ▸ Zyx (Zhp (Zb (Zaj (Zb Za Zf) (Zlx n S)) Zf) (Nat.le_trans hn (by decide))) (Nat.le_trans hn (by decide)) rfl)) <| Zat (Zr (Zm (Zb Za Zf) (Zeh B lB))) <|
   Zat (Zr (Zsq rfl rfl (Wv Za Z2 (by decide) (by omega)) (Wv Za Z2 (by decide) (by omega)) Z2 Z2 (inA _ (getD_mem hp)) (inA _ (getD_mem hp)) ⟨by decide,by omega⟩ ⟨by decide,by omega⟩)) <|
   Zt5 (ds:=(dbl A).map prD) (fun i δ=>∃ least z6 z7 z8 z9,δ = (Z5v n S A B least z6 z7 z8 z9)∧(∃ p ∈ dbl A,∃ q ∈ dbl B,least = rlI S p q)∧(∀ j p,j < i→(dbl A)[j]? = some p→∀ q ∈ dbl B,least ≤ rlI S p q)∧(0 < i→0 < least))
    (W6 (Zm (Zb Za Zf) (Zeh A hl))) ⟨_,none,none,none,none,rfl,⟨_,a00,_,b00,rfl⟩,fun j p hj=>absurd hj (Nat.not_lt_zero j),fun z=>absurd z (Nat.lt_irrefl 0)⟩ (fun i d δ hd q=>?_) fun δ' q=>?_
  ·obtain ⟨least,z6,z7,z8,z9,rfl,h1,h2,h3⟩:=q
   rw [List.getElem?_map] at hd
   cases e:(dbl A)[i]? with
   | none=>rw [e] at hd; cases hd
   | some p =>
    rw [e] at hd
    cases hd
    have hp':=List.mem_of_getElem? e
    obtain ⟨δ',e1,least',z8,z9,rfl,g1,g2,g3⟩:=inner p least z8 z9 hp' h1
    by_cases c:least' ≤ 0
    ·refine .inr ⟨_,rfl,Zat e1 (Zsw (Zcf (Z5g Za Z2 (decide_eq_true c))) (Zil Z2 ?_))⟩
     obtain ⟨p',hp2,q',hq2,e2⟩:=g1
     have:=hm.2 p' hp2 q' hq2
     rw [← e2] at this
     rw [Int.max_eq_left (Int.le_trans this c)]
    ·refine .inl ⟨_,_,rfl,Yb e1 (Yl (Zcf (Z5g Za Z2 (decide_eq_false c))) rfl),least',_,_,_,_,rfl,g1,fun j p' hj hp2 q hq=>?_,fun _=>Int.lt_of_not_ge c⟩
     by_cases cj:j = i
     ·subst cj; rw [e] at hp2; cases hp2; exact g3 q hq
     ·exact Int.le_trans g2 (h2 j p' (Nat.lt_of_le_of_ne (Nat.le_of_lt_succ hj) cj) hp2 q hq)
  ·obtain ⟨least,z6,z7,z8,z9,rfl,h1,h2,h3⟩:=q
   rw [List.length_map] at h2 h3
   refine Zil Za ?_
   have l0:=h3 (List.length_pos_of_mem a00)
   have e:least = m:=by
    refine Int.le_antisymm ?_ ?_
    ·obtain ⟨⟨p,hp',q,hq,e⟩,_⟩:=hm
     rw [e]
     obtain ⟨j,hj⟩:=List.getElem?_of_mem hp'
     exact h2 j p (List.getElem?_eq_some_iff.mp hj).1 hj q hq
    ·obtain ⟨p,hp',q,hq,e⟩:=h1
     rw [e]
     exact hm.2 p hp' q hq
   rw [← e,Int.max_eq_right (Int.le_of_lt l0)]
 obtain ⟨d,h,rfl⟩:=key
 exact h
theorem Z03 {k x y:Int} (hk:0 < k):min (k * x) (k * y) = k * min x y:=by
 rcases Int.le_total x y with h | h
 ·rw [Int.min_eq_left h,Int.min_eq_left (Int.mul_le_mul_of_nonneg_left h (by omega))]
 ·rw [Int.min_eq_right h,Int.min_eq_right (Int.mul_le_mul_of_nonneg_left h (by omega))]
theorem Zob {k x:Int} (hk:0 < k):max 0 (k * x) = k * max 0 x:=by
 rcases Int.le_total 0 x with h | h
 ·rw [Int.max_eq_right h,Int.max_eq_right (Int.mul_nonneg (by omega) h)]
 ·rw [Int.max_eq_left h,Int.max_eq_left (Int.mul_nonpos_of_nonneg_of_nonpos (by omega) h),Int.mul_zero]
theorem Zt1 {S R:Nat→Nat→Int} {k:Int} (hk:0 < k) {n i j l m:Nat} (h:∀ i j,i < n→j < n→k * S i j = R i j) (hi:i < n) (hj:j < n) (hl:l < n) (hm:m < n):rl R i j l m = k * rl S i j l m:=by
 unfold rl
 rw [← h i l hi hl,← h j m hj hm,← h i m hi hm,← h j l hj hl,← h i j hi hj,← h l m hl hm,← Int.mul_add,← Int.mul_add,← Int.mul_add,Z03 hk,← Int.mul_sub]
theorem Lst.scaled {S R:Nat→Nat→Int} {k:Int} (hk:0 < k) {n:Nat} {A B:List Int} (h:∀ i j,i < n→j < n→k * S i j = R i j) (hA:∀ x ∈ A,0 ≤ x∧x < n) (hB:∀ x ∈ B,0 ≤ x∧x < n) {m:Int} (hm:Lst S A B m):Lst R A B (k * m):=by
 have e:∀ p ∈ dbl A,∀ q ∈ dbl B,rlI R p q = k * rlI S p q:=fun p hp q hq=>by
  obtain ⟨p1,p2⟩:=Zip hp
  obtain ⟨q1,q2⟩:=Zip hq
  have:=hA _ p1
  have:=hA _ p2
  have:=hB _ q1
  have:=hB _ q2
  exact Zt1 hk h (by omega) (by omega) (by omega) (by omega)
 obtain ⟨⟨p,hp,q,hq,e1⟩,h2⟩:=hm
 exact ⟨⟨p,hp,q,hq,by rw [e p hp q hq,e1]⟩,fun p hp q hq=>by rw [e p hp q hq]; exact Int.mul_le_mul_of_nonneg_left (h2 p hp q hq) (by omega)⟩
theorem Zk8 {n:Nat} {R:Nat→Nat→Int} {b:Int} {A:List Int} (hn:n ≤ 100) (hl:A.length ≤ 100) (hA:∀ x ∈ A,1 ≤ x∧x < n) (ne:A ≠ []) (hb:0 < b) (bb:Bt 300 b) (bR:∀ i j,i < n→j < n→Bt 300 (R i j)) :
  ∃ m,Lst R A (away n A) m∧Told J1 [tbD (J8 n R b),Zi A,fnD "tree_rule"] (frD (Rat.divInt (max 0 m) (2 * b))):=by
 have hz:∀ r ∈ J8 n R b,r.length ≤ 1000:=fun r hr=>by
  unfold J8 at hr
  obtain ⟨x,_,rfl⟩:=List.mem_map.mp hr
  rw [List.length_map,List.length_range]; omega
 have hB:Z2d (J8 n R b) b:=fun r hr q hq=>by
  unfold J8 at hr
  obtain ⟨x,_,rfl⟩:=List.mem_map.mp hr
  obtain ⟨y,_,rfl⟩:=List.mem_map.mp hq
  exact Zms (by omega)
 have hN:∀ r ∈ J8 n R b,∀ q ∈ r,Bt 300 q.num:=fun r hr q hq=>by
  unfold J8 at hr
  obtain ⟨x,hx,rfl⟩:=List.mem_map.mp hr
  obtain ⟨y,hy,rfl⟩:=List.mem_map.mp hq
  exact Zk7 (by omega) (bR x y (List.mem_range.mp hx) (List.mem_range.mp hy))
 obtain ⟨m,e1,m0,hm,k,rfl⟩:=Zcv hb bb (by decide) (J8 n R b) hz hB
 have k0:0 < k:=by
  by_cases c:0 < k
  ·exact c
  ·have:=Int.mul_nonpos_of_nonneg_of_nonpos (a:=m) (b:=k) (by omega) (by omega)
   omega
 have bm:Bt 300 m:=Zgz hb ⟨k,rfl⟩ bb
 have e2:=Zei m0 bm (J8 n R (m * k)) (by rw [Zgi]; omega) hz hm hN
 have sc:∀ x y,x < n→y < n→k * scI m (Rat.divInt (R x y) (m * k)) = R x y:=fun x y hx hy=>by
  have hd:((Rat.divInt (R x y) (m * k)).den:Int) ∣ m:=hm _ (List.mem_map.mpr ⟨x,List.mem_range.mpr hx,rfl⟩) _ (List.mem_map.mpr ⟨y,List.mem_range.mpr hy,rfl⟩)
  have:=Zsi hd
  have e:((k * scI m (Rat.divInt (R x y) (m * k)):Int):Rat) = ((R x y:Int):Rat):=by
   have nk:((k:Int):Rat) ≠ 0:=by
    intro z
    have:k = 0:=by exact_mod_cast z
    omega
   have nm:((m:Int):Rat) ≠ 0:=by
    intro z
    have:m = 0:=by exact_mod_cast z
    omega
   rw [Rat.intCast_mul,this,Rat.divInt_eq_div,Rat.intCast_mul]
   rw [Rat.mul_comm,Rat.mul_assoc]
   exact Rat.div_mul_cancel (fun z=>(Rat.mul_eq_zero.mp z).elim nm nk)
  exact_mod_cast e
 obtain ⟨S,hS⟩:∃ S:Nat→Nat→Int,S = fun i j=>scI m (Rat.divInt (R i j) (m * k)):=⟨_,rfl⟩
 have sc':∀ x y,x < n→y < n→k * S x y = R x y:=fun x y hx hy=>by rw [hS]; exact sc x y hx hy
 have er:PyData.list ((J8 n R (m * k)).map fun r=>.list (r.map fun q=>.int (scI m q))) = Ja n S:=by
  rw [hS]
  unfold J8 Ja
  rw [List.map_map]
  refine congrArg PyData.list (List.map_congr_left fun i _=>?_)
  show PyData.list _ = Zuf _ _
  rw [List.map_map]; rfl
 rw [er] at e2
 obtain ⟨mS,h1,e3⟩:=Zo0 (S:=S) hn hl hA ne
 refine ⟨k * mS,h1.scaled k0 sc' (fun x hx=>⟨by have:=(hA x hx).1; omega,(hA x hx).2⟩) fun x hx=>?_,?_⟩
 ·obtain ⟨a1,a2,_⟩:=Za1.mp hx
  exact ⟨a1,a2⟩
 have eF:=Zdx (n:=302) (t:=max 0 mS) (b:=2 * m) (by omega) (Bt.mul (m:=2) (Bt.of_lt (by decide) (by decide)) bm)
 rw [Zob k0,show 2 * (m * k) = (2 * m) * k by rw [Int.mul_assoc],Zdl k0 (by omega)]
 exact Zv rfl <| Zx (Zr (Zm (Zb Za Zf) e1)) <| Zx (Zr (Zm (Zb (Zm (Zb Za (Zb Za Zf)) e2) (Zb Za (Zb Za Zf))) e3)) <| Z8 (Zm (Zb Za (Zb (Zc0 Z2 Za) Zf)) eF)
theorem Zh3 {n:Nat} {R:Nat→Nat→Int} {b:Int} {A:List Int} (hn:n ≤ 100) (hl:A.length ≤ 100) (hc:Z2l n A = true) (hb:0 < b) (bb:Bt 300 b) (bR:∀ i j,i < n→j < n→Bt 300 (R i j)) :
  ∃ m,Lst R A (away n A) m∧Told Wj [tbD (J8 n R b),Zi A] (frD (Rat.divInt (max 0 m) (2 * b))):=by
 obtain ⟨ne,_,hA⟩:=Ztw.mp hc
 obtain ⟨m,h1,e1⟩:=Zk8 (R:=R) (b:=b) hn hl hA ne hb bb bR
 have hle:Zcg [tbD (J8 n R b)] = some (.int n):=by rw [Zrk,Zgi]
 exact ⟨m,h1,Zv rfl <| Zx (Z0l (Zm (Zb (Zaj (Zb Za Zf) hle) (Zb Za Zf)) (Zkv hc))) (Z8 (Zm (Zb Za (Zb Za (Zb Z2 Zf))) e1))⟩
noncomputable def tv (R:Nat→Nat→Int) (a b c e:Int):Int:=R a.toNat c.toNat + R b.toNat e.toNat - R a.toNat b.toNat - R c.toNat e.toNat
theorem Zxf {p:List Int} {x y:Int} (hx:x ∈ p) (hy:y ∈ p):(x,y) ∈ dbl p∨(y,x) ∈ dbl p:=by
 obtain ⟨i,hi,rfl⟩:=List.getElem_of_mem hx
 obtain ⟨j,hj,rfl⟩:=List.getElem_of_mem hy
 have g:∀ k (h:k < p.length),p[k] = p.getD k 0:=fun k h=>by rw [List.getD_eq_getElem?_getD,List.getElem?_eq_getElem h]; rfl
 rw [g i hi,g j hj]
 rcases Nat.le_total i j with h | h
 ·exact .inl (Zgr.mpr ⟨i,j,h,hj,rfl⟩)
 ·exact .inr (Zgr.mpr ⟨j,i,h,hi,rfl⟩)
theorem Zrw {R:Nat→Nat→Int} (sym:∀ i j,R i j = R j i) (a b c e:Int):rlI R (a,b) (c,e) ≤ tv R a b c e∧rlI R (a,b) (c,e) ≤ tv R b a c e∧(rlI R (a,b) (c,e) = tv R a b c e∨rlI R (a,b) (c,e) = tv R a b e c):=by
 unfold rlI rl tv
 dsimp only
 rw [← Int.sub_sub,sym b.toNat a.toNat,sym e.toNat c.toNat,Int.add_comm (R b.toNat c.toNat)]
 refine ⟨Int.sub_le_sub_right (Int.sub_le_sub_right (Int.min_le_left ..) _) _,Int.sub_le_sub_right (Int.sub_le_sub_right (Int.min_le_right ..) _) _,?_⟩
 rcases Int.le_total (R a.toNat c.toNat + R b.toNat e.toNat) (R a.toNat e.toNat + R b.toNat c.toNat) with z | z
 ·rw [Int.min_eq_left z]; exact .inl rfl
 ·rw [Int.min_eq_right z]; exact .inr rfl
theorem Zyj {R:Nat→Nat→Int} (sym:∀ i j,R i j = R j i) (a b c e:Int):tv R b a e c = tv R a b c e:=by
 unfold tv
 rw [sym b.toNat a.toNat,sym e.toNat c.toNat,Int.add_comm]
noncomputable def Zch (n:Nat) (f:Nat→Nat→PyData):OT:=.nd ((List.range n).map fun i=>.nd ((List.range n).map fun j=>.fz (f i j)))
noncomputable def Zh0 (n:Nat) (f:Nat→Nat→PyData):PyData:=.list ((List.range n).map fun i=>.list ((List.range n).map fun j=>f i j))
theorem Zpn (n:Nat) (f:Nat→Nat→PyData):(Zch n f).data = Zh0 n f:=by
 unfold Zch Zh0
 rw [OT.data_nd,List.map_map]
 refine congrArg PyData.list (List.map_congr_left fun i _=>?_)
 show (OT.nd _).data = _
 rw [OT.data_nd,List.map_map]
 exact congrArg PyData.list (List.map_congr_left fun j _=>OT.data_fz _)
theorem Zwm {n:Nat} {f g:Nat→Nat→PyData} (h:∀ i j,i < n→j < n→f i j = g i j):Zch n f = Zch n g:=by
 unfold Zch
 refine congrArg OT.nd (List.map_congr_left fun i hi=>congrArg OT.nd (List.map_congr_left fun j hj=>congrArg OT.fz (h i j (List.mem_range.mp hi) (List.mem_range.mp hj))))
noncomputable def upG (f:Nat→Nat→PyData) (a b:Nat) (d:PyData):Nat→Nat→PyData:=fun i j=>if i = a∧j = b then d else f i j
theorem Z2y {α:Type} {n a:Nat} (f:Nat→α) (x:α):((List.range n).map f).set a x = (List.range n).map fun i=>if i = a then x else f i:=by
 refine List.ext_getElem? fun i=>?_
 rw [List.getElem?_set,List.length_map,List.length_range,List.getElem?_map,List.getElem?_map]
 by_cases h:a = i
 ·subst h
  by_cases c:a < n
  ·rw [if_pos rfl,if_pos c,List.getElem?_range c]; simp
  ·rw [if_pos rfl,if_neg c,List.getElem?_eq_none (by simp; omega)]; rfl
 ·rw [if_neg h]
  by_cases c:i < n
  ·rw [List.getElem?_range c]; simp [Ne.symm h]
  ·rw [List.getElem?_eq_none (by simp; omega)]; rfl
theorem Zku {i n:Nat} {e j j2:FE} {δ:Zh} {d:PyData} {f:Nat→Nat→PyData} {a b:Nat} (he:EvV e δ d) (hi:δ[i]? = some (some (Zch n f))) (hj:EvV j δ (.int a)) (ha:a < n) (hk:EvV j2 δ (.int b)) (hb:b < n) :
  Zhh i e j j2 δ = .nx (δ.set i (some (Zch n (upG f a b d)))):=by
 obtain ⟨_,e2,d2⟩:=he
 obtain ⟨_,e3,d3⟩:=hj
 obtain ⟨_,e4,d4⟩:=hk
 unfold Zhh Zch at *
 rw [Zci,e2,Yw,hi]
 dsimp only
 rw [Zci,e3,Yw,d3]
 dsimp only
 rw [Zix (by rw [List.length_map,List.length_range]; exact ha)]
 dsimp only
 rw [List.getElem?_map,List.getElem?_range ha,Option.map_some]
 dsimp only
 rw [Zci,e4,Yw,d4]
 dsimp only
 rw [Zix (by rw [List.length_map,List.length_range]; exact hb)]
 dsimp only
 rw [d2,Z2y,Z2y]
 refine congrArg RS.nx (congrArg (δ.set i) (congrArg some (congrArg OT.nd (List.map_congr_left fun k _=>?_))))
 by_cases c:k = a
 ·subst c
  rw [if_pos rfl]
  refine congrArg OT.nd (List.map_congr_left fun l _=>?_)
  unfold upG
  by_cases c2:l = b
  ·rw [if_pos c2,if_pos ⟨rfl,c2⟩]
  ·rw [if_neg c2,if_neg fun z=>c2 z.2]
 ·rw [if_neg c]
  refine congrArg OT.nd (List.map_congr_left fun l _=>?_)
  unfold upG
  rw [if_neg fun z=>c z.1]
noncomputable def Zg7 {α:Type} (I:Zh→Prop) (u:FS) (δ1:Zh) (r:Option PyData):Prop:=match r with
 | none=>∃ δ2,u δ1 = .nx δ2∧I δ2
 | some v=>∃ o δ2,u δ1 = .rt o δ2∧o.data = v
theorem Zut {α:Type} {I:Zh→Prop} {g:FG} {u:FS} (mk:α→PyData) (f:α→Option PyData):∀ (xs:List α) (δ:Zh),I δ→(∀ x ∈ xs,∀ δ,I δ→∃ δ1,g (mk x) δ = some δ1∧Zg7 (α:=α) I u δ1 (f x))→Zg7 (α:=α) I (forLoop g u (xs.map mk)) δ (xs.findSome? f):=by
 intro xs
 induction xs with
 | nil=>exact fun δ h _=>⟨δ,rfl,h⟩
 | cons x xs ih =>
  intro δ h t
  obtain ⟨δ1,e1,r⟩:=t x (.head _) δ h
  rw [List.findSome?_cons]
  cases q:f x with
  | none =>
   rw [q] at r
   obtain ⟨δ2,e2,h2⟩:=r
   have e:forLoop g u ((x :: xs).map mk) δ = forLoop g u (xs.map mk) δ2:=by
    rw [List.map_cons,forLoop,e1]
    dsimp only
    rw [e2]
   unfold Zg7
   rw [e]
   exact ih δ2 h2 fun y hy=>t y (.tail _ hy)
  | some v =>
   rw [q] at r
   obtain ⟨o,δ2,e2,d⟩:=r
   refine ⟨o,δ2,?_,d⟩
   rw [List.map_cons,forLoop,e1]
   dsimp only
   rw [e2]
theorem Zjc {α β:Type} {I J:Zh→Prop} {it:FI} {g:FG} {u:FS} {δ:Zh} (mk:α→PyData) (f:α→Option PyData) (xs:List α) (hi:EvI it δ (xs.map mk)) (h0:J δ) (hJ:∀ δ,J δ→I δ) (t:∀ x ∈ xs,∀ δ,J δ→∃ δ1,g (mk x) δ = some δ1∧Zg7 (α:=α) J u δ1 (f x)):Zg7 (α:=β) I (Jz it g u) δ (xs.findSome? f):=by
 have h:=Zut (I:=J) (g:=g) (u:=u) mk f xs δ h0 t
 cases q:xs.findSome? f with
 | none =>
  rw [q] at h
  obtain ⟨δ2,e,h2⟩:=h
  exact ⟨δ2,Zgc hi e,hJ δ2 h2⟩
 | some v =>
  rw [q] at h
  obtain ⟨o,δ2,e,d⟩:=h
  exact ⟨o,δ2,Zgc hi e,d⟩
theorem Zk2 {α:Type} {I:Zh→Prop} {t:FT} {S S':FS} {δ:Zh} {r:Option PyData} (h:EvT t δ true) (k:Zg7 (α:=α) I S δ r):Zg7 (α:=α) I (Zbe t S S') δ r:=by
 cases r with
 | none =>
  obtain ⟨δ2,e,h2⟩:=k
  exact ⟨δ2,Zbp h e,h2⟩
 | some v =>
  obtain ⟨o,δ2,e,d⟩:=k
  exact ⟨o,δ2,Zbp h e,d⟩
theorem Zlh {α:Type} {I:Zh→Prop} {t:FT} {S:FS} {δ:Zh} (h:EvT t δ false) (k:I δ):Zg7 (α:=α) I (Zbe t S fNx) δ none:=⟨δ,Yl h rfl,k⟩
theorem Zop {α:Type} {I:Zh→Prop} {e:FE} {δ:Zh} {v:PyData} (h:EvV e δ v):Zg7 (α:=α) I (wE e W3) δ (some v):=by
 obtain ⟨o,h1,h2⟩:=Zyl h
 exact ⟨o,δ,h1,h2⟩
theorem Zk0 {α:Type} {I:Zh→Prop} {S S':FS} {δ:Zh} {r:Option PyData} {v0:PyData} (h:Zg7 (α:=α) I S δ r) (k:∀ δ,I δ→Zke S' δ v0):Zke (Z3 S S') δ (r.getD v0):=by
 cases r with
 | none =>
  obtain ⟨δ2,e,h2⟩:=h
  exact Zx e (k δ2 h2)
 | some v =>
  obtain ⟨o,δ2,e,d⟩:=h
  exact Zay ⟨o,δ2,e,d⟩
noncomputable def frG (T:Nat→Nat→Rat):Nat→Nat→PyData:=fun i j=>frD (T i j)
theorem Zw1 {q r:Rat} (bq:Bt 400 q.num) (dq:Bt 400 (q.den:Int)) (br:Bt 400 r.num) (dr:Bt 400 (r.den:Int)):Told Zdz [frD q,frD r] (frD (q + r)):=by
 rw [← Zoh]
 exact Zv rfl <| Z8 <| Zm (Zb (W4 (Zu (Ww (d:=.int q.num) Za Z2 rfl) (Ww (d:=.int (r.den:Int)) Za Z2 rfl) (Zen (Zd0 bq dr))) (Zu (Ww (d:=.int r.num) Za Z2 rfl) (Ww (d:=.int (q.den:Int)) Za Z2 rfl) (Zen (Zd0 br dq)))) (Zb (Zu (Ww (d:=.int (q.den:Int)) Za Z2 rfl) (Ww (d:=.int (r.den:Int)) Za Z2 rfl) (Zen (Zd0 dq dr))) Zf)) (Zhm (Int.ne_of_gt (Int.mul_pos (Zaz q) (Zaz r))) (dq.mul dr))
theorem Zwf {q r:Rat} {m n:Nat} (bq:Bt m q.num) (dq:Bt m (q.den:Int)) (br:Bt n r.num) (dr:Bt n (r.den:Int)) (hmn:m + n ≤ 100000000:=by decide):Told Zah [frD q,frD r] (.bool (decide (q < r))) :=
 Zv rfl <| Z8 <| Zg5 (Zu (Ww (d:=.int q.num) Za Z2 rfl) (Ww (d:=.int (r.den:Int)) Za Z2 rfl) (Zen (Zd0 bq dr hmn))) (Zu (Ww (d:=.int r.num) Za Z2 rfl) (Ww (d:=.int (q.den:Int)) Za Z2 rfl) (Zen (Zd0 br dq (by omega)))) (decide_eq_decide.mpr (Zq7 q r))
structure Tq (T:Nat→Nat→Rat):Prop where
 num:∀ i j,Bt 400 (T i j).num
 den:∀ i j,Bt 400 ((T i j).den:Int)
theorem Z01 {n a b i0 i9 i10:Nat} {f:Nat→Nat→PyData} {δ:Zh} (ha:a < n) (hb:b < n) (h6:δ[i0]? = some (some (.fz (Zh0 n f)))) (h9:δ[i9]? = some (some (.fz (.int a)))) (h10:δ[i10]? = some (some (.fz (.int b)))):EvV (Yg gIx (Yg gIx (Zd i0) (Zd i9)) (Zd i10)) δ (f a b):=by
 refine Ww (Ww (Za h6) (Za h9) (d:=.list ((List.range n).map fun j=>f a j)) ?_) (Za h10) ?_
 ·unfold Zh0
  rw [Zkn,Zow,List.getElem?_map,List.getElem?_range ha]; rfl
 ·rw [Zkn,Zow,List.getElem?_map,List.getElem?_range hb]; rfl
theorem Zu8 {n:Nat} {T:Nat→Nat→Rat} (h:Tq T) {i j k:Nat} (hi:i < n) (hj:j < n) (hk:k < n):Told W9 [Zh0 n (frG T),.int i,.int j,.int k] (.bool (decide (T i j + T j k < T i k))):=by
 have e:T i j + T j k = Rat.divInt ((T i j).num * ((T j k).den:Int) + (T j k).num * ((T i j).den:Int)) (((T i j).den:Int) * ((T j k).den:Int)):=(Zoh _ _).symm
 have dp:((T i j).den:Int) * ((T j k).den:Int) ≠ 0:=Int.ne_of_gt (Int.mul_pos (Zaz _) (Zaz _))
 have bn:Bt 2000 (T i j + T j k).num:=by
  rw [e]
  exact Zk7 dp ((((h.num i j).mul (h.den j k)).add ((h.num j k).mul (h.den i j))).mono (by decide))
 have bd:Bt 2000 ((T i j + T j k).den:Int):=by
  rw [e]
  exact Zyp dp (((h.den i j).mul (h.den j k)).mono (by decide))
 exact Zv rfl <| Z8 <| Zm (Zb (Zm (Zb (Z01 (i0:=0) (i9:=1) (i10:=2) hi hj rfl rfl rfl) (Zb (Z01 (i0:=0) (i9:=2) (i10:=3) hj hk rfl rfl rfl) Zf)) (Zw1 (h.num i j) (h.den i j) (h.num j k) (h.den j k))) (Zb (Z01 (i0:=0) (i9:=1) (i10:=3) hi hk rfl rfl rfl) Zf)) (Zwf bn bd (h.num i k) (h.den i k))
noncomputable def mkI (i:Nat):PyData:=.int (i:Int)
theorem Z8b {n:Nat} {as:FA} {δ:Zh} (h:EvA as δ [.int n]) (hn:n ≤ 10):EvI (iRa as) δ ((List.range n).map mkI):=by
 have e:Ze0 0 n = (List.range n).map mkI:=by
  unfold Ze0
  exact List.map_congr_left fun i _=>congrArg PyData.int (Int.zero_add _)
 exact e ▸ Zhp h (by omega)
noncomputable def sc3 (n:Nat) (c:Nat→Nat→Nat→Bool) (v:Nat→Nat→Nat→PyData):Option PyData:=(List.range n).findSome? fun i=>(List.range n).findSome? fun j=>(List.range n).findSome? fun k=>if c i j k = true then some (v i j k) else none
theorem Z2z {n:Nat} (hn:n ≤ 10) {t:FT} {S S':FS} {d0 v0:PyData} (c:Nat→Nat→Nat→Bool) (v:Nat→Nat→Nat→PyData) (ht:∀ i j k,i < n→j < n→k < n→EvT t [some (.fz d0),some (.fz (.int n)),some (.fz (mkI i)),some (.fz (mkI j)),some (.fz (mkI k))] (c i j k)) (hS:∀ i j k,Zg7 (α:=Nat) (fun _=>False) S [some (.fz d0),some (.fz (.int n)),some (.fz (mkI i)),some (.fz (mkI j)),some (.fz (mkI k))] (some (v i j k)))
  (hS':∀ z2 z3 z4,Zke S' [some (.fz d0),some (.fz (.int n)),z2,z3,z4] v0):Zke (Z3 (Jz (iRa (Zc (Zd 1) Zo)) (gNm 2) (Jz (iRa (Zc (Zd 1) Zo)) (gNm 3) (Jz (iRa (Zc (Zd 1) Zo)) (gNm 4) (Zbe t S fNx)))) S') [some (.fz d0),some (.fz (.int n)),none,none,none] ((sc3 n c v).getD v0):=by
 refine Zk0 (α:=Nat) (I:=fun δ=>∃ z2 z3 z4,δ = [some (.fz d0),some (.fz (.int n)),z2,z3,z4]) ?_ fun δ q=>?_
 ·refine Zjc (α:=Nat) (J:=fun δ=>∃ z2 z3 z4,δ = [some (.fz d0),some (.fz (.int n)),z2,z3,z4]) mkI _ (List.range n) (Z8b (Zb Za Zf) hn) ⟨none,none,none,rfl⟩ (fun _ h=>h) fun i hi δ q=>?_
  obtain ⟨z2,z3,z4,rfl⟩:=q
  refine ⟨_,rfl,Zjc (α:=Nat) (J:=fun δ=>∃ z3 z4,δ = [some (.fz d0),some (.fz (.int n)),some (.fz (mkI i)),z3,z4]) mkI _ (List.range n) (Z8b (Zb Za Zf) hn) ⟨z3,z4,rfl⟩ (fun δ h=>by obtain ⟨z3,z4,e⟩:=h; exact ⟨_,z3,z4,e⟩) fun j hj δ q=>?_⟩
  obtain ⟨z3,z4,rfl⟩:=q
  refine ⟨_,rfl,Zjc (α:=Nat) (J:=fun δ=>∃ z4,δ = [some (.fz d0),some (.fz (.int n)),some (.fz (mkI i)),some (.fz (mkI j)),z4]) mkI _ (List.range n) (Z8b (Zb Za Zf) hn) ⟨z4,rfl⟩ (fun δ h=>by obtain ⟨z4,e⟩:=h; exact ⟨_,z4,e⟩) fun k hk δ q=>?_⟩
  obtain ⟨z4,rfl⟩:=q
  refine ⟨_,rfl,?_⟩
  have:=ht i j k (List.mem_range.mp hi) (List.mem_range.mp hj) (List.mem_range.mp hk)
  cases e:c i j k with
  | true =>
   rw [e] at this
   rw [if_pos rfl]
   exact Zk2 this (hS i j k)
  | false =>
   rw [e] at this
   rw [if_neg Bool.false_ne_true]
   exact Zlh this ⟨_,rfl⟩
 ·obtain ⟨z2,z3,z4,rfl⟩:=q
  exact hS' z2 z3 z4
theorem Z4m {n:Nat} {f:Nat→Nat→PyData} {δ:Zh} (h:δ[0]? = some (some (.fz (Zh0 n f)))):EvV (Za9 Zcg (Zc (Zd 0) Zo)) δ (.int n):=by
 have:=Zis (δ:=δ) (e:=Zd 0) (ds:=(List.range n).map fun i=>.list ((List.range n).map fun j=>f i j)) (Za h)
 rwa [List.length_map,List.length_range] at this
noncomputable def shR (T:Nat→Nat→Rat) (i j k:Nat):Bool:=decide (T i j + T j k < T i k)
noncomputable def tpI (i j k:Nat):PyData:=.tuple [.int i,.int j,.int k]
theorem Zic {n:Nat} (hn:n ≤ 10) {T:Nat→Nat→Rat} (h:Tq T):Told Wg [Zh0 n (frG T)] ((sc3 n (shR T) tpI).getD .none) :=
 Zv rfl <| Zx (Zr (Z4m rfl)) <| Z2z hn (shR T) tpI (fun i j k hi hj hk=>Zge (Zm (Zb Za (Zb Za (Zb Za (Zb Za Zf)))) (Zu8 h hi hj hk))) (fun i j k=>Zop (Za2 (Zb Za (Zb Za (Zb Za Zf))) (show 3 ≤ 1000 by decide))) fun _ _ _=>Z8 Z2
noncomputable def shI (R:Nat→Nat→Int) (i j k:Nat):Bool:=decide (R i j + R j k < R i k)
theorem Zqz (n:Nat) (R:Nat→Nat→Int) (b:Int):tbD (J8 n R b) = Zh0 n (frG fun i j=>Rat.divInt (R i j) b):=by
 unfold tbD J8 Zh0
 rw [List.map_map]
 refine congrArg PyData.list (List.map_congr_left fun i _=>?_)
 show Zl9 _ = _
 unfold Zl9
 rw [List.map_map]; rfl
theorem Zy3 {x y z b:Int} (hb:0 < b) (h:x ≤ y + z):Rat.divInt x b ≤ Rat.divInt y b + Rat.divInt z b:=by
 have e:Rat.divInt y b + Rat.divInt z b = Rat.divInt (y + z) b:=by
  rw [Rat.divInt_eq_div,Rat.divInt_eq_div,Rat.divInt_eq_div,Rat.div_def,Rat.div_def,Rat.div_def,Rat.intCast_add,Rat.add_mul]
 rw [e]
 refine (Rat.le_iff_sub_nonneg _ _).mpr ?_
 have e2:Rat.divInt (y + z) b - Rat.divInt x b = Rat.divInt (y + z - x) b:=by
  rw [Rat.divInt_eq_div,Rat.divInt_eq_div,Rat.divInt_eq_div,Rat.div_def,Rat.div_def,Rat.div_def,Rat.intCast_sub,Rat.sub_eq_add_neg,Rat.sub_eq_add_neg,Rat.add_mul,Rat.neg_mul]
 rw [e2]
 exact Zsy (by omega) hb
theorem Ztn {y z b:Int}:Rat.divInt y b + Rat.divInt z b = Rat.divInt (y + z) b:=by
 rw [Rat.divInt_eq_div,Rat.divInt_eq_div,Rat.divInt_eq_div,Rat.div_def,Rat.div_def,Rat.div_def,Rat.intCast_add,Rat.add_mul]
theorem Z26 {x y z b:Int} (hb:0 < b):Rat.divInt y b + Rat.divInt z b < Rat.divInt x b ↔ y + z < x:=by
 constructor
 ·intro h
  refine Int.not_le.mp fun z=>?_
  exact absurd h (Rat.not_lt.mpr (Zy3 hb z))
 ·intro h
  refine Rat.not_le.mp fun w=>?_
  rw [Ztn] at w
  have nb:((b:Int):Rat) ≠ 0:=by
   intro e
   have:b = 0:=by exact_mod_cast e
   omega
  have b0:(0:Rat) ≤ ((b:Int):Rat):=by exact_mod_cast Int.le_of_lt hb
  have w2:=Rat.mul_le_mul_of_nonneg_right w b0
  rw [Rat.divInt_eq_div,Rat.divInt_eq_div,Rat.div_mul_cancel nb,Rat.div_mul_cancel nb] at w2
  have:x ≤ y + z:=by exact_mod_cast w2
  omega
theorem Z8p {R:Nat→Nat→Int} {b:Int} (hb:0 < b):(shR fun i j=>Rat.divInt (R i j) b) = shI R:=by
 funext i j k
 exact decide_eq_decide.mpr (Z26 hb)
theorem Z7u {R:Nat→Nat→Int} {b:Int} (hb:0 < b) (bb:Bt 300 b) (bR:∀ i j,Bt 300 (R i j)):Tq fun i j=>Rat.divInt (R i j) b where
 num:=fun i j=>Zk7 (by omega) ((bR i j).mono (by decide))
 den:=fun i j=>Zyp (by omega) (bb.mono (by decide))
theorem Zn0 {α:Type} (f g:α→PyData) (L:List α):Zhy (L.map f) (L.map g) = L.map fun p=>.tuple [f p,g p]:=by
 induction L with
 | nil=>rfl
 | cons x L ih=>exact congrArg (_ :: ·) ih
theorem Ztv {t:FT} {a b:FE} {δ:Zh} {d:PyData} (h:EvT t δ true) (k:EvV a δ d):EvV (fIf t a b) δ d:=by
 obtain ⟨o,e1,e2⟩:=k
 exact ⟨o,by unfold fIf; unfold EvT at h; rw [h]; exact e1,e2⟩
theorem Zri {t:FT} {a b:FE} {δ:Zh} {d:PyData} (h:EvT t δ false) (k:EvV b δ d):EvV (fIf t a b) δ d:=by
 obtain ⟨o,e1,e2⟩:=k
 exact ⟨o,by unfold fIf; unfold EvT at h; rw [h]; exact e1,e2⟩
noncomputable def sdc (p:List Int × Rat) (i:Nat):Int:=if (i:Int) ∈ p.1 then 1 else 0
noncomputable def Zfl (n:Nat) (p:List Int × Rat):PyData:=.list ((List.range n).map fun i=>.int (sdc p i))
theorem Zmd {n:Nat} (hn:n ≤ 10) (p:List Int × Rat):Told Zai [.int n,Zi p.1] (Zfl n p) :=
 Zv rfl <| Z8 <| Zbu (cs:=[some (.fz (Zi p.1))]) (List.range n) (fun i:Nat=>PyData.int (0 + (i:Int))) (fun i=>.int (sdc p i)) (Zhp (Zb Za Zf) (by omega)) (by rw [List.length_range]; omega) rfl fun i _=>by
  have t:∀ {b:Bool},decide ((i:Int) ∈ p.1) = b→EvT (tV (Zj (Zud false) (Zd 0) (Zd 1))) [some (.fz (.int (0 + (i:Int)))),some (.fz (Zi p.1))] b:=fun hb=>hb ▸ Zcf (Zu Za Za (by rw [Zej,Int.zero_add]; rfl))
  unfold sdc
  by_cases c:(i:Int) ∈ p.1
  ·rw [if_pos c]; exact Ztv (t (decide_eq_true c)) Z2
  ·rw [if_neg c]; exact Zri (t (decide_eq_false c)) Z2
theorem Zlz {n:Nat} (hn:n ≤ 10) (L:List (List Int × Rat)) (hl:L.length < 64):Told J0 [.int n,Zm4 L] (.list (L.map (Zfl n))) :=
 Zv rfl <| Z8 <| Zbu (cs:=[some (.fz (.int n))]) L ctD (Zfl n) (W6 Za) (by omega) rfl fun p _=>Zm (Zb Za (Zb (Ww (d:=Zi p.1) Za Z2 rfl) Zf)) (Zmd hn p)
noncomputable def prt (i j:Nat) (p:List Int × Rat):Bool:=!decide (sdc p i = sdc p j)
noncomputable def SmL (L:List (List Int × Rat)) (i j:Nat):Rat:=((L.filter (prt i j)).map fun p=>p.2).sum
noncomputable def Zia (L:List (List Int × Rat)):Nat × Nat→PyData:=fun p=>frD (SmL L p.1 p.2)
theorem Zxn {m:Int}:∀ (L:List (List Int × Rat)),(∀ p ∈ L,(p.2.den:Int) ∣ m)→(((L.map fun p=>scI m p.2).sum:Int):Rat) = (L.map fun p=>p.2).sum * (m:Rat)
 | [],_=>by simp
 | p :: L,h=>by
  rw [List.map_cons,List.map_cons,List.sum_cons,List.sum_cons,Rat.intCast_add,Zsi (h p (.head _)),Zxn L fun q hq=>h q (.tail _ hq),Rat.add_mul]
theorem Z1b {m:Int} (hm:0 < m) (L:List (List Int × Rat)) (h:∀ p ∈ L,(p.2.den:Int) ∣ m):Rat.divInt (L.map fun p=>scI m p.2).sum m = (L.map fun p=>p.2).sum:=by
 have m0:(m:Rat) ≠ 0:=fun z=>by
  have:=Rat.intCast_inj.mp (z.trans (Rat.intCast_zero).symm)
  omega
 rw [Rat.divInt_eq_div,Zxn L h,Rat.div_def,Rat.mul_assoc,Rat.mul_inv_cancel _ m0,Rat.mul_one]
theorem Zlr (es:List Int):Z1d [Zi es] = some (.int es.sum):=by
 show (Zet (es.map PyData.int)).bind _ = _
 rw [Zao]; rfl
theorem Zpv {n:Nat} {m:Int} {L:List (List Int × Rat)} {a b:Nat} {δ:Zh} (ha:a < n) (hb:b < n) (hl:L.length < 64) (h5:δ[5]? = some (some (.fz (.list (L.map (Zfl n)))))) (h4:δ[4]? = some (some (.fz (.list (L.map fun p=>.int (scI m p.2)))))) (hk:blk 2 [7,8] δ = [none,none,some (.fz (.int a)),some (.fz (.int b))]) :
  EvV (Yx 2 [7,8] (Zdm (Zc (Zd 5) (Zc (Zd 4) Zo))) (gTp 2 (gCn (gNm 0) (gCn (gNm 1) gNl))) (tV (Zj gNe (Yg gIx (Zd 0) (Zd 2)) (Yg gIx (Zd 0) (Zd 3)))) (Zd 1)) δ (Zi ((L.filter (prt a b)).map fun p=>scI m p.2)):=by
 have hi:EvI (Zdm (Zc (Zd 5) (Zc (Zd 4) Zo))) δ (L.map fun p=>.tuple [Zfl n p,.int (scI m p.2)]):=Zgv (Za h5) (Za h4) (Zn0 (Zfl n) (fun p=>.int (scI m p.2)) L)
 obtain ⟨ts,δ',e1,z0,z1,rfl,e2⟩:=Z7y (t:=tV (Zj gNe (Yg gIx (Zd 0) (Zd 2)) (Yg gIx (Zd 0) (Zd 3)))) (e:=Zd 1) (g:=gTp 2 (gCn (gNm 0) (gCn (gNm 1) gNl))) (δ:=[none,none,some (.fz (.int a)),some (.fz (.int b))])
  (fun k acc δ=>∃ z0 z1,δ = [z0,z1,some (.fz (.int a)),some (.fz (.int b))]∧acc = (((L.take k).filter (prt a b)).map fun p=>scI m p.2).map PyData.int) (L.map fun p=>.tuple [Zfl n p,.int (scI m p.2)]) 0 [] ⟨none,none,rfl,by simp⟩ (fun k d acc δ hd q=>by
   obtain ⟨z0,z1,rfl,rfl⟩:=q
   rw [Nat.zero_add] at *
   rw [List.getElem?_map] at hd
   cases e:L[k]? with
   | none=>rw [e] at hd; cases hd
   | some p =>
    rw [e] at hd
    cases hd
    have et:L.take (k + 1) = L.take k ++ [p]:=by rw [List.take_succ,e]; rfl
    have at':∀ {c:Nat},c < n→gIx (Zfl n p) (.int (c:Int)) = some (.fz (.int (sdc p c))):=fun hc=>by
     unfold Zfl
     rw [Zkn,Zow,List.getElem?_map,List.getElem?_range hc]; rfl
    refine ⟨_,rfl,Zu5 (Zcf (Zv3 (Ww (d:=.int (sdc p a)) Za Za (at' ha)) (Ww (d:=.int (sdc p b)) Za Za (at' hb)) (p:=prt a b p) rfl)) ⟨fun c=>?_,fun c=>?_⟩⟩
    ·refine Z1v (d:=.int (scI m p.2)) Za ⟨_,_,rfl,?_⟩
     rw [et,List.filter_append,List.filter_cons_of_pos c,List.filter_nil,List.map_append,List.map_append]; rfl
    ·refine ⟨_,_,rfl,?_⟩
     rw [et,List.filter_append,List.filter_cons_of_neg (by rw [c]; decide),List.filter_nil,List.append_nil])
 rw [Nat.zero_add,List.length_map,List.take_length,List.nil_append] at e2
 refine ⟨.nd ts,?_,by rw [OT.data_nd,e2]; rfl⟩
 unfold EvI at hi
 unfold Yx
 rw [hi]
 show (if (L.map fun p=>PyData.tuple [Zfl n p,.int (scI m p.2)]).length ≤ sizeLine then _ else none) = _
 rw [if_pos (by rw [List.length_map,sizeLine_eq]; omega),hk,e1]; rfl
noncomputable def Zg0:PyData:=.tuple [.int 0,.int 1]
noncomputable def Zkz (g:Nat × Nat→PyData) (i j:Nat):PyData:=if i < j then g (i,j) else if j < i then g (j,i) else Zg0
theorem Zfh {n:Nat} (hn:n ≤ 10) (g:Nat × Nat→PyData):Yq [.int n,.list ((Y5 n).map g)] = .ok (Zch n (Zkz g)):=by
 have e0:(Yx 1 [0] (iRa (Zc (Zd 0) Zo)) (gNm 0) Zhs (Zuk (Zez (Zc (fC (.int 0)) (Zc (fC (.int 1)) Zo))) (Zd 1))) [some (.fz (.int n)),some (.fz (.list ((Y5 n).map g))),none,none,none] = some (Zch n fun _ _=>Zg0,[some (.fz (.int n)),some (.fz (.list ((Y5 n).map g))),none,none,none]):=by
  have er:∀ v:Option OT,(Zuk (Zez (Zc (fC (.int 0)) (Zc (fC (.int 1)) Zo))) (Zd 1)) [v,some (.fz (.int n))] = some (.nd (List.replicate n (.fz Zg0)),[v,some (.fz (.int n))]):=fun v=>by
   have e2:(Zez (Zc (fC (.int 0)) (Zc (fC (.int 1)) Zo))) [v,some (.fz (.int n))] = fC Zg0 [v,some (.fz (.int n))]:=by
    rw [Zr7]
    exact if_pos (e:=none) (show 2 ≤ sizeLine by rw [sizeLine_eq]; omega)
   rw [← Zxe (d:=Zg0) (n:=n) (by omega)]
   rw [Zm7,Zm7,e2]
  rw [Zj2 (cs:=[some (.fz (.int n))]) (List.range n) (fun i:Nat=>PyData.int (0 + (i:Int))) (fun _=>.nd (List.replicate n (.fz Zg0))) (Zhp (Zb Za Zf) (by omega)) (by rw [List.length_range,sizeLine_eq]; omega) rfl fun x _=>er _]
  unfold Zch
  have ec:((List.range n).map fun _=>OT.fz Zg0) = List.replicate n (OT.fz Zg0):=by rw [List.map_const',List.length_range]
  rw [← ec]
 have key:∃ δ',Ys [some (.fz (.int n)),some (.fz (.list ((Y5 n).map g))),none,none,none] = .rt (Zch n (Zkz g)) δ':=by
  obtain ⟨δ',e1,f,z3,z4,rfl,h1,h2⟩:=Zcy (it:=Zdm (Zc (Zt Yz (Zc (Zd 0) Zo)) (Zc (Zd 1) Zo))) (g:=gTp 2 (gCn (gNm 3) (gCn (gNm 4) gNl))) (S:=Z3 (Zhh 2 (Zd 4) (Yg gIx (Zd 3) (fC (.int 0))) (Yg gIx (Zd 3) (fC (.int 1)))) (Zhh 2 (Zd 4) (Yg gIx (Zd 3) (fC (.int 1))) (Yg gIx (Zd 3) (fC (.int 0)))))
   (δ:=[some (.fz (.int n)),some (.fz (.list ((Y5 n).map g))),some (Zch n fun _ _=>Zg0),none,none]) (ds:=(Y5 n).map fun p=>.tuple [ptD p,g p])
   (fun k δ=>∃ (f:Nat→Nat→PyData) (z3 z4:Option OT),δ = [some (.fz (.int n)),some (.fz (.list ((Y5 n).map g))),some (Zch n f),z3,z4]∧(∀ i,f i i = Zg0)∧∀ l p,l < k→(Y5 n)[l]? = some p→f p.1 p.2 = g p∧f p.2 p.1 = g p)
   (Zgv (Zm (Zb Za Zf) (Zha n (by omega))) Za (Zn0 ptD g _)) ⟨_,none,none,rfl,fun _=>rfl,fun l p hl=>absurd hl (Nat.not_lt_zero l)⟩ (fun k d δ hd q=>by
    obtain ⟨f,z3,z4,rfl,h1,h2⟩:=q
    rw [List.getElem?_map] at hd
    cases e:(Y5 n)[k]? with
    | none=>rw [e] at hd; cases hd
    | some p =>
     rw [e] at hd
     cases hd
     obtain ⟨m1,m2⟩:=Zfa (List.mem_of_getElem? e)
     have i0:∀ {δ:Zh},δ[3]? = some (some (.fz (ptD p)))→EvV (Yg gIx (Zd 3) (fC (.int 0))) δ (.int (p.1:Int)):=fun h=>Ww (Za h) Z2 rfl
     have i1:∀ {δ:Zh},δ[3]? = some (some (.fz (ptD p)))→EvV (Yg gIx (Zd 3) (fC (.int 1))) δ (.int (p.2:Int)):=fun h=>Ww (Za h) Z2 rfl
     refine ⟨_,_,rfl,.inl (Yb (Zku (n:=n) (f:=f) (a:=p.1) (b:=p.2) (d:=g p) Za rfl (i0 rfl) (by omega) (i1 rfl) (by omega)) (Zku (n:=n) (a:=p.2) (b:=p.1) (d:=g p) Za rfl (i1 rfl) (by omega) (i0 rfl) (by omega))),_,_,_,rfl,fun i=>?_,fun l q hl hq=>?_⟩
     ·unfold upG
      rw [if_neg (by omega),if_neg (by omega)]
      exact h1 i
     ·by_cases c:q = p
      ·subst c
       unfold upG
       exact ⟨by split <;> (try rfl) ; rw [if_pos ⟨rfl,rfl⟩],by rw [if_pos ⟨rfl,rfl⟩]⟩
      ·have hl':l < k:=by
        rcases Nat.lt_or_ge l k with z | z
        ·exact z
        ·have:l = k:=by omega
         subst this
         rw [e] at hq
         cases hq
         exact absurd rfl c
       obtain ⟨q1,q2⟩:=Zfa (List.mem_of_getElem? hq)
       have ne:¬ (q.1 = p.1∧q.2 = p.2):=fun z=>c (Prod.ext z.1 z.2)
       obtain ⟨g1,g2⟩:=h2 l q hl' hq
       unfold upG
       rw [if_neg (by omega),if_neg (by omega),if_neg (by omega),if_neg (by omega)]
       exact ⟨g1,g2⟩)
  rw [List.length_map] at h2
  refine ⟨[some (.fz (.int n)),some (.fz (.list ((Y5 n).map g))),none,z3,z4],Yb (Zg4 e0) (Yb e1 ?_)⟩
  have eG:Zch n f = Zch n (Zkz g):=Zwm fun i j hi hj=>?_
  ·rw [eG]; rfl
  unfold Zkz
  rcases Nat.lt_trichotomy i j with c | c | c
  ·obtain ⟨l,hl⟩:=List.getElem?_of_mem (Zik c hj)
   rw [if_pos c]
   exact (h2 l _ (List.getElem?_eq_some_iff.mp hl).1 hl).1
  ·subst c
   rw [if_neg (Nat.lt_irrefl _),if_neg (Nat.lt_irrefl _)]
   exact h1 i
  ·obtain ⟨l,hl⟩:=List.getElem?_of_mem (Zik c hi)
   rw [if_neg (by omega),if_pos c]
   exact (h2 l _ (List.getElem?_eq_some_iff.mp hl).1 hl).2
 obtain ⟨δ',e⟩:=key
 unfold Yq
 rw [Zg1 (np:=2) (by rfl)]
 show (Ys [some (.fz (.int n)),some (.fz (.list ((Y5 n).map g))),none,none,none]).told = _
 rw [e]; rfl
theorem Z0x {F:FD} {as:FA} {δ:Zh} {ds:List PyData} {o:OT} (h:EvA as δ ds) (k:F ds = .ok o):wE (Zt F as) W3 δ = .rt o δ:=by rw [Zci,Z90 h k]; rfl
theorem Zm2 {n:Nat} (hn:n ≤ 10) (L:List (List Int × Rat)) (hl:L.length < 64) {B:Int} (B0:0 < B) (bB:Bt 200 B) (hw:∀ p ∈ L,(p.2.den:Int) ∣ B∧Bt 200 p.2.num):Wl [.int n,Zm4 L] = .ok (Zch n (Zkz (Zia L))):=by
 obtain ⟨m,eB,m0,m1,m2⟩:=Zb4 (n:=200) B0 bB (by decide) (L.map fun p=>(p.2.num,(p.2.den:Int))) fun p hp=>by
  obtain ⟨q,hq,rfl⟩:=List.mem_map.mp hp
  exact ⟨Zaz q.2,(hw q hq).1⟩
 have bm:Bt 200 m:=Zgz B0 m2 bB
 have dm:∀ p ∈ L,(p.2.den:Int) ∣ m:=fun p hp=>m1 (p.2.num,(p.2.den:Int)) (List.mem_map.mpr ⟨p,hp,rfl⟩)
 have eW:(L.map fun p=>(p.2.num,(p.2.den:Int))).map prD = (L.map fun p=>p.2).map frD:=by rw [List.map_map,List.map_map]; rfl
 rw [eW] at eB
 have eT:=Zfz (n:=200) m0 bm (L.map fun p=>p.2) (by rw [List.length_map]; omega) fun q hq=>by
  obtain ⟨p,hp,rfl⟩:=List.mem_map.mp hq
  exact ⟨dm p hp,(hw p hp).2⟩
 rw [List.map_map] at eT
 have lp:(Y5 n).length ≤ 100:=by
  have:=Zg8 n n
  have e:Zjv n n = Y5 n:=rfl
  rw [e] at this
  exact Nat.le_trans this (Nat.mul_le_mul hn hn)
 have key:∃ δ',Jp [some (.fz (.int n)),some (.fz (Zm4 L)),none,none,none,none,none,none,none,none] = .rt (Zch n (Zkz (Zia L))) δ':=by
  obtain ⟨δ',e1,z7,z8,z9,rfl⟩:=Zcy (it:=Zer (Zt Yz (Zc (Zd 0) Zo))) (g:=gTp 2 (gCn (gNm 7) (gCn (gNm 8) gNl)))
   (S:=Z3 (wE (Yx 2 [7,8] (Zdm (Zc (Zd 5) (Zc (Zd 4) Zo))) (gTp 2 (gCn (gNm 0) (gCn (gNm 1) gNl))) (tV (Zj gNe (Yg gIx (Zd 0) (Zd 2)) (Yg gIx (Zd 0) (Zd 3)))) (Zd 1)) (Y4 9)) (Y9 6 (Zt Yd (Zc (Za9 Z1d (Zc (Zd 9) Zo)) (Zc (Zd 3) Zo)))))
   (δ:=[some (.fz (.int n)),some (.fz (Zm4 L)),some (.fz (.list ((L.map fun p=>p.2).map frD))),some (.fz (.int m)),some (.fz (.list (L.map fun p=>.int (scI m p.2)))),some (.fz (.list (L.map (Zfl n)))),some (.nd []),none,none,none]) (ds:=(Y5 n).map ptD)
   (fun k δ=>∃ z7 z8 z9,δ = [some (.fz (.int n)),some (.fz (Zm4 L)),some (.fz (.list ((L.map fun p=>p.2).map frD))),some (.fz (.int m)),some (.fz (.list (L.map fun p=>.int (scI m p.2)))),some (.fz (.list (L.map (Zfl n)))),some (.nd ((((Y5 n).take k).map (Zia L)).map OT.fz)),z7,z8,z9])
   (W6 (Zm (Zb Za Zf) (Zha n (by omega)))) ⟨none,none,none,rfl⟩ (fun k d δ hd q=>by
    obtain ⟨z7,z8,z9,rfl⟩:=q
    rw [List.getElem?_map] at hd
    cases e:(Y5 n)[k]? with
    | none=>rw [e] at hd; cases hd
    | some p =>
     rw [e] at hd
     cases hd
     obtain ⟨q1,q2⟩:=Zfa (List.mem_of_getElem? e)
     have eF:Told Yd [.int ((L.filter (prt p.1 p.2)).map fun p=>scI m p.2).sum,.int m] (Zia L p):=by
      have:=Zdx (t:=((L.filter (prt p.1 p.2)).map fun p=>scI m p.2).sum) (b:=m) (n:=200) (by omega) bm
      rwa [Z1b m0 _ fun p hp=>dm p (List.mem_filter.mp hp).1] at this
     have et:(Y5 n).take (k + 1) = (Y5 n).take k ++ [p]:=by rw [List.take_succ,e]; rfl
     refine ⟨_,_,rfl,.inl (Yb (Zr (Zpv (n:=n) (m:=m) (L:=L) (a:=p.1) (b:=p.2) (by omega) q2 hl rfl rfl rfl)) (Zf1 (d:=Zia L p) (Zm (Zb (Zaj (Zb Za Zf) (Zlr _)) (Zb Za Zf)) eF) rfl ?_)),some (.fz (.int (p.1:Int))),some (.fz (.int (p.2:Int))),some (.fz (Zi ((L.filter (prt p.1 p.2)).map fun p=>scI m p.2))),?_⟩
     ·rw [List.length_map,List.length_map]
      exact Nat.le_trans (List.length_take_le' ..) (by omega)
     ·rw [et,List.map_append,List.map_append]; rfl)
  rw [List.length_map,List.take_length] at e1
  have ef:(OT.nd (((Y5 n).map (Zia L)).map OT.fz)).data = .list ((Y5 n).map (Zia L)):=by rw [OT.data_nd,OT.map_fz]
  refine ⟨[some (.fz (.int n)),some (.fz (Zm4 L)),some (.fz (.list ((L.map fun p=>p.2).map frD))),some (.fz (.int m)),some (.fz (.list (L.map fun p=>.int (scI m p.2)))),some (.fz (.list (L.map (Zfl n)))),some (.fz (.list ((Y5 n).map (Zia L)))),z7,z8,z9],?_⟩
  refine Yb (Zr (EvV.cast (Zbu (cs:=[]) L ctD (fun p=>frD p.2) (W6 Za) (by omega) rfl fun p _=>Ww (d:=frD p.2) Za Z2 rfl) (y:=.list ((L.map fun p=>p.2).map frD)) (by rw [List.map_map]; rfl))) ?_
  refine Yb (Zr (Zm (Zb Za Zf) eB)) (Yb (Zr (Zm (Zb Za (Zb Za Zf)) eT)) (Yb (Zr (Zm (Zb Za (Zb Za Zf)) (Zlz hn L hl))) (Yb Zf7 (Yb e1 (Zkh rfl ?_)))))
  rw [ef]
  exact Z0x (Zb Za (Zb Za Zf)) (Zfh hn (Zia L))
 obtain ⟨δ',e⟩:=key
 unfold Wl
 rw [Zg1 (np:=2) (by rfl)]
 show (Jp [some (.fz (.int n)),some (.fz (Zm4 L)),none,none,none,none,none,none,none,none]).told = _
 rw [e]; rfl
noncomputable def sdL:Nat→List (List Int)
 | 0=>[[]]
 | k + 1=>sdL k ++ (sdL k).map fun s=>s ++ [(k:Int) + 1]
theorem Zys (k:Nat):(sdL k).length = 2 ^ k:=by
 induction k with
 | zero=>rfl
 | succ k ih=>rw [sdL,List.length_append,List.length_map,ih,Nat.pow_succ]; omega
theorem Zlk (k:Nat):∀ s ∈ sdL k,s.length ≤ k∧s.Pairwise (· < ·)∧∀ x ∈ s,1 ≤ x∧x ≤ k:=by
 induction k with
 | zero=>intro s hs; rw [List.mem_singleton.mp hs]; exact ⟨Nat.le_refl _,.nil,fun _ m=>nomatch m⟩
 | succ k ih =>
  intro s hs
  rcases List.mem_append.mp hs with hs | hs
  ·obtain ⟨h1,h2,h3⟩:=ih s hs
   exact ⟨by omega,h2,fun x hx=>by have:=h3 x hx; omega⟩
  ·obtain ⟨r,hr,rfl⟩:=List.mem_map.mp hs
   obtain ⟨h1,h2,h3⟩:=ih r hr
   refine ⟨by rw [List.length_append]; exact Nat.succ_le_succ h1,List.pairwise_append.mpr ⟨h2,List.pairwise_singleton ..,fun x hx y hy=>?_⟩,fun x hx=>?_⟩
   ·rw [List.mem_singleton.mp hy]
    have:=h3 x hx
    omega
   ·rcases List.mem_append.mp hx with z | z
    ·have:=h3 x z; omega
    ·rw [List.mem_singleton.mp z]; omega
theorem members {α β:Type} {f:α→β} {L:List α}:∀ {l:List β},(∀ d ∈ l,∃ p ∈ L,d = f p)→∃ L1:List α,l = L1.map f∧(∀ p ∈ L1,p ∈ L)∧L1.length = l.length
 | [],_=>⟨[],rfl,(fun _ m=>nomatch m),rfl⟩
 | d :: l,h=>by
  obtain ⟨p,hp,rfl⟩:=h d (.head _)
  obtain ⟨L1,e,h1,h2⟩:=members fun d m=>h d (.tail _ m)
  exact ⟨p :: L1,by rw [e]; rfl,fun q hq=>(List.mem_cons.mp hq).elim (fun e=>e ▸ hp) (h1 q),congrArg Nat.succ h2⟩
theorem sorted_ints (L:List (List Int)) (h:L.length < 64):∃ L1:List (List Int),Ziv kdL ltI [.list (L.map Zi)] = some (.nd ((L1.map Zi).map OT.fz))∧(∀ p ∈ L1,p ∈ L)∧L1.length = L.length:=by
 have pm:=Zhe PyData.none (lk kdL ltI (L.map Zi)) (L.map Zi)
 obtain ⟨L1,e,h1,h2⟩:=members (f:=Zi) (L:=L) (l:=sLay PyData.none (lk kdL ltI (L.map Zi)) (L.map Zi)) fun d m=>by
  obtain ⟨p,hp,rfl⟩:=List.mem_map.mp (pm.mem_iff.mp m)
  exact ⟨p,hp,rfl⟩
 refine ⟨L1,?_,h1,by rw [h2,pm.length_eq,List.length_map]⟩
 show (if (decide ((L.map Zi).length < 64) && (L.map Zi).all fun d=>(kdL d).isSome) = true then some (OT.nd ((sLay PyData.none (lk kdL ltI (L.map Zi)) (L.map Zi)).map OT.fz)) else none) = _
 rw [if_pos,e]
 rw [Bool.and_eq_true,decide_eq_true_eq,List.length_map,List.all_eq_true]
 refine ⟨h,fun d m=>?_⟩
 obtain ⟨p,_,rfl⟩:=List.mem_map.mp m
 show (Zet (p.map PyData.int)).isSome = true
 rw [Zao]; rfl
noncomputable def tpN (l:List Nat):PyData:=.tuple (l.map fun x:Nat=>.int (x:Int))
noncomputable def lst (p:List Nat):Nat:=if p.length > 0 then p.getD (p.length - 1) 0 + 1 else 0
noncomputable def ext (n:Nat) (p:List Nat):List (List Nat):=(List.range (n - lst p)).map fun j=>p ++ [lst p + j]
noncomputable def rs (n:Nat):Nat→List (List Nat)
 | 0=>[[]]
 | m + 1=>(rs n m).flatMap (ext n)
theorem Z51 {n k:Nat} (hn:n ≤ 10) (hk:k ≤ 4):(rs n k).length ≤ 300:=by
 have:∀ m:Fin 11,∀ k:Fin 5,(rs m k).length ≤ 300:=by decide +kernel
 exact this ⟨n,by omega⟩ ⟨k,by omega⟩
theorem Zq8 {n:Nat}:∀ {k:Nat} {p:List Nat},p ∈ rs n k→p.length = k∧p.Pairwise (· < ·)∧(∀ x ∈ p,x < n)∧∀ x ∈ p,x < lst p
 | 0,p,h=>by
  rw [List.mem_singleton.mp h]
  exact ⟨rfl,.nil,(fun _ m=>nomatch m),fun _ m=>nomatch m⟩
 | k + 1,p,h=>by
  obtain ⟨q,hq,hp⟩:=List.mem_flatMap.mp h
  obtain ⟨h1,h2,h3,h4⟩:=Zq8 hq
  obtain ⟨j,hj,rfl⟩:=List.mem_map.mp hp
  have hj:=List.mem_range.mp hj
  have hl:lst (q ++ [lst q + j]) = lst q + j + 1:=by
   show (if (q ++ [lst q + j]).length > 0 then (q ++ [lst q + j]).getD ((q ++ [lst q + j]).length - 1) 0 + 1 else 0) = _
   rw [if_pos (by rw [List.length_append]; exact Nat.succ_pos _),List.length_append,List.length_singleton,Nat.add_sub_cancel,List.getD_eq_getElem?_getD,List.getElem?_append_right (Nat.le_refl _),Nat.sub_self]; rfl
  refine ⟨by rw [List.length_append,h1]; rfl,?_,fun x hx=>?_,fun x hx=>?_⟩
  ·rw [List.pairwise_append]
   exact ⟨h2,List.pairwise_singleton _ _,fun x hx y hy=>by rw [List.mem_singleton.mp hy]; have:=h4 x hx; omega⟩
  ·rcases List.mem_append.mp hx with hx | hx
   ·exact h3 x hx
   ·rw [List.mem_singleton.mp hx]; omega
  ·rw [hl]
   rcases List.mem_append.mp hx with hx | hx
   ·have:=h4 x hx; omega
   ·rw [List.mem_singleton.mp hx]; omega
theorem Z24 {n:Nat} {p:List Nat} (h:∀ x ∈ p,x < n):lst p ≤ n:=by
 unfold lst
 by_cases c:p.length > 0
 ·rw [if_pos c,List.getD_eq_getElem?_getD,List.getElem?_eq_getElem (by omega)]
  exact h _ (List.getElem_mem (by omega))
 ·rw [if_neg c]; exact Nat.zero_le _
theorem Zw5 {p:List Nat} {δ:Zh} (h:δ[5]? = some (some (.fz (tpN p)))):EvV (fIf (tV (Zj gGt (Za9 Zcg (Zc (Zd 5) Zo)) (fC (.int 0)))) (Zj Zdp (Yg gIx (Zd 5) (fUn Zue (fC (.int 1)))) (fC (.int 1))) (fC (.int 0))) δ (.int (lst p:Nat)):=by
 have ln:Zcg [tpN p] = some (.int (p.length:Nat)):=by unfold tpN; rw [Zxv,List.length_map]
 unfold lst
 by_cases c:p.length > 0
 ·rw [if_pos c]
  refine Ztv (Zcf (Zmi (Zaj (Zb (Za h) Zf) ln) Z2 (decide_eq_true (by omega)))) ((W4 (Ww (d:=.int (p.getD (p.length - 1) 0:Nat)) (Za h) (Zno Z2) ?_) Z2).cast (by rw [Int.natCast_add]; rfl))
  unfold tpN
  rw [Z88]
  have:atI (p.map fun x:Nat=>PyData.int (x:Int)) (-1) = some (.int (p.getD (p.length - 1) 0:Nat)):=by
   unfold atI ixN
   rw [List.length_map,if_neg (by decide),if_pos (by omega),Option.bind_some,List.getElem?_map,show (-1 + (p.length:Int)).toNat = p.length - 1 by omega,List.getD_eq_getElem?_getD,List.getElem?_eq_getElem (by omega)]; rfl
  rw [this]; rfl
 ·rw [if_neg c]
  exact Zri (Zcf (Zmi (Zaj (Zb (Za h) Zf) ln) Z2 (decide_eq_false (by omega)))) Z2
theorem Zqr {n m:Nat} (hn:n ≤ 10) (hm:m ≤ 4):Told Wt [.int n,.int m] (.list ((rs n m).map tpN)):=by
 refine Zv rfl <| Zx (Zr (d:=.list [tpN []]) (Zgb (Zb (Za2 Zf (show 0 ≤ 1000 by decide)) Zf) (show 1 ≤ 1000 by decide))) ?_
 refine Zho (ds:=Ze0 0 m) (fun k δ=>∃ z3 z4 z5 z6,δ = [some (.fz (.int n)),some (.fz (.int m)),some (.fz (.list ((rs n k).map tpN))),z3,z4,z5,z6]) (Zhp (Zb Za Zf) (by omega)) ⟨none,none,none,none,rfl⟩ (fun k d δ hd q=>?_) fun δ' q=>by obtain ⟨z3,z4,z5,z6,rfl⟩:=q; rw [Y8]; exact Z8 Za
 obtain ⟨z3,z4,z5,z6,rfl⟩:=q
 obtain ⟨hk,rfl⟩:=Jv hd
 rw [Int.zero_add]
 have L1:=Z51 (k:=k + 1) hn (by omega)
 obtain ⟨δ',e,z5',z6',rfl⟩:=Zcy (it:=Zer (Zd 2)) (g:=gNm 5) (S:=Z3 (wE (fIf (tV (Zj gGt (Za9 Zcg (Zc (Zd 5) Zo)) (fC (.int 0)))) (Zj Zdp (Yg gIx (Zd 5) (fUn Zue (fC (.int 1)))) (fC (.int 1))) (fC (.int 0))) (Y4 6))
  (Ze6 4 (Yx 1 [5] (iRb (Zc (Zd 6) (Zc (Zd 0) Zo))) (gNm 0) Zhs (Yg Zpu (Zd 1) (Zez (Zc (Zd 0) Zo)))))) (δ:=[some (.fz (.int n)),some (.fz (.int m)),some (.fz (.list ((rs n k).map tpN))),some (.fz (.int k)),some (.nd []),z5,z6]) (ds:=(rs n k).map tpN) (fun t δ=>∃ z5 z6,δ = [some (.fz (.int n)),some (.fz (.int m)),some (.fz (.list ((rs n k).map tpN))),some (.fz (.int k)),some (.nd (((((rs n k).take t).flatMap (ext n)).map tpN).map OT.fz)),z5,z6]) (W6 Za) ⟨z5,z6,rfl⟩ (fun t d δ hd q=>by
   obtain ⟨z5,z6,rfl⟩:=q
   rw [List.getElem?_map] at hd
   obtain ⟨p,hp,rfl⟩:=Option.map_eq_some_iff.mp hd
   obtain ⟨pl,_,px,_⟩:=Zq8 (List.mem_of_getElem? hp)
   have tk:(rs n k).take (t + 1) = (rs n k).take t ++ [p]:=by rw [List.take_succ,hp]; rfl
   have ls:(((rs n k).take (t + 1)).flatMap (ext n)).length ≤ 300:=by
    have:((rs n k).take (t + 1)).flatMap (ext n) ++ ((rs n k).drop (t + 1)).flatMap (ext n) = rs n (k + 1):=by rw [← List.flatMap_append,List.take_append_drop]; rfl
    have:=congrArg List.length this
    rw [List.length_append] at this
    omega
   rw [tk,List.flatMap_append,List.length_append] at ls
   have le:ext n p = [p].flatMap (ext n):=by rw [List.flatMap_cons,List.flatMap_nil,List.append_nil]
   have lx:(ext n p).length = n - lst p:=by unfold ext; rw [List.length_map,List.length_range]
   rw [← le,lx] at ls
   obtain ⟨rr,e1,e2⟩:=Zti (δ:=[some (.fz (.int n)),some (.fz (.int m)),some (.fz (.list ((rs n k).map tpN))),some (.fz (.int k)),some (.nd (((((rs n k).take t).flatMap (ext n)).map tpN).map OT.fz)),some (.fz (tpN p)),some (.fz (.int (lst p:Nat)))]) (caps:=[5]) (cs:=[some (.fz (tpN p))]) (me:=Yg Zpu (Zd 1) (Zez (Zc (Zd 0) Zo))) (it:=iRb (Zc (Zd 6) (Zc (Zd 0) Zo))) (List.range (n - lst p)) (fun j:Nat=>PyData.int ((lst p:Nat) + (j:Int))) (fun j=>tpN (p ++ [lst p + j])) (by
     exact Zu0 (m:=lst p) (Zb Za (Zb Za Zf)) (Nat.le_trans (Z24 px) (by omega)) (by omega)) (by rw [List.length_range]; omega) rfl fun j _=>(Zsm (o:=.fz (tpN (p ++ [lst p + j]))) Za (Za2 (Zb Za Zf) (show 1 ≤ 1000 by decide)) (by
     unfold tpN
     show (if (p.map fun x:Nat=>PyData.int (x:Int)).length + [PyData.int ((lst p:Nat) + (j:Int))].length ≤ sizeLine then some (OT.fz (.tuple ((p.map fun x:Nat=>PyData.int (x:Int)) ++ [PyData.int ((lst p:Nat) + (j:Int))]))) else none) = _
     rw [if_pos (by rw [sizeLine_eq,List.length_map,List.length_singleton]; omega),List.map_append,List.map_singleton,Int.natCast_add]) (OT.data_fz _))
   refine ⟨_,_,rfl,.inl (Yb (Zr (Zw5 rfl)) (Zrc e1 e2 rfl (by rw [List.length_map,List.length_map,List.length_map,List.length_range]; omega))),some (.fz (tpN p)),some (.fz (.int (lst p:Nat))),?_⟩
   rw [tk,List.flatMap_append,← le,List.map_append,List.map_append]
   have em:(List.range (n - lst p)).map (fun j=>tpN (p ++ [lst p + j])) = (ext n p).map tpN:=by unfold ext; rw [List.map_map]; rfl
   rw [em]; rfl)
 rw [List.length_map,List.take_length] at e
 refine ⟨_,_,rfl,.inl (Yb Zf7 (Yb e (Zkh rfl (Zr Za)))),some (.fz (.int k)),some (.fz (.list ((rs n (k + 1)).map tpN))),z5',z6',?_⟩
 rw [OT.data_nd,OT.map_fz]; rfl
noncomputable def Cp (s t:List Int):Prop:=(∀ x ∈ s,x ∉ t)∨(∀ x ∈ s,x ∈ t)∨∀ x ∈ t,x ∈ s
theorem Cp.symm {s t:List Int} (h:Cp s t):Cp t s:=by
 rcases h with h | h | h
 ·exact .inl fun x h1 h2=>h x h2 h1
 ·exact .inr (.inr h)
 ·exact .inr (.inl h)
structure Zmk (n:Nat) (s:List Int):Prop where
 ne:s ≠ []
 up:s.Pairwise (· < ·)
 pt:∀ x ∈ s,1 ≤ x∧x < n
structure Lam (n:Nat) (Ls:List (List Int)):Prop where
 ok:∀ s ∈ Ls,Zmk n s
 cp:∀ s ∈ Ls,∀ t ∈ Ls,Cp s t
theorem Zqh:∀ {s t:List Int},s.Pairwise (· < ·)→t.Pairwise (· < ·)→(∀ x,x ∈ s ↔ x ∈ t)→s = t:=by
 intro s
 induction s with
 | nil =>
  intro t _ _ h
  cases t with
  | nil=>rfl
  | cons y t=>exact absurd ((h y).mpr (.head _)) (fun z=>nomatch z)
 | cons x s ih =>
  intro t hs ht h
  cases t with
  | nil=>exact absurd ((h x).mp (.head _)) (fun z=>nomatch z)
  | cons y t =>
   have h1:∀ {z:Int},z ∈ s→x < z:=fun m=>List.rel_of_pairwise_cons hs m
   have h2:∀ {z:Int},z ∈ t→y < z:=fun m=>List.rel_of_pairwise_cons ht m
   have e:x = y:=by
    rcases List.mem_cons.mp ((h x).mp (.head _)) with e | m
    ·exact e
    ·rcases List.mem_cons.mp ((h y).mpr (.head _)) with e | m'
     ·exact e.symm
     ·have:=h1 m'; have:=h2 m; omega
   subst e
   refine congrArg (x :: ·) (ih hs.tail ht.tail fun z=>⟨fun m=>?_,fun m=>?_⟩)
   ·rcases List.mem_cons.mp ((h z).mp (.tail _ m)) with e | m'
    ·have:=h1 m; omega
    ·exact m'
   ·rcases List.mem_cons.mp ((h z).mpr (.tail _ m)) with e | m'
    ·have:=h2 m; omega
    ·exact m'
theorem Zxa {r:List Int→List Int→Prop} (tr:∀ {a b c},r a b→r b c→r a c):∀ (F:List (List Int)),F ≠ []→∃ S ∈ F,∀ T ∈ F,r S T→r T S:=by
 intro F
 induction F with
 | nil=>exact fun h=>absurd rfl h
 | cons x F ih =>
  intro _
  by_cases c:F = []
  ·subst c
   exact ⟨x,.head _,fun T hT h=>by rw [List.mem_singleton.mp hT] at h ⊢; exact h⟩
  ·obtain ⟨S,hS,mx⟩:=ih c
   by_cases q:r S x
   ·refine ⟨x,.head _,fun T hT h=>?_⟩
    rcases List.mem_cons.mp hT with rfl | hT
    ·exact h
    ·exact tr (mx T hT (tr q h)) q
   ·refine ⟨S,.tail _ hS,fun T hT h=>?_⟩
    rcases List.mem_cons.mp hT with rfl | hT
    ·exact absurd h q
    ·exact mx T hT h
noncomputable def wv (w:Int) (p q r t:Bool):Int:=(if (p != r) = true then w else 0) + (if (q != t) = true then w else 0) - (if (p != q) = true then w else 0) - (if (r != t) = true then w else 0)
noncomputable def mm (s:List Int) (x:Int):Bool:=decide (x ∈ s)
theorem Zpi {s:List Int} {x:Int}:mm s x = true ↔ x ∈ s:=by unfold mm; exact decide_eq_true_iff
theorem Zo1 {s:List Int} {x:Int}:mm s x = false ↔ x ∉ s:=by unfold mm; exact decide_eq_false_iff_not
theorem Znj {s:List Int} {a b:Int} (ha:0 ≤ a) (hb:0 ≤ b):sep s a.toNat b.toNat = (mm s a != mm s b):=by
 unfold sep mm
 rw [Int.toNat_of_nonneg ha,Int.toNat_of_nonneg hb]
theorem Z1t (Z:List (List Int × Int)) {a b c e:Int} (ha:0 ≤ a) (hb:0 ≤ b) (hc:0 ≤ c) (he:0 ≤ e):tv (cz Z) a b c e = (Z.map fun q=>wv q.2 (mm q.1 a) (mm q.1 b) (mm q.1 c) (mm q.1 e)).sum:=by
 induction Z with
 | nil=>rfl
 | cons q Z ih =>
  rw [List.map_cons,List.sum_cons,← ih]
  unfold tv cz
  simp only [List.map_cons,List.sum_cons,Znj ha hc,Znj hb he,Znj ha hb,Znj hc he]
  unfold wv
  omega
noncomputable def wA (Z:List (List Int × Int)) (A:List Int):Int:=((Z.filter fun q=>decide (q.1 = A)).map fun q=>q.2).sum
theorem Zsz {Z:List (List Int × Int)} {f g:List Int × Int→Int} (h:∀ q ∈ Z,f q ≤ g q):(Z.map f).sum ≤ (Z.map g).sum:=by
 induction Z with
 | nil=>exact Int.le_refl _
 | cons q Z ih =>
  rw [List.map_cons,List.map_cons,List.sum_cons,List.sum_cons]
  exact Int.add_le_add (h q (.head _)) (ih fun r hr=>h r (.tail _ hr))
theorem Zyg (Z:List (List Int × Int)) (A:List Int):(Z.map fun q=>if q.1 = A then 2 * q.2 else 0).sum = 2 * wA Z A:=by
 unfold wA
 induction Z with
 | nil=>rfl
 | cons q Z ih =>
  rw [List.map_cons,List.sum_cons,ih]
  by_cases c:q.1 = A
  ·rw [List.filter_cons_of_pos (p:=fun q:List Int × Int=>decide (q.1 = A)) (decide_eq_true c),List.map_cons,List.sum_cons,if_pos c]; omega
  ·rw [List.filter_cons_of_neg (p:=fun q:List Int × Int=>decide (q.1 = A)) (by rw [decide_eq_false c]; exact Bool.false_ne_true),if_neg c]; omega
theorem Zvi {w:Int} {p q:Bool}:wv w p q false false = if (p && q) = true then 2 * w else 0:=by cases p <;> cases q <;> simp [wv] <;> omega
theorem Zxg {w:Int} {r t:Bool}:wv w false false r t = if (r && t) = true then 2 * w else 0:=by cases r <;> cases t <;> simp [wv] <;> omega
theorem Z5p {w:Int} {r t:Bool}:wv w true true r t = if (!r && !t) = true then 2 * w else 0:=by cases r <;> cases t <;> simp [wv] <;> omega
theorem Z9x {w:Int} (h:0 ≤ w) {p q r:Bool} (hn:¬ (p = true∧q = true∧r = false)):wv w p q r false ≤ 0:=by cases p <;> cases q <;> cases r <;> simp [wv] at hn ⊢ <;> omega
section
variable {n:Nat} {Z:List (List Int × Int)} {A:List Int}
theorem inner (L:∀ s ∈ Z.map Prod.fst,Zmk n s) (cp:∀ s ∈ Z.map Prod.fst,∀ t ∈ Z.map Prod.fst,Cp s t) (hA:Zmk n A):∃ a ∈ A,∃ b ∈ A,∀ s ∈ Z.map Prod.fst,(∀ x ∈ s,x ∈ A)→s ≠ A→¬ (a ∈ s∧b ∈ s):=by
 obtain ⟨F,hF⟩:∃ F,F = (Z.map Prod.fst).filter fun s=>decide ((∀ x ∈ s,x ∈ A)∧s ≠ A):=⟨_,rfl⟩
 have mF:∀ s,s ∈ F ↔ s ∈ Z.map Prod.fst∧(∀ x ∈ s,x ∈ A)∧s ≠ A:=fun s=>by rw [hF,List.mem_filter,decide_eq_true_iff]
 by_cases c:F = []
 ·obtain ⟨a,ha⟩:=List.exists_mem_of_ne_nil A hA.ne
  exact ⟨a,ha,a,ha,fun s hs h1 h2 _=>by have:=(mF s).mpr ⟨hs,h1,h2⟩; rw [c] at this; cases this⟩
 ·obtain ⟨S,hS,mx⟩:=Zxa (r:=fun s t=>∀ x ∈ s,x ∈ t) (fun h1 h2 x hx=>h2 x (h1 x hx)) F c
  obtain ⟨S1,S2,S3⟩:=(mF S).mp hS
  obtain ⟨a,ha⟩:=List.exists_mem_of_ne_nil S (L S S1).ne
  have eb:∃ b ∈ A,b ∉ S:=Classical.byContradiction fun z=>S3 (Zqh (L S S1).up hA.up fun x=>⟨S2 x,fun hx=>Classical.byContradiction fun y=>z ⟨x,hx,y⟩⟩)
  obtain ⟨b,hb,nb⟩:=eb
  refine ⟨a,S2 a ha,b,hb,fun s hs h1 h2 ⟨as,bs⟩=>?_⟩
  rcases cp s hs S S1 with q | q | q
  ·exact q a as ha
  ·exact nb (q b bs)
  ·exact nb (mx s ((mF s).mpr ⟨hs,h1,h2⟩) q b bs)
theorem outer (L:∀ s ∈ Z.map Prod.fst,Zmk n s) (cp:∀ s ∈ Z.map Prod.fst,∀ t ∈ Z.map Prod.fst,Cp s t) (h0:1 ≤ n) (hA:Zmk n A):∃ c:Int,0 ≤ c∧c < n∧c ∉ A∧∀ s ∈ Z.map Prod.fst,(∀ x ∈ A,x ∈ s)→s ≠ A→c ∈ s:=by
 obtain ⟨F,hF⟩:∃ F,F = (Z.map Prod.fst).filter fun s=>decide ((∀ x ∈ A,x ∈ s)∧s ≠ A):=⟨_,rfl⟩
 have mF:∀ s,s ∈ F ↔ s ∈ Z.map Prod.fst∧(∀ x ∈ A,x ∈ s)∧s ≠ A:=fun s=>by rw [hF,List.mem_filter,decide_eq_true_iff]
 by_cases c:F = []
 ·refine ⟨0,Int.le_refl _,by omega,fun z=>by have:=(hA.pt 0 z).1; omega,fun s hs h1 h2=>?_⟩
  have:=(mF s).mpr ⟨hs,h1,h2⟩
  rw [c] at this
  cases this
 ·obtain ⟨U,hU,mx⟩:=Zxa (r:=fun s t=>∀ x ∈ t,x ∈ s) (fun h1 h2 x hx=>h1 x (h2 x hx)) F c
  obtain ⟨U1,U2,U3⟩:=(mF U).mp hU
  have eb:∃ b ∈ U,b ∉ A:=Classical.byContradiction fun z=>U3 (Zqh (L U U1).up hA.up fun x=>⟨fun hx=>Classical.byContradiction fun y=>z ⟨x,hx,y⟩,U2 x⟩)
  obtain ⟨b,hb,nb⟩:=eb
  have:=(L U U1).pt b hb
  refine ⟨b,by omega,this.2,nb,fun s hs h1 h2=>?_⟩
  obtain ⟨a,ha⟩:=List.exists_mem_of_ne_nil A hA.ne
  rcases cp s hs U U1 with q | q | q
  ·exact absurd (U2 a ha) (q a (h1 a ha))
  ·exact mx s ((mF s).mpr ⟨hs,h1,h2⟩) q b hb
  ·exact q b hb
theorem Zgt {q:List Int × Int} (h:q ∈ Z):q.1 ∈ Z.map Prod.fst:=List.mem_map_of_mem h
theorem Zrt (LL:Lam n (Z.map Prod.fst)) (w0:∀ q ∈ Z,0 ≤ q.2) (h0:1 ≤ n) (hA:Zmk n A) {m:Int} (h1:∃ a ∈ A,∃ b ∈ A,∃ c,∃ e,(0 ≤ c∧c ∉ A)∧(0 ≤ e∧e ∉ A)∧m = tv (cz Z) a b c e) (h2:∀ a ∈ A,∀ b ∈ A,∀ c e:Int,0 ≤ c→c < n→c ∉ A→0 ≤ e→e < n→e ∉ A→m ≤ tv (cz Z) a b c e):max 0 m = 2 * wA Z A:=by
 have z0:(0:Int) ∉ A:=fun z=>by have:=(hA.pt 0 z).1; omega
 have pA:∀ x ∈ A,0 ≤ x:=fun x hx=>by have:=(hA.pt x hx).1; omega
 have zs:∀ s ∈ Z.map Prod.fst,mm s 0 = false:=fun s hs=>Zo1.mpr fun z=>by have:=((LL.ok s hs).pt 0 z).1; omega
 have wn:0 ≤ wA Z A:=by
  unfold wA
  have:∀ F:List (List Int × Int),(∀ q ∈ F,0 ≤ q.2)→0 ≤ (F.map fun q=>q.2).sum:=by
   intro F
   induction F with
   | nil=>exact fun _=>Int.le_refl _
   | cons q F ih=>exact fun h=>by rw [List.map_cons,List.sum_cons]; exact Int.add_nonneg (h q (.head _)) (ih fun r hr=>h r (.tail _ hr))
  exact this _ fun q hq=>w0 q (List.mem_filter.mp hq).1
 by_cases cr:∃ s ∈ Z.map Prod.fst,¬ Cp s A
 ·obtain ⟨s,hs,nc⟩:=cr
  have e0:wA Z A = 0:=by
   unfold wA
   rw [List.filter_eq_nil_iff.mpr fun q hq c=>nc (by rw [← of_decide_eq_true c]; exact LL.cp s hs _ (Zgt hq))]; rfl
  have ea:∃ a ∈ A,a ∈ s:=Classical.byContradiction fun z=>nc (.inl fun x hx hy=>z ⟨x,hy,hx⟩)
  have eb:∃ b ∈ A,b ∉ s:=Classical.byContradiction fun z=>nc (.inr (.inr fun x hx=>Classical.byContradiction fun y=>z ⟨x,hx,y⟩))
  have ec:∃ c ∈ s,c ∉ A:=Classical.byContradiction fun z=>nc (.inr (.inl fun x hx=>Classical.byContradiction fun y=>z ⟨x,hx,y⟩))
  obtain ⟨a,aA,as⟩:=ea
  obtain ⟨b,bA,bs⟩:=eb
  obtain ⟨c,cs,cA⟩:=ec
  have cp:=(LL.ok s hs).pt c cs
  have:=h2 a aA b bA c 0 (by omega) cp.2 cA (by omega) (by omega) z0
  rw [Z1t Z (pA a aA) (pA b bA) (by omega) (Int.le_refl _)] at this
  have le:(Z.map fun q=>wv q.2 (mm q.1 a) (mm q.1 b) (mm q.1 c) (mm q.1 0)).sum ≤ (Z.map fun _=>(0:Int)).sum:=Zsz fun q hq=>by
   have hq1:=Zgt hq
   rw [zs _ hq1]
   refine Z9x (w0 q hq) fun ⟨x,y,z⟩=>?_
   rw [Zpi] at x y
   rw [Zo1] at z
   rcases LL.cp s hs _ hq1 with k | k | k
   ·exact k a as x
   ·exact z (k c cs)
   ·exact bs (k b y)
  have zz:(Z.map fun _=>(0:Int)).sum = 0:=by
   clear le this w0 LL zs hs wn e0 h1 h2
   induction Z with
   | nil=>rfl
   | cons q Z ih=>rw [List.map_cons,List.sum_cons,ih]; rfl
  rw [e0]
  omega
 ·have cA:∀ s ∈ Z.map Prod.fst,Cp s A:=fun s hs=>Classical.byContradiction fun z=>cr ⟨s,hs,z⟩
  have lo:2 * wA Z A ≤ m:=by
   obtain ⟨a,aA,b,bA,c,e,⟨c0,nc⟩,⟨e0,ne⟩,rfl⟩:=h1
   rw [Z1t Z (pA a aA) (pA b bA) c0 e0,← Zyg]
   refine Zsz fun q hq=>?_
   have hw:=w0 q hq
   by_cases eq:q.1 = A
   ·rw [if_pos eq,eq,Zpi.mpr aA,Zpi.mpr bA,Zo1.mpr nc,Zo1.mpr ne,Zvi]
    exact Int.le_refl _
   ·rw [if_neg eq]
    rcases cA _ (Zgt hq) with k | k | k
    ·rw [Zo1.mpr (fun z=>k a z aA),Zo1.mpr (fun z=>k b z bA),Zxg]; split <;> omega
    ·rw [Zo1.mpr (fun z=>nc (k c z)),Zo1.mpr (fun z=>ne (k e z)),Zvi]; split <;> omega
    ·rw [Zpi.mpr (k a aA),Zpi.mpr (k b bA),Z5p]; split <;> omega
  have hi:m ≤ 2 * wA Z A:=by
   obtain ⟨a,aA,b,bA,nab⟩:=inner LL.ok LL.cp hA
   obtain ⟨c,c0,cn,nc,hc⟩:=outer LL.ok LL.cp h0 hA
   refine Int.le_trans (h2 a aA b bA c 0 c0 cn nc (Int.le_refl _) (by omega) z0) ?_
   rw [Z1t Z (pA a aA) (pA b bA) c0 (Int.le_refl _),← Zyg]
   refine Zsz fun q hq=>?_
   have hq1:=Zgt hq
   by_cases eq:q.1 = A
   ·rw [if_pos eq,eq,Zpi.mpr aA,Zpi.mpr bA,Zo1.mpr nc,Zo1.mpr z0,Zvi]
    exact Int.le_refl _
   ·rw [if_neg eq,zs _ hq1]
    rcases cA _ hq1 with k | k | k
    ·rw [Zo1.mpr (fun z=>k a z aA),Zo1.mpr (fun z=>k b z bA),Zxg,Bool.and_false,if_neg Bool.false_ne_true]; exact Int.le_refl _
    ·have n2:=nab _ hq1 k eq
     rw [Zo1.mpr (fun z=>nc (k c z)),Zvi,if_neg fun z=>n2 (by rw [Bool.and_eq_true] at z; exact ⟨Zpi.mp z.1,Zpi.mp z.2⟩)]; exact Int.le_refl _
    ·rw [Zpi.mpr (k a aA),Zpi.mpr (k b bA),Zpi.mpr (hc _ hq1 k eq),Z5p]; exact Int.le_refl _
  omega
theorem Zy6 (w0:∀ q ∈ Z,0 ≤ q.2) (i j k:Nat):cz Z i k ≤ cz Z i j + cz Z j k:=by
 unfold cz
 induction Z with
 | nil=>exact Int.le_refl _
 | cons q Z ih =>
  have:=ih fun r hr=>w0 r (.tail _ hr)
  have hw:=w0 q (.head _)
  simp only [List.map_cons,List.sum_cons]
  have:(if sep q.1 i k = true then q.2 else 0) ≤ (if sep q.1 i j = true then q.2 else 0) + (if sep q.1 j k = true then q.2 else 0):=by
   unfold sep
   generalize decide ((i:Int) ∈ q.1) = x
   generalize decide ((j:Int) ∈ q.1) = y
   generalize decide ((k:Int) ∈ q.1) = z
   cases x <;> cases y <;> cases z <;> simp <;> omega
  omega
noncomputable def kd (a b c e:Bool):Bool:=(a == b) && (c == e) && (a != c)
theorem Z7s (w0:∀ q ∈ Z,0 ≤ q.2) (i j k l:Nat):∃ C D1 D2 D3:Int,0 ≤ D1∧0 ≤ D2∧0 ≤ D3∧cz Z i j + cz Z k l = C + D2 + D3∧cz Z i k + cz Z j l = C + D1 + D3∧cz Z i l + cz Z j k = C + D1 + D2 ∧
  (0 < D1→∃ s ∈ Z.map Prod.fst,kd (mm s i) (mm s j) (mm s k) (mm s l) = true)∧(0 < D2→∃ s ∈ Z.map Prod.fst,kd (mm s i) (mm s k) (mm s j) (mm s l) = true)∧(0 < D3→∃ s ∈ Z.map Prod.fst,kd (mm s i) (mm s l) (mm s j) (mm s k) = true):=by
 induction Z with
 | nil=>exact ⟨0,0,0,0,by decide,by decide,by decide,rfl,rfl,rfl,fun z=>by omega,fun z=>by omega,fun z=>by omega⟩
 | cons q Z ih =>
  obtain ⟨C,D1,D2,D3,p1,p2,p3,e1,e2,e3,k1,k2,k3⟩:=ih fun r hr=>w0 r (.tail _ hr)
  have hw:=w0 q (.head _)
  have up:∀ {P:List Int→Prop},(∃ s ∈ Z.map Prod.fst,P s)→∃ s ∈ (q :: Z).map Prod.fst,P s:=fun ⟨s,h,p⟩=>⟨s,.tail _ h,p⟩
  have hd:∀ {P:List Int→Prop},P q.1→∃ s ∈ (q :: Z).map Prod.fst,P s:=fun p=>⟨q.1,.head _,p⟩
  have cc:∀ x y,cz (q :: Z) x y = (if (mm q.1 x != mm q.1 y) = true then q.2 else 0) + cz Z x y:=fun x y=>rfl
  simp only [cc]
  have hk1:=hd (P:=fun s=>kd (mm s i) (mm s j) (mm s k) (mm s l) = true)
  have hk2:=hd (P:=fun s=>kd (mm s i) (mm s k) (mm s j) (mm s l) = true)
  have hk3:=hd (P:=fun s=>kd (mm s i) (mm s l) (mm s j) (mm s k) = true)
  have u1:=fun z=>up (k1 z)
  have u2:=fun z=>up (k2 z)
  have u3:=fun z=>up (k3 z)
  generalize (∃ s ∈ (q :: Z).map Prod.fst,kd (mm s i) (mm s j) (mm s k) (mm s l) = true) = P1 at *
  generalize (∃ s ∈ (q :: Z).map Prod.fst,kd (mm s i) (mm s k) (mm s j) (mm s l) = true) = P2 at *
  generalize (∃ s ∈ (q :: Z).map Prod.fst,kd (mm s i) (mm s l) (mm s j) (mm s k) = true) = P3 at *
  clear up hd cc ih
  generalize mm q.1 i = a at *
  generalize mm q.1 j = b at *
  generalize mm q.1 k = c at *
  generalize mm q.1 l = e at *
  cases h1:kd a b c e with
  | true =>
   refine ⟨C,D1 + 2 * q.2,D2,D3,by omega,p2,p3,?_,?_,?_,fun _=>hk1 h1,u2,u3⟩ <;> (cases a <;> cases b <;> cases c <;> cases e <;> simp [kd] at h1 ⊢ <;> omega)
  | false =>
   cases h2:kd a c b e with
   | true =>
    refine ⟨C,D1,D2 + 2 * q.2,D3,p1,by omega,p3,?_,?_,?_,u1,fun _=>hk2 h2,u3⟩ <;> (cases a <;> cases b <;> cases c <;> cases e <;> simp [kd] at h2 ⊢ <;> omega)
   | false =>
    cases h3:kd a e b c with
    | true =>
     refine ⟨C,D1,D2,D3 + 2 * q.2,p1,p2,by omega,?_,?_,?_,u1,u2,fun _=>hk3 h3⟩ <;> (cases a <;> cases b <;> cases c <;> cases e <;> simp [kd] at h3 ⊢ <;> omega)
    | false =>
     refine ⟨C + ((if (a != b) = true then q.2 else 0) + if (c != e) = true then q.2 else 0),D1,D2,D3,p1,p2,p3,?_,?_,?_,u1,u2,u3⟩ <;> (cases a <;> cases b <;> cases c <;> cases e <;> simp [kd] at h1 h2 h3 ⊢ <;> omega)
theorem Z4o {a b c e:Bool} (h:kd a b c e = true):a = true∧b = true∧c = false∧e = false∨a = false∧b = false∧c = true∧e = true:=by
 revert a b c e
 decide
theorem Zwj {s t:List Int} (h:Cp s t) {x y z:Int} (h1:mm s x = true) (h2:mm t x = true) (h3:mm s y = true) (h4:mm t y = false) (h5:mm s z = false) (h6:mm t z = true):False:=by
 rw [Zpi] at h1 h2 h3 h6
 rw [Zo1] at h4 h5
 rcases h with h | h | h
 ·exact h x h1 h2
 ·exact h4 (h y h3)
 ·exact h5 (h z h6)
theorem Zr2 {s t:List Int} (h:Cp s t) {a b c e:Int} (h1:kd (mm s a) (mm s b) (mm s c) (mm s e) = true) (h2:kd (mm t a) (mm t c) (mm t b) (mm t e) = true):False:=by
 rcases Z4o h1 with ⟨a1,b1,c1,e1⟩ | ⟨a1,b1,c1,e1⟩ <;> rcases Z4o h2 with ⟨a2,c2,b2,e2⟩ | ⟨a2,c2,b2,e2⟩
 ·exact Zwj h a1 a2 b1 b2 c1 c2
 ·exact Zwj h b1 b2 a1 a2 e1 e2
 ·exact Zwj h c1 c2 e1 e2 a1 a2
 ·exact Zwj h e1 e2 c1 c2 b1 b2
theorem Zzb {a b c e:Bool} (h:kd a b c e = true):kd a b e c = true:=by revert a b c e; decide
theorem Ztm (LL:Lam n (Z.map Prod.fst)) (w0:∀ q ∈ Z,0 ≤ q.2) (i j k l:Nat):∃ x y z:Int,x = cz Z i j + cz Z k l∧y = cz Z i k + cz Z j l∧z = cz Z i l + cz Z j k∧¬ (x < z∧y < z)∧¬ (x < y∧z < y)∧¬ (y < x∧z < x):=by
 obtain ⟨C,D1,D2,D3,p1,p2,p3,e1,e2,e3,k1,k2,k3⟩:=Z7s w0 i j k l
 refine ⟨_,_,_,rfl,rfl,rfl,?_⟩
 rw [e1,e2,e3]
 have n12:¬ (0 < D1∧0 < D2):=fun ⟨x,y⟩=>by
  obtain ⟨s,hs,q⟩:=k1 x
  obtain ⟨t,ht,r⟩:=k2 y
  exact Zr2 (LL.cp s hs t ht) q r
 have n13:¬ (0 < D1∧0 < D3):=fun ⟨x,y⟩=>by
  obtain ⟨s,hs,q⟩:=k1 x
  obtain ⟨t,ht,r⟩:=k3 y
  exact Zr2 (LL.cp s hs t ht) (Zzb q) r
 have n23:¬ (0 < D2∧0 < D3):=fun ⟨x,y⟩=>by
  obtain ⟨s,hs,q⟩:=k2 x
  obtain ⟨t,ht,r⟩:=k3 y
  exact Zr2 (LL.cp s hs t ht) (Zzb q) (Zzb r)
 omega
end
theorem Z3m {as:FA} {δ:Zh} {j:Int} (h:EvA as δ [.int j]) (h0:-1000 ≤ j) (h1:j ≤ 1000000):EvI (iRa as) δ (Ze0 0 j.toNat):=by
 obtain ⟨_,e1,d1⟩:=h
 unfold EvI
 rw [Zyi,e1,Option.bind_some,d1,Z4b,if_pos (Zkf (by omega) h1)]
theorem Zec:∀ (l:List (List Int)) (j:Nat),j < l.length→(l.getD j [] :: l.eraseIdx j).Perm l
 | [],_,h=>by simp at h
 | a :: l,0,_=>.refl _
 | a :: l,j + 1,h=>by
  have:=Zec l j (by simpa using h)
  show (l.getD j [] :: a :: l.eraseIdx j).Perm (a :: l)
  exact (List.Perm.swap _ _ _).trans (this.cons a)
noncomputable def Dj (s t:List Int):Prop:=∀ x ∈ s,x ∉ t
structure Clu (n:Nat) (l f:List (List Int)):Prop where
 okl:∀ s ∈ l,Zmk n s
 dis:l.Pairwise Dj
 okf:Lam n f
 nd:f.Nodup
 inn:∀ s ∈ f,∀ t ∈ l,(∀ x ∈ s,x ∈ t)∨Dj s t
theorem Z95 {l:List Int} (h:l.Pairwise (· ≤ ·)) (d:l.Nodup):l.Pairwise (· < ·):=(h.and d).imp fun ⟨a,b⟩=>Int.lt_iff_le_and_ne.mpr ⟨a,b⟩
theorem Clu.step {n:Nat} {l l1 l2 f:List (List Int)} {a b:List Int} (h:Clu n l f) (p1:(a :: l1).Perm l) (p2:(b :: l2).Perm l1):Clu n (l2 ++ [Y0 (a ++ b)]) (f ++ [Y0 (a ++ b)]):=by
 have pd:(a :: b :: l2).Perm l:=(p2.cons a).trans p1
 have dd:(a :: b :: l2).Pairwise Dj:=pd.symm.pairwise h.dis fun {s t} q x hx hy=>q x hy hx
 have ma:a ∈ l:=pd.mem_iff.mp (.head _)
 have mb:b ∈ l:=pd.mem_iff.mp (.tail _ (.head _))
 have m2:∀ t ∈ l2,t ∈ l:=fun t ht=>pd.mem_iff.mp (.tail _ (.tail _ ht))
 have dab:Dj a b:=List.rel_of_pairwise_cons dd (.head _)
 have da:∀ t ∈ l2,Dj a t:=fun t ht=>List.rel_of_pairwise_cons dd (.tail _ ht)
 have db:∀ t ∈ l2,Dj b t:=fun t ht=>List.rel_of_pairwise_cons dd.tail ht
 obtain ⟨y,hy⟩:∃ y,y = Y0 (a ++ b):=⟨_,rfl⟩
 rw [← hy]
 have my:∀ x,x ∈ y ↔ x ∈ a∨x ∈ b:=fun x=>by rw [hy,(Wo _).mem_iff,List.mem_append]
 have ca:=h.okl a ma
 have cb:=h.okl b mb
 have gy:Zmk n y:=by
  refine ⟨?_,?_,fun x hx=>?_⟩
  ·obtain ⟨x,hx⟩:=List.exists_mem_of_ne_nil a ca.ne
   exact List.ne_nil_of_mem ((my x).mpr (.inl hx))
  ·rw [hy]
   refine Z95 (Za4 _) ((Wo _).nodup_iff.mpr (List.nodup_append.mpr ⟨ca.up.imp fun q=>Int.ne_of_lt q,cb.up.imp fun q=>Int.ne_of_lt q,fun x hx z hz e=>dab x hx (e ▸ hz)⟩))
  ·rcases (my x).mp hx with q | q
   ·exact ca.pt x q
   ·exact cb.pt x q
 have dy:∀ t ∈ l2,Dj y t:=fun t ht x hx=>((my x).mp hx).elim (da t ht x) (db t ht x)
 have sy:∀ s ∈ f,(∀ x ∈ s,x ∈ y)∨Dj s y:=fun s hs=>by
  rcases h.inn s hs a ma with q | q
  ·exact .inl fun x hx=>(my x).mpr (.inl (q x hx))
  ·rcases h.inn s hs b mb with r | r
   ·exact .inl fun x hx=>(my x).mpr (.inr (r x hx))
   ·exact .inr fun x hx hz=>((my x).mp hz).elim (q x hx) (r x hx)
 have ny:y ∉ f:=fun hf=>by
  obtain ⟨u,hu⟩:=List.exists_mem_of_ne_nil a ca.ne
  obtain ⟨v,hv⟩:=List.exists_mem_of_ne_nil b cb.ne
  rcases h.inn y hf a ma with q | q
  ·exact dab v (q v ((my v).mpr (.inr hv))) hv
  ·exact q u ((my u).mpr (.inl hu)) hu
 refine ⟨fun s hs=>?_,?_,⟨fun s hs=>?_,fun s hs t ht=>?_⟩,?_,fun s hs t ht=>?_⟩
 ·rcases List.mem_append.mp hs with hs | hs
  ·exact h.okl s (m2 s hs)
  ·rw [List.mem_singleton.mp hs]; exact gy
 ·refine List.pairwise_append.mpr ⟨dd.tail.tail,List.pairwise_singleton ..,fun s hs t ht=>?_⟩
  rw [List.mem_singleton.mp ht]
  exact fun x hx hz=>dy s hs x hz hx
 ·rcases List.mem_append.mp hs with hs | hs
  ·exact h.okf.ok s hs
  ·rw [List.mem_singleton.mp hs]; exact gy
 ·have one:∀ s ∈ f,Cp s y:=fun s hs=>(sy s hs).elim (fun q=>.inr (.inl q)) .inl
  rcases List.mem_append.mp hs with hs | hs <;> rcases List.mem_append.mp ht with ht | ht
  ·exact h.okf.cp s hs t ht
  ·rw [List.mem_singleton.mp ht]; exact one s hs
  ·rw [List.mem_singleton.mp hs]; exact (one t ht).symm
  ·rw [List.mem_singleton.mp hs,List.mem_singleton.mp ht]; exact .inr (.inl fun _ q=>q)
 ·exact List.nodup_append.mpr ⟨h.nd,List.nodup_cons.mpr ⟨(fun z=>nomatch z),.nil⟩,fun s hs t ht e=>by rw [List.mem_singleton.mp ht] at e; exact ny (e ▸ hs)⟩
 ·rcases List.mem_append.mp hs with hs | hs <;> rcases List.mem_append.mp ht with ht | ht
  ·exact h.inn s hs t (m2 t ht)
  ·rw [List.mem_singleton.mp ht]; exact sy s hs
  ·rw [List.mem_singleton.mp hs]; exact .inr (dy t ht)
  ·rw [List.mem_singleton.mp hs,List.mem_singleton.mp ht]; exact .inl fun _ q=>q
noncomputable def ones (n:Nat):List (List Int):=(List.range (n - 1)).map fun i:Nat=>[1 + (i:Int)]
theorem Clu.ones (n:Nat):Clu n (My.ones n) (My.ones n):=by
 have mo:∀ s ∈ My.ones n,∃ i:Nat,i + 1 < n∧s = [1 + (i:Int)]:=fun s hs=>by
  obtain ⟨i,hi,rfl⟩:=List.mem_map.mp hs
  exact ⟨i,by have:=List.mem_range.mp hi; omega,rfl⟩
 have g:∀ s ∈ My.ones n,Zmk n s:=fun s hs=>by
  obtain ⟨i,hi,rfl⟩:=mo s hs
  exact ⟨(fun z=>nomatch z),List.pairwise_singleton ..,fun x hx=>by rw [List.mem_singleton.mp hx]; omega⟩
 have c:∀ s ∈ My.ones n,∀ t ∈ My.ones n,(∀ x ∈ s,x ∈ t)∨Dj s t:=fun s hs t ht=>by
  obtain ⟨i,hi,rfl⟩:=mo s hs
  obtain ⟨j,hj,rfl⟩:=mo t ht
  by_cases e:i = j
  ·subst e; exact .inl fun _ q=>q
  ·exact .inr fun x hx hy=>e (by have:=List.mem_singleton.mp hx; have:=List.mem_singleton.mp hy; omega)
 refine ⟨g,?_,⟨g,fun s hs t ht=>(c s hs t ht).elim (fun q=>.inr (.inl q)) .inl⟩,?_,c⟩
 ·unfold My.ones
  rw [List.pairwise_map]
  exact List.pairwise_lt_range.imp fun {i j} q x hx hy=>by have:=List.mem_singleton.mp hx; have:=List.mem_singleton.mp hy; omega
 ·unfold My.ones List.Nodup
  rw [List.pairwise_map]
  exact List.pairwise_lt_range.imp fun {i j} q e=>by injection e with e; omega
theorem Zky (c:Int) {n:Nat} (h1:1 ≤ n) (hn:n ≤ 10):∃ Ls:List (List Int),Told Y6 [.int c,.int n] (.list (Ls.map Zi))∧Ls.length ≤ 20∧Lam n Ls∧Ls.Nodup:=by
 obtain ⟨vs,e0,hv⟩:=Zo5 c (2 * n) (by omega)
 have s0:EvV (Zj Zfr (fC (.int 2)) (Zd 1)) (Zf3 8 [.int c,.int n]) (.int (2 * n:Nat)):=(Zc0 Z2 Za (by decide)).cast (congrArg PyData.int (by omega))
 have e1:Zuy (Yx 1 [] (iRb (Zc (fC (.int 1)) (Zc (Zd 1) Zo))) (gNm 0) Zhs (Zf4 (Zc (Zd 0) Zo))) [some (.fz (.int c)),some (.fz (.int n)),some (.fz (Zi vs)),none,none,none,none,none] = some (lO (ones n),[some (.fz (.int c)),some (.fz (.int n)),some (.fz (Zi vs)),none,none,none,none,none]):=by
  obtain ⟨rs,h1,h2⟩:=Zti (caps:=[]) (it:=iRb (Zc (fC (.int 1)) (Zc (Zd 1) Zo))) (me:=Zf4 (Zc (Zd 0) Zo)) (cs:=[]) (δ:=[some (.fz (.int c)),some (.fz (.int n)),some (.fz (Zi vs)),none,none,none,none,none]) (List.range (n - 1)) (fun i:Nat=>PyData.int (1 + (i:Int))) (fun i:Nat=>Zi [1 + (i:Int)]) (Zu0 (m:=1) (n:=n) (Zb Z2 (Zb Za Zf)) (by decide) (by omega)) (by rw [List.length_range]; omega) rfl fun i _=>Z4c Za
  unfold Zuy
  rw [h1,Option.bind_some]
  dsimp only
  rw [h2]
  unfold lO ones
  rw [List.map_map,List.map_map,List.map_map]; rfl
 have lo:(ones n).length = n - 1:=by unfold ones; rw [List.length_map,List.length_range]
 have key:∃ d,Told Y6 [.int c,.int n] d∧∃ Ls:List (List Int),d = .list (Ls.map Zi)∧Ls.length ≤ 20∧Lam n Ls∧Ls.Nodup:=by
  refine Zmw rfl <| Zat (Zr (Zm (Zb Za (Zb s0 Zf)) e0)) <| Zat (Zg4 e1) <| Zat (Zg4 (Zvz (i:=3) rfl)) <| Zlu (ds:=Ze0 0 ((n:Int) - 2).toNat) (fun i δ=>∃ (l f:List (List Int)) (z5 z6 z7:Option OT),δ = [some (.fz (.int c)),some (.fz (.int n)),some (.fz (Zi vs)),some (lO l),some (lO f),z5,z6,z7]∧l.length + i = n - 1∧sL l = n - 1∧f.length = n - 1 + i∧Clu n l f) (Z3m (Zb (Znt Za Z2) Zf) (by omega) (by omega)) ⟨ones n,ones n,_,_,_,rfl,lo,?_,lo,Clu.ones n⟩ (fun i d δ hd q=>?_) fun δ' q=>?_
  ·unfold sL ones
   rw [List.map_map]
   generalize n - 1 = k
   induction k with
   | zero=>rfl
   | succ k ih=>rw [List.range_succ,List.map_append,List.sum_append,ih]; rfl
  ·obtain ⟨l,f,z5,z6,z7,rfl,ll,sl,lf,cl⟩:=q
   obtain ⟨hi,rfl⟩:=Jv hd
   rw [Int.zero_add]
   obtain ⟨j,ej,hj⟩:=Zj8 (vs.getD (2 * i) 0) (n:=l.length) (by omega)
   have l1:(l.eraseIdx j).length = l.length - 1:=List.length_eraseIdx_of_lt hj
   obtain ⟨j2,ej2,hj2⟩:=Zj8 (vs.getD (2 * i + 1) 0) (n:=(l.eraseIdx j).length) (by omega)
   have l2:((l.eraseIdx j).eraseIdx j2).length = l.length - 2:=by rw [List.length_eraseIdx_of_lt hj2,l1]; omega
   have x1:=Zjs l j hj
   have x2:=Zjs (l.eraseIdx j) j2 hj2
   have cl2:=cl.step (Zec l j hj) (Zec (l.eraseIdx j) j2 hj2)
   have p1:EvV (Zj Zf6 (Yg gIx (Zd 2) (Zj Zfr (fC (.int 2)) (Zd 5))) (Za9 Zcg (Zc (Zma 3) Zo))) [some (.fz (.int c)),some (.fz (.int n)),some (.fz (Zi vs)),some (lO l),some (lO f),some (.fz (.int i)),z6,z7] (.int j):=(Zaa (j:=l.length) ((Wv (p:=vs) (i:=2 * (i:Int)) Za (Zc0 Z2 Za (by decide)) (by omega) (by omega)).cast (by rw [show (2 * (i:Int)).toNat = 2 * i by omega])) ((Zis (Zn9 rfl (Zj5 l))).cast (by rw [List.length_map])) (by omega)).cast (congrArg _ ej)
   have p2:EvV (Zj Zf6 (Yg gIx (Zd 2) (Zj Zdp (Zj Zfr (fC (.int 2)) (Zd 5)) (fC (.int 1)))) (Za9 Zcg (Zc (Zma 3) Zo))) [some (.fz (.int c)),some (.fz (.int n)),some (.fz (Zi vs)),some (lO (l.eraseIdx j)),some (lO f),some (.fz (.int i)),some (.fz (Zi (l.getD j []))),z7] (.int j2):=(Zaa (j:=(l.eraseIdx j).length) ((Wv (p:=vs) (i:=2 * (i:Int) + 1) Za (W4 (Zc0 Z2 Za (by decide)) Z2) (by omega) (by omega)).cast (by rw [show (2 * (i:Int) + 1).toNat = 2 * i + 1 by omega])) ((Zis (Zn9 rfl (Zj5 _))).cast (by rw [List.length_map])) (by omega)).cast (congrArg _ ej2)
   obtain ⟨y,hy⟩:∃ y,y = Y0 (l.getD j [] ++ (l.eraseIdx j).getD j2 []):=⟨_,rfl⟩
   rw [← hy] at cl2
   have ly:y.length = (l.getD j []).length + ((l.eraseIdx j).getD j2 []).length:=by rw [hy,(Wo _).length_eq,List.length_append]
   refine ⟨_,_,rfl,.inl (Yb (popS (i:=6) (Ybq (i:=3) rfl p1 hj (by omega))) <| Yb (popS (i:=7) (Ybq (i:=3) rfl p2 hj2 (by omega))) <| Yb (δ':=[some (.fz (.int c)),some (.fz (.int n)),some (.fz (Zi vs)),some (lO ((l.eraseIdx j).eraseIdx j2 ++ [y])),some (lO f),some (.fz (.int i)),some (.fz (Zi (l.getD j []))),some (.fz (Zi ((l.eraseIdx j).getD j2 [])))]) ?_ ?_),(l.eraseIdx j).eraseIdx j2 ++ [y],f ++ [y],some (.fz (.int i)),some (.fz (Zi (l.getD j []))),some (.fz (Zi ((l.eraseIdx j).getD j2 []))),rfl,by rw [List.length_append]; show _ + 1 + _ = _; omega,?_,by rw [List.length_append]; show _ + 1 = _; omega,cl2⟩
   ·refine (Zf1 (ts:=(((l.eraseIdx j).eraseIdx j2).map Zi).map OT.fz) (d:=Zi y) ?_ rfl (by rw [List.length_map,List.length_map]; omega)).trans (by rw [Zrj]; rfl)
    rw [hy]
    exact Z1n (Zb (Z5s Za Za (by omega) (by omega)) Zf) (Zp4 (by rw [List.length_append]; omega)) (Zrm _)
   ·refine (Zf1 (ts:=(f.map Zi).map OT.fz) (d:=Zi y) ?_ rfl (by rw [List.length_map,List.length_map]; omega)).trans (by rw [Zrj f y]; rfl)
    exact Zvr rfl
   ·unfold sL
    rw [List.map_append,List.sum_append]
    show sL _ + (y.length + 0) = _
    omega
  ·obtain ⟨l,f,z5,z6,z7,rfl,ll,sl,lf,cl⟩:=q
   rw [Y8] at lf
   exact Z85 (o:=lO f) rfl ⟨f,Zj5 f,by omega,cl.okf,cl.nd⟩
 obtain ⟨d,h,Ls,rfl,r⟩:=key
 exact ⟨Ls,h,r⟩
theorem Zy9:∀ (k:Nat) (s:List Int),s.Pairwise (· < ·)→(∀ x ∈ s,1 ≤ x∧x ≤ (k:Int))→s ∈ sdL k:=by
 intro k
 induction k with
 | zero =>
  intro s _ h
  cases s with
  | nil=>exact .head _
  | cons x s=>have:=h x (.head _); omega
 | succ k ih =>
  intro s hs h
  by_cases c:((k:Int) + 1) ∈ s
  ·refine List.mem_append.mpr (.inr (List.mem_map.mpr ⟨s.filter fun x=>decide (x ≤ (k:Int)),ih _ (hs.filter _) fun x hx=>?_,?_⟩))
   ·obtain ⟨h1,h2⟩:=List.mem_filter.mp hx
    exact ⟨(h x h1).1,of_decide_eq_true h2⟩
   ·refine Zqh (List.pairwise_append.mpr ⟨hs.filter _,List.pairwise_singleton ..,fun x hx y hy=>?_⟩) hs fun x=>?_
    ·rw [List.mem_singleton.mp hy]
     have:=of_decide_eq_true (List.mem_filter.mp hx).2
     omega
    ·rw [List.mem_append,List.mem_filter,decide_eq_true_eq,List.mem_singleton]
     constructor
     ·rintro (⟨q,_⟩ | rfl)
      ·exact q
      ·exact c
     ·intro q
      have:=(h x q).2
      by_cases e:x = (k:Int) + 1
      ·exact .inr e
      ·exact .inl ⟨q,by omega⟩
  ·refine List.mem_append.mpr (.inl (ih s hs fun x hx=>⟨(h x hx).1,?_⟩))
   have:=(h x hx).2
   have:x ≠ (k:Int) + 1:=fun e=>c (e ▸ hx)
   omega
theorem Zqj:∀ k,(sdL k).Nodup:=by
 intro k
 induction k with
 | zero=>exact List.nodup_cons.mpr ⟨(fun z=>nomatch z),.nil⟩
 | succ k ih =>
  refine List.nodup_append.mpr ⟨ih,?_,fun s hs t ht e=>?_⟩
  ·unfold List.Nodup
   rw [List.pairwise_map]
   exact ih.imp fun q e=>q (List.append_cancel_right e)
  ·obtain ⟨r,_,rfl⟩:=List.mem_map.mp ht
   have:=((Zlk k s hs).2.2 ((k:Int) + 1) (by rw [e]; exact List.mem_append.mpr (.inr (.head _)))).2
   omega
theorem Zq2 (L:List (List Int)) (h:L.length < 64):∃ L1:List (List Int),Ziv kdL ltI [.list (L.map Zi)] = some (.nd ((L1.map Zi).map OT.fz))∧L1.Perm L:=by
 obtain ⟨L1,e,h1,h2⟩:=sorted_ints L h
 refine ⟨L1,e,?_⟩
 have pm:=Zhe PyData.none (lk kdL ltI (L.map Zi)) (L.map Zi)
 have e2:Ziv kdL ltI [.list (L.map Zi)] = some (.nd ((sLay PyData.none (lk kdL ltI (L.map Zi)) (L.map Zi)).map OT.fz)):=by
  show (if (decide ((L.map Zi).length < 64) && (L.map Zi).all fun d=>(kdL d).isSome) = true then some (OT.nd ((sLay PyData.none (lk kdL ltI (L.map Zi)) (L.map Zi)).map OT.fz)) else none) = _
  rw [if_pos]
  rw [Bool.and_eq_true,decide_eq_true_eq,List.length_map,List.all_eq_true]
  refine ⟨h,fun d m=>?_⟩
  obtain ⟨p,_,rfl⟩:=List.mem_map.mp m
  show (Zet (p.map PyData.int)).isSome = true
  rw [Zao]; rfl
 rw [e2] at e
 injection e with e
 injection e with e
 have e3:=(List.map_inj_right (fun x y z=>by injection z)).mp e
 rw [e3] at pm
 have gi:∀ s:List Int,(kdL (Zi s)).getD [] = s:=fun s=>by
  show (Zet (s.map PyData.int)).getD [] = s
  rw [Zao]; rfl
 have:=pm.map fun d=>(kdL d).getD []
 rw [List.map_map,List.map_map] at this
 rwa [show ((fun d=>(kdL d).getD []) ∘ Zi) = id from funext gi,List.map_id,List.map_id] at this
theorem Zqu (n:Nat) (h1:1 ≤ n) (s:List Int):s ∈ sdL (n - 1)∧s ≠ [] ↔ Zmk n s:=by
 constructor
 ·rintro ⟨a,b⟩
  obtain ⟨_,h2,h3⟩:=Zlk _ s a
  exact ⟨b,h2,fun x hx=>by have:=h3 x hx; omega⟩
 ·rintro ⟨a,b,c⟩
  exact ⟨Zy9 _ s b fun x hx=>by have:=c x hx; omega,a⟩
theorem Zmj {n:Nat} (h0:1 ≤ n) (hn:n ≤ 6):∃ Ls:List (List Int),Told Ye [.int n] (.list (Ls.map Zi))∧(∀ s,s ∈ Ls ↔ Zmk n s)∧Ls.Nodup∧Ls.length < 64:=by
 have p2:∀ {k:Nat},k ≤ 5→(sdL k).length ≤ 32:=fun {k} hk=>by
  rw [Zys]
  exact Nat.le_trans (Nat.pow_le_pow_right (by decide) hk) (by decide)
 have l64:(sdL (n - 1)).length < 64:=Nat.lt_of_le_of_lt (p2 (by omega)) (by decide)
 obtain ⟨L1,eS,pS⟩:=Zq2 (sdL (n - 1)) l64
 refine ⟨L1.filter fun s=>decide (0 < s.length),?_,fun s=>?_,(pS.nodup_iff.mpr (Zqj _)).filter _,Nat.lt_of_le_of_lt (List.length_filter_le ..) (pS.length_eq ▸ l64)⟩
 ·refine Zv rfl <| Zx (Zr (Zgb (Zb (Zgb Zf (show 0 ≤ 1000 by decide)) Zf) (show 1 ≤ 1000 by decide))) <|
   Zho (ds:=Ze0 1 (n - 1)) (fun k δ=>∃ z2,δ = [some (.fz (.int n)),some (.fz (.list ((sdL k).map Zi))),z2]) (Zu0 (m:=1) (Zb Z2 (Zb Za Zf)) (by decide) (by omega)) ⟨none,rfl⟩ (fun k d δ hd q=>?_) fun δ' q=>?_
  ·obtain ⟨z2,rfl⟩:=q
   obtain ⟨hk,rfl⟩:=Jv hd
   have lk:=p2 (k:=k) (by omega)
   refine ⟨_,_,rfl,.inl (Zr (EvV.cast (Znr (ds:=(sdL k).map Zi) (es:=(sdL k).map fun s=>Zi (s ++ [(k:Int) + 1])) Za (Zbu (cs:=[some (.fz (.int (1 + (k:Int))))]) (sdL k) Zi (fun s=>Zi (s ++ [(k:Int) + 1])) (W6 Za) (by omega) rfl fun s hs=>?_) (by rw [List.length_map,List.length_map]; omega)) (y:=.list ((sdL (k + 1)).map Zi)) ?_)),_,rfl⟩
   ·have ls:=(Zlk k s hs).1
    exact (Znr (ds:=s.map PyData.int) (es:=[.int (1 + (k:Int))]) Za (Zgb (Zb Za Zf) (show 1 ≤ 1000 by decide)) (by rw [List.length_map]; show _ + 1 ≤ _; omega)).cast (by unfold Zi; rw [List.map_append,Int.add_comm]; rfl)
   ·rw [sdL,List.map_append,List.map_map]; rfl
  ·obtain ⟨z2,rfl⟩:=q
   rw [Y8]
   refine Z8 (Zoo (cs:=[]) L1 Zi (fun s=>decide (0 < s.length)) (W6 (Z1n (Zb Za Zf) eS (by rw [OT.data_nd,OT.map_fz]))) (by rw [pS.length_eq]; omega) rfl (fun s _=>Zcf (Zmi (Zis (ds:=s.map PyData.int) Za) Z2 (decide_eq_decide.mpr (by rw [List.length_map]; omega)))) fun s _ _=>rfl)
 ·rw [List.mem_filter,decide_eq_true_eq,List.length_pos_iff,pS.mem_iff]
  exact Zqu n h0 s
theorem Zq9 {n:Nat} (hn:n ≤ 100) {R:Nat→Nat→Int} {b:Int} (hb:0 < b) (bb:Bt 300 b) (bR:∀ i j,i < n→j < n→Bt 300 (R i j)):∃ (m k:Int) (S:Nat→Nat→Int),Told Z4 [tbD (J8 n R b)] (.int m)∧Told Ym [.int m,tbD (J8 n R b)] (Ja n S)∧0 < m∧0 < k∧b = m * k∧Bt 300 m∧∀ x y,x < n→y < n→k * S x y = R x y:=by
 have hz:∀ r ∈ J8 n R b,r.length ≤ 1000:=fun r hr=>by
  unfold J8 at hr
  obtain ⟨x,_,rfl⟩:=List.mem_map.mp hr
  rw [List.length_map,List.length_range]; omega
 have hB:Z2d (J8 n R b) b:=fun r hr q hq=>by
  unfold J8 at hr
  obtain ⟨x,_,rfl⟩:=List.mem_map.mp hr
  obtain ⟨y,_,rfl⟩:=List.mem_map.mp hq
  exact Zms (by omega)
 have hN:∀ r ∈ J8 n R b,∀ q ∈ r,Bt 300 q.num:=fun r hr q hq=>by
  unfold J8 at hr
  obtain ⟨x,hx,rfl⟩:=List.mem_map.mp hr
  obtain ⟨y,hy,rfl⟩:=List.mem_map.mp hq
  exact Zk7 (by omega) (bR x y (List.mem_range.mp hx) (List.mem_range.mp hy))
 obtain ⟨m,e1,m0,hm,k,rfl⟩:=Zcv hb bb (by decide) (J8 n R b) hz hB
 have k0:0 < k:=by
  by_cases c:0 < k
  ·exact c
  ·have:=Int.mul_nonpos_of_nonneg_of_nonpos (a:=m) (b:=k) (by omega) (by omega)
   omega
 have bm:Bt 300 m:=Zgz hb ⟨k,rfl⟩ bb
 have e2:=Zei m0 bm (J8 n R (m * k)) (by rw [Zgi]; omega) hz hm hN
 have er:PyData.list ((J8 n R (m * k)).map fun r=>.list (r.map fun q=>.int (scI m q))) = Ja n fun i j=>scI m (Rat.divInt (R i j) (m * k)):=by
  unfold J8 Ja
  rw [List.map_map]
  refine congrArg PyData.list (List.map_congr_left fun i _=>?_)
  show PyData.list _ = Zuf _ _
  rw [List.map_map]; rfl
 rw [er] at e2
 refine ⟨m,k,_,e1,e2,m0,k0,rfl,bm,fun x y hx hy=>?_⟩
 have hd:((Rat.divInt (R x y) (m * k)).den:Int) ∣ m:=hm _ (List.mem_map.mpr ⟨x,List.mem_range.mpr hx,rfl⟩) _ (List.mem_map.mpr ⟨y,List.mem_range.mpr hy,rfl⟩)
 have:=Zsi hd
 have e:((k * scI m (Rat.divInt (R x y) (m * k)):Int):Rat) = ((R x y:Int):Rat):=by
  have nk:((k:Int):Rat) ≠ 0:=by
   intro z
   have:k = 0:=by exact_mod_cast z
   omega
  have nm:((m:Int):Rat) ≠ 0:=by
   intro z
   have:m = 0:=by exact_mod_cast z
   omega
  rw [Rat.intCast_mul,this,Rat.divInt_eq_div,Rat.intCast_mul]
  rw [Rat.mul_comm,Rat.mul_assoc]
  exact Rat.div_mul_cancel (fun z=>(Rat.mul_eq_zero.mp z).elim nm nk)
 exact_mod_cast e
noncomputable def Z1i (L:List (List Int × Rat)):OT:=.nd ((L.map ctD).map OT.fz)
theorem Zlp (L:List (List Int × Rat)):(Z1i L).data = Zm4 L:=by unfold Z1i; rw [OT.data_nd,OT.map_fz]; rfl
noncomputable def wtL (Ls:List (List Int)) (W:List Int→Int) (b:Int):List (List Int × Rat):=(Ls.filter fun A=>decide (0 < W A)).map fun A=>(A,Rat.divInt (W A) (2 * b))
theorem Zzh {n:Nat} {R:Nat→Nat→Int} {b:Int} {δ:Zh} (h:δ[0]? = some (some (.fz (tbD (J8 n R b))))):EvV (Za9 Zcg (Zc (Zd 0) Zo)) δ (.int n):=Zaj (Zb (Za h) Zf) (by rw [Zrk,Zgi])
theorem Zmy {n:Nat} (hn:n ≤ 10) {R:Nat→Nat→Int} {b:Int} (hb:0 < b) (bb:Bt 300 b) (bR:∀ i j,i < n→j < n→Bt 300 (R i j)) {Ls:List (List Int)} (eC:Told Ye [.int n] (.list (Ls.map Zi))) (hL:∀ s ∈ Ls,Zmk n s) (lL:Ls.length ≤ 1000) {W:List Int→Int} (hW:∀ A ∈ Ls,∀ m,Lst R A (away n A) m→max 0 m = W A):Told Jg [tbD (J8 n R b),fnD "tree_rule"] (Zm4 (wtL Ls W b)):=by
 obtain ⟨m,k,S,e1,e2,m0,k0,rfl,bm,sc⟩:=Zq9 (n:=n) (by omega) hb bb bR
 obtain ⟨δ',e3,z5,z6,rfl⟩:=Zcy (it:=Zer (Zt Ye (Zc (Za9 Zcg (Zc (Zd 0) Zo)) Zo))) (g:=gNm 5) (S:=(Z3 (wE (Zt Zz (Zc (Zd 3) (Zc (Zd 5) (Zc (Zd 1) Zo)))) (Y4 6))
  (Zbe (tV (Zj gGt (Zd 6) (fC (.int 0))))
  (Y9 4 (Zez (Zc (Zd 5) (Zc (Zt Yd (Zc (Zd 6) (Zc (Zj Zfr (fC (.int 2)) (Zd 2)) Zo))) Zo))))
  fNx))) (δ:=[some (.fz (tbD (J8 n R (m * k)))),some (.fz (fnD "tree_rule")),some (.fz (.int m)),some (.fz (Ja n S)),some (.nd []),none,none]) (ds:=Ls.map Zi)
  (fun i δ=>∃ z5 z6,δ = [some (.fz (tbD (J8 n R (m * k)))),some (.fz (fnD "tree_rule")),some (.fz (.int m)),some (.fz (Ja n S)),some (Z1i (wtL (Ls.take i) W (m * k))),z5,z6]) (W6 (Zm (Zb (Zzh rfl) Zf) eC)) ⟨none,none,rfl⟩ (fun i d δ hd q=>by
   obtain ⟨z5,z6,rfl⟩:=q
   rw [List.getElem?_map] at hd
   cases e:Ls[i]? with
   | none=>rw [e] at hd; cases hd
   | some s =>
    rw [e] at hd
    cases hd
    have gs:=hL s (List.mem_of_getElem? e)
    have ls:s.length ≤ 100:=by
     obtain ⟨x,hx⟩:=List.exists_mem_of_ne_nil s gs.ne
     have n1:1 ≤ n:=by have:=gs.pt x hx; omega
     have:=(Zlk _ s ((Zqu n n1 s).mpr gs).1).1
     omega
    obtain ⟨mS,hm,eL⟩:=Zo0 (S:=S) (A:=s) (n:=n) (by omega) ls gs.pt gs.ne
    have hR:=hW s (List.mem_of_getElem? e) _ (hm.scaled k0 sc (fun x hx=>⟨by have:=(gs.pt x hx).1; omega,(gs.pt x hx).2⟩) fun x hx=>by
     obtain ⟨a1,a2,_⟩:=Za1.mp hx
     exact ⟨a1,a2⟩)
    rw [Zob k0] at hR
    have eF:=Zdx (n:=302) (t:=max 0 mS) (b:=2 * m) (by omega) (Bt.mul (m:=2) (Bt.of_lt (by decide) (by decide)) bm)
    have eD:Rat.divInt (W s) (2 * (m * k)) = Rat.divInt (max 0 mS) (2 * m):=by rw [← hR,show 2 * (m * k) = (2 * m) * k by rw [Int.mul_assoc],Zdl k0 (by omega)]
    have cw:0 < max 0 mS ↔ 0 < W s:=by
     rw [← hR]
     exact ⟨fun q=>Int.mul_pos k0 q,fun q=>Int.not_le.mp fun z=>by have:=Int.mul_nonpos_of_nonneg_of_nonpos (a:=k) (by omega) z; omega⟩
    have et:wtL (Ls.take (i + 1)) W (m * k) = wtL (Ls.take i) W (m * k) ++ if 0 < W s then [(s,Rat.divInt (W s) (2 * (m * k)))] else []:=by
     unfold wtL
     rw [List.take_succ,e,Option.toList_some,List.filter_append,List.map_append]
     by_cases c:0 < W s
     ·rw [if_pos c,List.filter_cons_of_pos (p:=fun A=>decide (0 < W A)) (decide_eq_true c)]; rfl
     ·rw [if_neg c,List.filter_cons_of_neg (p:=fun A=>decide (0 < W A)) (by rw [decide_eq_false c]; exact Bool.false_ne_true)]; rfl
    have ll:(wtL (Ls.take i) W (m * k)).length ≤ 1000:=by
     unfold wtL
     rw [List.length_map]
     exact Nat.le_trans (List.length_filter_le ..) (Nat.le_trans (List.length_take_le' ..) lL)
    by_cases c:0 < max 0 mS
    ·refine ⟨_,_,rfl,.inl (Yb (Zr (Zm (Zb Za (Zb Za (Zb Za Zf))) eL)) (Zbp (Zcf (Zmi Za Z2 (decide_eq_true c))) (Zf1 (d:=ctD (s,Rat.divInt (max 0 mS) (2 * m))) (ts:=((wtL (Ls.take i) W (m * k)).map ctD).map OT.fz) (Za2 (Zb Za (Zb (Zm (Zb Za (Zb (Zc0 Z2 Za) Zf)) eF) Zf)) (show 2 ≤ 1000 by decide)) rfl (by rw [List.length_map,List.length_map]; omega)))),some (.fz (Zi s)),some (.fz (.int (max 0 mS))),?_⟩
     rw [et,if_pos (cw.mp c),eD]
     show _ = [_,_,_,_,some (Z1i (wtL (Ls.take i) W (m * k) ++ [(s,Rat.divInt (max 0 mS) (2 * m))])),some (.fz (Zi s)),some (.fz (.int (max 0 mS)))]
     unfold Z1i
     rw [List.map_append,List.map_append]; rfl
    ·refine ⟨_,_,rfl,.inl (Yb (Zr (Zm (Zb Za (Zb Za (Zb Za Zf))) eL)) (Yl (Zcf (Zmi Za Z2 (decide_eq_false c))) rfl)),some (.fz (Zi s)),some (.fz (.int (max 0 mS))),?_⟩
     rw [et,if_neg (fun z=>c (cw.mpr z)),List.append_nil]; rfl)
 rw [List.length_map,List.take_length] at e3
 exact Zv rfl <| Zx (Zr (Zm (Zb Za Zf) e1)) <| Zx (Zr (Zm (Zb Za (Zb Za Zf)) e2)) <| Zx Zf7 <| Zx e3 (Z67 rfl (Zlp _))
noncomputable def al3 (x y z:Int):Bool:=decide ((Y0 [x,y,z]).getD 1 0 < (Y0 [x,y,z]).getD 2 0)
theorem Zm9 {ns:List Int} (h:ns.length < 64):Zoq [.tuple (ns.map PyData.int)] = some (.nd (((Y0 ns).map PyData.int).map OT.fz)):=by
 show ((Zet (ns.map PyData.int)).bind fun ns=>if ns.length < 64 then some (OT.nd (((Y0 ns).map PyData.int).map OT.fz)) else none) = _
 rw [Zao,Option.bind_some,if_pos h]
theorem Zw6 (x y z:Int):Told Z5 [.tuple [.int x,.int y,.int z]] (.bool (al3 x y z)):=by
 have l3:(Y0 [x,y,z]).length = 3:=(Wo _).length_eq
 exact Zv rfl <| Zx (Zr (Z1n (Zb (Za (d:=.tuple ([x,y,z].map PyData.int)) rfl) Zf) (Zm9 (show 3 < 64 by decide)) (Zrm _))) (Z8 (Zg5 (Wv Za (Z2 (d:=.int 1)) (by decide) (by rw [l3]; decide)) (Wv Za (Z2 (d:=.int 2)) (by decide) (by rw [l3]; decide)) rfl))
theorem Zmv {x y z:Int}:al3 x y z = true ↔ (x < z∧y < z)∨(x < y∧z < y)∨(y < x∧z < x):=by
 unfold al3
 rw [decide_eq_true_iff]
 by_cases a:y ≤ z
 ·have e1:Y0 [y,z] = [y,z]:=by show (if y ≤ z then _ else _) = _; rw [if_pos a]
  by_cases b:x ≤ y
  ·have:Y0 [x,y,z] = [x,y,z]:=by show insI x (Y0 [y,z]) = _; rw [e1]; show (if x ≤ y then _ else _) = _; rw [if_pos b]
   rw [this]; show y < z ↔ _; omega
  ·by_cases c:x ≤ z
   ·have:Y0 [x,y,z] = [y,x,z]:=by show insI x (Y0 [y,z]) = _; rw [e1]; show (if x ≤ y then _ else y :: if x ≤ z then _ else _) = _; rw [if_neg b,if_pos c]
    rw [this]; show x < z ↔ _; omega
   ·have:Y0 [x,y,z] = [y,z,x]:=by show insI x (Y0 [y,z]) = _; rw [e1]; show (if x ≤ y then _ else y :: if x ≤ z then _ else _) = _; rw [if_neg b,if_neg c]; rfl
    rw [this]; show z < x ↔ _; omega
 ·have e1:Y0 [y,z] = [z,y]:=by show (if y ≤ z then _ else _) = _; rw [if_neg a]; rfl
  by_cases b:x ≤ z
  ·have:Y0 [x,y,z] = [x,z,y]:=by show insI x (Y0 [y,z]) = _; rw [e1]; show (if x ≤ z then _ else _) = _; rw [if_pos b]
   rw [this]; show z < y ↔ _; omega
  ·by_cases c:x ≤ y
   ·have:Y0 [x,y,z] = [z,x,y]:=by show insI x (Y0 [y,z]) = _; rw [e1]; show (if x ≤ z then _ else z :: if x ≤ y then _ else _) = _; rw [if_neg b,if_pos c]
    rw [this]; show x < y ↔ _; omega
   ·have:Y0 [x,y,z] = [z,y,x]:=by show insI x (Y0 [y,z]) = _; rw [e1]; show (if x ≤ z then _ else z :: if x ≤ y then _ else _) = _; rw [if_neg b,if_neg c]; rfl
    rw [this]; show y < x ↔ _; omega
noncomputable def alS (S:Nat→Nat→Int) (p:List Nat):Bool:=match p with
 | [i,j,k,l]=>al3 (S i j + S k l) (S i k + S j l) (S i l + S j k)
 | _=>false
noncomputable def Zxr (n:Nat) (S:Nat→Nat→Int):Option PyData:=(rs n 4).findSome? fun p=>if alS S p = true then some (tpN p) else none
theorem Zjj {n:Nat} (hn:n ≤ 10) (S:Nat→Nat→Int):Told Jt [Ja n S] ((Zxr n S).getD .none):=by
 have hle:∀ {δ:Zh},δ[0]? = some (some (.fz (Ja n S)))→EvV (Za9 Zcg (Zc (Zd 0) Zo)) δ (.int n):=fun h=>Zaj (Zb (Za h) Zf) (Zlx n S)
 refine Zv rfl <| Zk0 (α:=Nat) (I:=fun δ=>∃ z1 z2 z3 z4,δ = [some (.fz (Ja n S)),z1,z2,z3,z4]) (Zjc (α:=List Nat) (J:=fun δ=>∃ z1 z2 z3 z4,δ = [some (.fz (Ja n S)),z1,z2,z3,z4]) tpN _ (rs n 4) (W6 (Zm (Zb (hle rfl) (Zb Z2 Zf)) (Zqr hn (by decide)))) ⟨none,none,none,none,rfl⟩ (fun _ h=>h) fun p hp δ q=>?_) fun δ q=>?_
 ·obtain ⟨z1,z2,z3,z4,rfl⟩:=q
  obtain ⟨l4,_,lt,_⟩:=Zq8 hp
  match p,l4 with
  | [i,j,k,l],_ =>
   have hi:=lt i (.head _)
   have hj:=lt j (.tail _ (.head _))
   have hk:=lt k (.tail _ (.tail _ (.head _)))
   have hl:=lt l (.tail _ (.tail _ (.tail _ (.head _))))
   have et:EvT (tD (Zt Z5 (Zc (Zt Z0 (Zc (Zd 0) (Zc (Zd 1) (Zc (Zd 2) (Zc (Zd 3) (Zc (Zd 4) Zo)))))) Zo))) [some (.fz (Ja n S)),some (.fz (.int i)),some (.fz (.int j)),some (.fz (.int k)),some (.fz (.int l))] (alS S [i,j,k,l]):=Zge (Zm (Zb (Zm (Zb Za (Zb Za (Zb Za (Zb Za (Zb Za Zf))))) (Zes hi hj hk hl)) Zf) (Zw6 _ _ _))
   refine ⟨_,rfl,?_⟩
   cases c:alS S [i,j,k,l] with
   | true =>
    rw [c] at et
    rw [if_pos rfl]
    exact Zk2 et (Zop (Za2 (Zb Za (Zb Za (Zb Za (Zb Za Zf)))) (show 4 ≤ 1000 by decide)))
   | false =>
    rw [c] at et
    rw [if_neg Bool.false_ne_true]
    exact Zlh et ⟨_,_,_,_,rfl⟩
 ·obtain ⟨z1,z2,z3,z4,rfl⟩:=q
  exact Z8 Z2
noncomputable def clp (n:Nat) (R:Nat→Nat→Int) (i j:Nat):Int:=if i < n∧j < n then R i j else 0
theorem Znl {n:Nat} {R:Nat→Nat→Int} {i j:Nat} (hi:i < n) (hj:j < n):clp n R i j = R i j:=if_pos ⟨hi,hj⟩
theorem Zwq (n:Nat) (R:Nat→Nat→Int) (b:Int):J8 n R b = J8 n (clp n R) b:=by
 unfold J8
 exact List.map_congr_left fun i hi=>List.map_congr_left fun j hj=>by rw [Znl (List.mem_range.mp hi) (List.mem_range.mp hj)]
theorem Zhj {α β:Type} {f g:α→Option β}:∀ {l:List α},(∀ x ∈ l,f x = g x)→l.findSome? f = l.findSome? g
 | [],_=>rfl
 | x :: l,h=>by rw [List.findSome?_cons,List.findSome?_cons,h x (.head _),Zhj fun y hy=>h y (.tail _ hy)]
theorem Zqx {n:Nat} {c c':Nat→Nat→Nat→Bool} {v:Nat→Nat→Nat→PyData} (h:∀ i j k,i < n→j < n→k < n→c i j k = c' i j k):sc3 n c v = sc3 n c' v:=by
 unfold sc3
 exact Zhj fun i hi=>Zhj fun j hj=>Zhj fun k hk=>by rw [h i j k (List.mem_range.mp hi) (List.mem_range.mp hj) (List.mem_range.mp hk)]
theorem Zs4 {n:Nat} (hn:n ≤ 10) {R:Nat→Nat→Int} {b:Int} (hb:0 < b) (bb:Bt 300 b) (bR:∀ i j,i < n→j < n→Bt 300 (R i j)):Told Wg [tbD (J8 n R b)] ((sc3 n (shI R) tpI).getD .none):=by
 have e:=Zic hn (Z7u (R:=clp n R) hb bb fun i j=>by
  unfold clp
  split
  ·rename_i c; exact bR i j c.1 c.2
  ·exact Bt.mono (m:=1) (Bt.of_lt (by decide) (by decide)) (by decide))
 rw [Z8p hb,← Zqz,← Zwq] at e
 rwa [Zqx (c:=shI (clp n R)) (c':=shI R) fun i j k hi hj hk=>by unfold shI; rw [Znl hi hj,Znl hj hk,Znl hi hk]] at e
theorem Ztb {k x y:Int} (hk:0 < k):k * x < k * y ↔ x < y:=⟨fun h=>Int.lt_of_mul_lt_mul_left h (by omega),fun h=>Int.mul_lt_mul_of_pos_left h hk⟩
theorem Zp8 {k x y z:Int} (hk:0 < k):al3 (k * x) (k * y) (k * z) = al3 x y z:=by
 rw [Bool.eq_iff_iff,Zmv,Zmv]
 simp only [Ztb hk]
theorem Zmn {n:Nat} {R S:Nat→Nat→Int} {k:Int} (hk:0 < k) (sc:∀ x y,x < n→y < n→k * S x y = R x y):Zxr n S = Zxr n R:=by
 unfold Zxr
 refine Zhj fun p hp=>?_
 obtain ⟨l4,_,lt,_⟩:=Zq8 hp
 match p,l4 with
 | [i,j,k',l],_ =>
  have hi:=lt i (.head _)
  have hj:=lt j (.tail _ (.head _))
  have hk':=lt k' (.tail _ (.tail _ (.head _)))
  have hl:=lt l (.tail _ (.tail _ (.tail _ (.head _))))
  have e:alS R [i,j,k',l] = alS S [i,j,k',l]:=by
   show al3 _ _ _ = al3 _ _ _
   rw [← sc i j hi hj,← sc k' l hk' hl,← sc i k' hi hk',← sc j l hj hl,← sc i l hi hl,← sc j k' hj hk',← Int.mul_add,← Int.mul_add,← Int.mul_add,Zp8 hk]
  rw [e]
noncomputable def Zq3 (n:Nat) (R:Nat→Nat→Int):Option PyData:=match sc3 n (shI R) tpI with | some d=>some d | none=>Zxr n R
theorem Zxp {n:Nat} {c:Nat→Nat→Nat→Bool} {d:PyData} (h:sc3 n c tpI = some d):∃ i j k,d = tpI i j k∧i < n∧j < n∧k < n∧c i j k = true:=by
 unfold sc3 at h
 obtain ⟨i,hi,h⟩:=List.exists_of_findSome?_eq_some h
 obtain ⟨j,hj,h⟩:=List.exists_of_findSome?_eq_some h
 obtain ⟨k,hk,h⟩:=List.exists_of_findSome?_eq_some h
 by_cases e:c i j k = true
 ·rw [if_pos e] at h
  cases h
  exact ⟨i,j,k,rfl,List.mem_range.mp hi,List.mem_range.mp hj,List.mem_range.mp hk,e⟩
 ·rw [if_neg e] at h; cases h
section
variable {n:Nat} {R:Nat→Nat→Int} {b:Int}
theorem Zjx (hn:n ≤ 10) (hb:0 < b) (bb:Bt 300 b) (bR:∀ i j,i < n→j < n→Bt 300 (R i j)):Told Js [tbD (J8 n R b)] ((Zq3 n R).getD .none):=by
 have e:=Zs4 hn hb bb bR
 unfold Zq3
 cases q:sc3 n (shI R) tpI with
 | some d =>
  rw [q] at e
  obtain ⟨i,j,k,rfl,_⟩:=Zxp q
  exact Zv rfl <| Zx (Zr (Zm (Zb Za Zf) e)) <| Zay (Zd8 (Zcf (Zu (Za (d:=tpI i j k) rfl) Z2 rfl)) (Z8 (Za (d:=tpI i j k) rfl)))
 | none =>
  rw [q] at e
  obtain ⟨m,k,S,e1,e2,m0,k0,rfl,bm,sc⟩:=Zq9 (n:=n) (by omega) hb bb bR
  have e3:=Zjj hn S
  rw [Zmn k0 sc] at e3
  exact Zv rfl <| Zx (Zr (Zm (Zb Za Zf) e)) <| Zx (Yl (Zcf (Zu (Za (d:=.none) rfl) Z2 rfl)) rfl) (Z8 (Zm (Zb (Zm (Zb (Zm (Zb Za Zf) e1) (Zb Za Zf)) e2) Zf) e3))
theorem Zy8 {d:PyData} (h:Zxr n R = some d):∃ p,d = tpN p∧p ∈ rs n 4∧alS R p = true:=by
 obtain ⟨p,hp,h⟩:=List.exists_of_findSome?_eq_some h
 by_cases e:alS R p = true
 ·rw [if_pos e] at h
  cases h
  exact ⟨p,rfl,hp,e⟩
 ·rw [if_neg e] at h; cases h
theorem Ztp (hn:n ≤ 10) (hb:0 < b) (bb:Bt 300 b) (bR:∀ i j,i < n→j < n→Bt 300 (R i j)) {Ls:List (List Int)} (eC:Told Ye [.int n] (.list (Ls.map Zi))) (hL:∀ s ∈ Ls,Zmk n s) (lL:Ls.length ≤ 1000) {W:List Int→Int} (hW:∀ A ∈ Ls,∀ m,Lst R A (away n A) m→max 0 m = W A) (h:Zq3 n R = none):Told Wy [tbD (J8 n R b)] (.tuple [.str "tree", Zm4 (wtL Ls W b)]):=by
 have e:=Zjx hn hb bb bR
 rw [h] at e
 exact Zv rfl <| Zx (Zr (Zm (Zb Za Zf) e)) <| Zx (Yl (Zcf (Zu (Za (d:=.none) rfl) Z2 rfl)) rfl) (Z8 (Za2 (Zb Z2 (Zb (Zm (Zb Za (Zb Z2 Zf)) (Zmy hn hb bb bR eC hL lL hW)) Zf)) (show 2 ≤ 1000 by decide)))
end
section
variable {n:Nat} {Z:List (List Int × Int)}
theorem Zwu (LL:Lam n (Z.map Prod.fst)) (w0:∀ q ∈ Z,0 ≤ q.2):Zq3 n (cz Z) = none:=by
 have h1:sc3 n (shI (cz Z)) tpI = none:=by
  cases q:sc3 n (shI (cz Z)) tpI with
  | none=>rfl
  | some d =>
   obtain ⟨i,j,k,_,_,_,_,c⟩:=Zxp q
   have:=of_decide_eq_true c
   have:=Zy6 w0 i j k
   omega
 have h2:Zxr n (cz Z) = none:=by
  cases q:Zxr n (cz Z) with
  | none=>rfl
  | some d =>
   obtain ⟨p,_,hp,c⟩:=Zy8 q
   obtain ⟨l4,_⟩:=Zq8 hp
   match p,l4 with
   | [i,j,k,l],_ =>
    have c:al3 (cz Z i j + cz Z k l) (cz Z i k + cz Z j l) (cz Z i l + cz Z j k) = true:=c
    obtain ⟨x,y,z,rfl,rfl,rfl,n1,n2,n3⟩:=Ztm LL w0 i j k l
    rw [Zmv] at c
    omega
 unfold Zq3
 rw [h1]
 exact h2
theorem Zf8 (x y:Nat):cz Z x y = cz Z y x:=by
 unfold cz
 exact congrArg List.sum (List.map_congr_left fun q _=>by rw [Zov])
theorem Zr4 (LL:Lam n (Z.map Prod.fst)) (w0:∀ q ∈ Z,0 ≤ q.2) (h1:1 ≤ n) {A:List Int} (hA:Zmk n A) {m:Int} (hm:Lst (cz Z) A (away n A) m):max 0 m = 2 * wA Z A:=by
 refine Zrt LL w0 h1 hA ?_ fun a ha b hb c e c0 cn cA e0 en eA=>?_
 ·obtain ⟨⟨⟨a,b⟩,hp,⟨c,e⟩,hq,rfl⟩,_⟩:=hm
  obtain ⟨p1,p2⟩:=Zip hp
  obtain ⟨q1,q2⟩:=Zip hq
  obtain ⟨c0,_,cA⟩:=Za1.mp q1
  obtain ⟨e0,_,eA⟩:=Za1.mp q2
  rcases (Zrw (R:=cz Z) Zf8 a b c e).2.2 with q | q
  ·exact ⟨a,p1,b,p2,c,e,⟨c0,cA⟩,⟨e0,eA⟩,q⟩
  ·exact ⟨a,p1,b,p2,e,c,⟨e0,eA⟩,⟨c0,cA⟩,q⟩
 ·have hc:c ∈ away n A:=Za1.mpr ⟨c0,cn,cA⟩
  have he:e ∈ away n A:=Za1.mpr ⟨e0,en,eA⟩
  rcases Zxf ha hb with d1 | d1 <;> rcases Zxf hc he with d2 | d2
  ·exact Int.le_trans (hm.2 _ d1 _ d2) (Zrw (R:=cz Z) Zf8 a b c e).1
  ·exact Zyj (R:=cz Z) Zf8 a b c e ▸ Int.le_trans (hm.2 _ d1 _ d2) (Zrw (R:=cz Z) Zf8 a b e c).2.1
  ·exact Int.le_trans (hm.2 _ d1 _ d2) (Zrw (R:=cz Z) Zf8 b a c e).2.1
  ·exact Zyj (R:=cz Z) Zf8 a b c e ▸ Int.le_trans (hm.2 _ d1 _ d2) (Zrw (R:=cz Z) Zf8 b a e c).1
noncomputable def trL (Ls:List (List Int)) (Z:List (List Int × Int)) (b:Int):List (List Int × Rat):=(Ls.filter fun A=>decide (0 < wA Z A)).map fun A=>(A,Rat.divInt (wA Z A) b)
theorem Z4a {Ls:List (List Int)} {b:Int} (hb:0 < b):wtL Ls (fun A=>2 * wA Z A) b = trL Ls Z b:=by
 unfold wtL trL
 rw [show (fun A=>decide (0 < 2 * wA Z A)) = fun A=>decide (0 < wA Z A) from funext fun A=>decide_eq_decide.mpr (by omega)]
 refine List.map_congr_left fun A _=>?_
 rw [Int.mul_comm 2 b,Zdl (by decide) hb]
theorem Zw3 (h1:1 ≤ n) (hn:n ≤ 10) (LL:Lam n (Z.map Prod.fst)) (w0:∀ q ∈ Z,0 ≤ q.2) {b:Int} (hb:0 < b) (bb:Bt 300 b) (bR:∀ i j,i < n→j < n→Bt 300 (cz Z i j)) {Ls:List (List Int)} (eC:Told Ye [.int n] (.list (Ls.map Zi))) (hL:∀ s ∈ Ls,Zmk n s) (lL:Ls.length ≤ 1000):Told Wy [tbD (J8 n (cz Z) b)] (.tuple [.str "tree", Zm4 (trL Ls Z b)]):=by
 have:=Ztp hn hb bb bR eC hL lL (W:=fun A=>2 * wA Z A) (fun A hA m hm=>Zr4 LL w0 h1 (hL A hA) hm) (Zwu LL w0)
 rwa [Z4a hb] at this
end
theorem Z4e {Z:List (List Int × Int)} (w0:∀ q ∈ Z,0 ≤ q.2) (A:List Int):0 ≤ wA Z A:=by
 have:∀ F:List (List Int × Int),(∀ q ∈ F,0 ≤ q.2)→0 ≤ (F.map fun q=>q.2).sum:=by
  intro F
  induction F with
  | nil=>exact fun _=>Int.le_refl _
  | cons q F ih=>exact fun h=>by rw [List.map_cons,List.sum_cons]; exact Int.add_nonneg (h q (.head _)) (ih fun r hr=>h r (.tail _ hr))
 exact this _ fun q hq=>w0 q (List.mem_filter.mp hq).1
theorem Z8y {Z:List (List Int × Int)} {c:Int} (h0:0 ≤ c) (h:∀ q ∈ Z,0 ≤ q.2∧q.2 ≤ c) (A:List Int):wA Z A ≤ Z.length * c:=by
 unfold wA
 induction Z with
 | nil=>simp
 | cons q Z ih =>
  have i:=ih fun r hr=>h r (.tail _ hr)
  have hq:=h q (.head _)
  rw [List.length_cons,Int.natCast_add,Int.add_mul,Int.natCast_one,Int.one_mul]
  by_cases e:q.1 = A
  ·rw [List.filter_cons_of_pos (p:=fun q:List Int × Int=>decide (q.1 = A)) (decide_eq_true e),List.map_cons,List.sum_cons]; omega
  ·rw [List.filter_cons_of_neg (p:=fun q:List Int × Int=>decide (q.1 = A)) (by rw [decide_eq_false e]; exact Bool.false_ne_true)]; omega
theorem Z0n (q:List Int × Int) (Z:List (List Int × Int)) (A:List Int):wA (q :: Z) A = (if q.1 = A then q.2 else 0) + wA Z A:=by
 unfold wA
 by_cases e:q.1 = A
 ·rw [List.filter_cons_of_pos (p:=fun q:List Int × Int=>decide (q.1 = A)) (decide_eq_true e),List.map_cons,List.sum_cons,if_pos e]
 ·rw [List.filter_cons_of_neg (p:=fun q:List Int × Int=>decide (q.1 = A)) (by rw [decide_eq_false e]; exact Bool.false_ne_true),if_neg e,Int.zero_add]
theorem Zog {a:List Int} {v:Int}:∀ {Ls:List (List Int)},Ls.Nodup→a ∈ Ls→(Ls.map fun A=>if a = A then v else 0).sum = v
 | [],_,h=>nomatch h
 | x :: l,nd,h=>by
  obtain ⟨n1,n2⟩:=List.nodup_cons.mp nd
  rw [List.map_cons,List.sum_cons]
  by_cases e:a = x
  ·subst e
   have z:∀ l:List (List Int),a ∉ l→(l.map fun A=>if a = A then v else 0).sum = 0:=by
    intro l
    induction l with
    | nil=>exact fun _=>rfl
    | cons y l ih =>
     intro hn
     rw [List.map_cons,List.sum_cons,if_neg (fun e=>hn (by rw [e]; exact .head _)),ih fun m=>hn (.tail _ m)]; rfl
   rw [if_pos rfl,z l n1,Int.add_zero]
  ·rw [if_neg e,Zog n2 ((List.mem_cons.mp h).resolve_left e),Int.zero_add]
theorem Z9g {Z:List (List Int × Int)} {Ls:List (List Int)} (nd:Ls.Nodup) (i j:Nat) (h:∀ q ∈ Z,q.1 ∈ Ls):(Ls.map fun A=>if sep A i j = true then wA Z A else 0).sum = cz Z i j:=by
 induction Z with
 | nil =>
  clear h nd
  induction Ls with
  | nil=>rfl
  | cons A Ls ih=>rw [List.map_cons,List.sum_cons,ih]; show (if sep A i j = true then (0:Int) else 0) + 0 = 0; split <;> rfl
 | cons q Z ih =>
  have i1:=ih fun r hr=>h r (.tail _ hr)
  have e:(Ls.map fun A=>if sep A i j = true then wA (q :: Z) A else 0).sum = (Ls.map fun A=>if q.1 = A then (if sep q.1 i j = true then q.2 else 0) else 0).sum + (Ls.map fun A=>if sep A i j = true then wA Z A else 0).sum:=by
   clear ih i1 h nd
   induction Ls with
   | nil=>rfl
   | cons A Ls ih =>
    rw [List.map_cons,List.map_cons,List.map_cons,List.sum_cons,List.sum_cons,List.sum_cons,ih,Z0n]
    by_cases c:q.1 = A
    ·subst c
     rw [if_pos rfl,if_pos rfl]
     split <;> omega
    ·rw [if_neg c,if_neg c]
     split <;> omega
  rw [e,i1,Zog nd (h q (.head _))]; rfl
theorem Zqp (i j:Nat) (p:List Int × Rat):prt i j p = sep p.1 i j:=by
 unfold prt sdc sep
 by_cases a:(i:Int) ∈ p.1 <;> by_cases b:(j:Int) ∈ p.1 <;> simp [a,b]
theorem Z5f {Z:List (List Int × Int)} {b:Int} (hb:0 < b) (w0:∀ q ∈ Z,0 ≤ q.2) (i j:Nat):∀ Ls:List (List Int),SmL (trL Ls Z b) i j = Rat.divInt ((Ls.map fun A=>if sep A i j = true then wA Z A else 0).sum) b:=by
 intro Ls
 unfold SmL trL
 induction Ls with
 | nil=>exact (Rat.zero_divInt b).symm
 | cons A Ls ih =>
  rw [List.map_cons,List.sum_cons,← Ztn,← ih]
  have nn:=Z4e w0 A
  by_cases c:0 < wA Z A
  ·rw [List.filter_cons_of_pos (p:=fun A=>decide (0 < wA Z A)) (decide_eq_true c),List.map_cons]
   cases e:sep A i j with
   | true=>rw [List.filter_cons_of_pos (by rw [Zqp]; exact e),List.map_cons,List.sum_cons,if_pos rfl]
   | false=>rw [List.filter_cons_of_neg (by rw [Zqp,e]; exact Bool.false_ne_true),if_neg Bool.false_ne_true,Rat.zero_divInt,Rat.zero_add]
  ·rw [List.filter_cons_of_neg (p:=fun A=>decide (0 < wA Z A)) (by rw [decide_eq_false c]; exact Bool.false_ne_true)]
   have:wA Z A = 0:=by omega
   rw [this]
   have:(if sep A i j = true then (0:Int) else 0) = 0:=by split <;> rfl
   rw [this,Rat.zero_divInt,Rat.zero_add]
theorem Zpj {n:Nat} (hn:n ≤ 10) {Z:List (List Int × Int)} {Ls:List (List Int)} (nd:Ls.Nodup) (l64:Ls.length < 64) (hZ:∀ q ∈ Z,q.1 ∈ Ls) (w0:∀ q ∈ Z,0 ≤ q.2∧q.2 ≤ 1000 * B20) (lZ:Z.length ≤ 60) {b:Int} (hb:0 < b) (bb:Bt 200 b):Told Wl [.int n,Zm4 (trL Ls Z b)] (tbD (J8 n (cz Z) b)):=by
 have wn:=fun q hq=>(w0 q hq).1
 have hl:(trL Ls Z b).length < 64:=by
  unfold trL
  rw [List.length_map]
  exact Nat.lt_of_le_of_lt (List.length_filter_le ..) l64
 refine ⟨_,Zm2 (n:=n) hn (trL Ls Z b) hl (B:=b) hb bb fun p hp=>?_,?_⟩
 ·obtain ⟨A,_,rfl⟩:=List.mem_map.mp hp
  have w1:=Z4e wn A
  have w2:=Z8y (c:=1000 * B20) (by decide) w0 A
  have w3:(Z.length:Int) * (1000 * B20) ≤ 60 * (1000 * B20):=Int.mul_le_mul_of_nonneg_right (by omega) (by decide)
  refine ⟨Zms (by omega),Zk7 (by omega) (Bt.of_lt ?_ ?_)⟩
  ·have:(0:Int) < 2 ^ 200:=by decide +kernel
   show -2 ^ 200 < wA Z A
   omega
  ·have:60 * (1000 * B20) < 2 ^ 200:=by decide +kernel
   show wA Z A < 2 ^ 200
   omega
 ·rw [Zpn,Zqz]
  unfold Zh0
  refine congrArg PyData.list (List.map_congr_left fun i _=>congrArg PyData.list (List.map_congr_left fun j _=>?_))
  have e:∀ i j,SmL (trL Ls Z b) i j = Rat.divInt (cz Z i j) b:=fun i j=>by rw [Z5f hb wn,Z9g nd i j hZ]
  show Zkz (Zia (trL Ls Z b)) i j = frD _
  unfold Zkz
  by_cases c:i < j
  ·rw [if_pos c]; exact congrArg frD (e i j)
  ·rw [if_neg c]
   by_cases c2:j < i
   ·rw [if_pos c2]; exact (congrArg frD (e j i)).trans (by rw [Zf8])
   ·rw [if_neg c2,show i = j by omega]
    have:cz Z j j = 0:=by
     unfold cz
     rw [show (Z.map fun q=>if sep q.1 j j = true then q.2 else 0) = Z.map fun _=>0 from List.map_congr_left fun q _=>by rw [Zot,if_neg Bool.false_ne_true]]
     clear hZ w0 wn hl e lZ
     induction Z with
     | nil=>rfl
     | cons q Z ih=>rw [List.map_cons,List.sum_cons,ih]; rfl
    show Zg0 = frD (Rat.divInt (cz Z j j) b)
    rw [this,Rat.zero_divInt]; rfl
theorem Zus (c:Int):∃ b,Told Wn [.int c] (.int b)∧0 < b∧Bt 200 b:=by
 obtain ⟨d,e,h⟩:=ix4 (x:=.int 1) (y:=.int 2) (z:=.int 6) (w:=.int (1000000000000000 + 37)) (v:=(c.fdiv 3).fmod 4) (Zeb (by decide)) (Zdw (by decide))
 have key:∀ b:Int,d = .int b→0 < b→Bt 200 b→∃ b,Told Wn [.int c] (.int b)∧0 < b∧Bt 200 b:=fun b hd h1 h2=>⟨b,Zv rfl (Z8 (hd ▸ Ww (Zgb (Zb Z2 (Zb Z2 (Zb Z2 (Zb (W4 (Zu Z2 Z2 Ydg) Z2) Zf)))) (show 4 ≤ 1000 by decide)) (Zaa (Zco Za Z2) Z2 (by decide)) e)),h1,h2⟩
 rcases h with h | h | h | h
 ·exact key _ h (by decide) (btc (by decide +kernel) (by decide +kernel))
 ·exact key _ h (by decide) (btc (by decide +kernel) (by decide +kernel))
 ·exact key _ h (by decide) (btc (by decide +kernel) (by decide +kernel))
 ·exact key _ h (by decide) (btc (by decide +kernel) (by decide +kernel))
theorem Z0g:PyData.strOk "tree" = true:=by decide +kernel
theorem Zo9 (k:Nat) (L:List (List Int × Rat)):Told (Zn (k + 5)) [.tuple [.str "tree", Zm4 L],.tuple [.str "tree", Zm4 L]] (.bool true):=Zap (ds:=[.str "tree", Zm4 L]) (.inr rfl) fun d m=>by
 rcases List.mem_cons.mp m with rfl | m
 ·exact Zry (k + 3) Z0g
 rw [List.mem_singleton.mp m]
 refine Zap (k:=k + 3) (ds:=L.map ctD) (.inl rfl) fun d m=>?_
 obtain ⟨c,_,rfl⟩:=List.mem_map.mp m
 refine Zap (k:=k + 2) (ds:=[Zi c.1,frD c.2]) (.inr rfl) fun d m=>?_
 rcases List.mem_cons.mp m with rfl | m
 ·refine Zap (k:=k + 1) (ds:=c.1.map PyData.int) (.inl rfl) fun d m=>?_
  obtain ⟨i,_,rfl⟩:=List.mem_map.mp m
  exact Zgw k i
 ·rw [List.mem_singleton.mp m]; exact Zjt k _
noncomputable def lwE (ns:List Int) (n:Nat) (c b:Int) (Ls:List (List Int)) (vs:List Int) (T:PyData) (due:List (List Int × Rat)) (z8 z9 z10:Option OT):Zh:=[some (.fz (Zi ns)),some (.fz (.int n)),some (.fz (.int c)),some (.fz (.list (Ls.map Zi))),some (.fz (Zi vs)),some (.fz (.int b)),some (.fz T),some (Z1i due),z8,z9,z10]
theorem Zu6 (ns:List Int) (hl:ns.length ≤ 63):Zfu [.list (ns.map PyData.int)] = .ok (.fz (.bool true)):=by
 show Zfu [Zi ns] = _
 obtain ⟨c0,e0⟩:=Zig ns (k:=0) (by decide)
 obtain ⟨c1,e1⟩:=Zig ns (k:=1) (by decide)
 obtain ⟨n,en,h2,hn⟩:∃ n:Nat,W7 [.int c0,.int 2,.int 5,.int 6] = .ok (.fz (.int n))∧2 ≤ n∧n ≤ 6:=by
  obtain ⟨m,e,h1,h2⟩:=Z12 c0 (a:=2) (b:=5) (d:=6) (by decide) (by decide)
  exact ⟨m.toNat,by rw [e,Int.toNat_of_nonneg (by omega)],by omega,by omega⟩
 have n10:n ≤ 10:=by omega
 obtain ⟨b,eb,hb,bb⟩:=Zus c1
 have bb3:Bt 300 b:=bb.mono (by decide)
 obtain ⟨Ls,eS,lS,LS,ndS⟩:=Zky (c1.fdiv 12) (n:=n) (by omega) n10
 obtain ⟨vs,eV,lV,bV⟩:=Zp1 ns 2 Ls.length c1 (by omega)
 have bV2:∀ v ∈ vs,0 ≤ v∧v < 1000 * B20:=fun v hv=>by
  have:=bV v hv
  have:(0:Int) < B20:=by decide
  omega
 obtain ⟨eR,WR⟩:=Zqy n10 (Ls:=Ls) (vs:=vs) (by omega) bV2
 obtain ⟨Z,hZ⟩:∃ Z,Z = Ls.zip vs:=⟨_,rfl⟩
 rw [← hZ] at eR WR
 have fz:Z.map Prod.fst = Ls:=by rw [hZ,List.map_fst_zip (by omega)]
 have LL:Lam n (Z.map Prod.fst):=by rw [fz]; exact LS
 have lZ:Z.length ≤ 60:=by rw [hZ,List.length_zip]; omega
 have wZ:∀ q ∈ Z,0 ≤ q.2∧q.2 ≤ 1000 * B20:=fun q hq=>by
  rw [hZ] at hq
  have:=bV2 q.2 (List.of_mem_zip hq).2
  omega
 have w0:∀ q ∈ Z,0 ≤ q.2:=fun q hq=>(wZ q hq).1
 have eT:=Zkg n10 (cz Z) hb bb3
 obtain ⟨Cs,eC,mC,ndC,lC⟩:=Zmj (n:=n) (by omega) hn
 have Tt:=Zw3 (by omega) n10 LL w0 hb bb3 WR.bt eC (fun s hs=>(mC s).mp hs) (by omega)
 have Tb:=Zpj n10 ndC lC (fun q hq=>(mC _).mpr (LL.ok _ (Zgt hq))) wZ lZ hb bb
 have zd:Zhy (Ls.map Zi) (vs.map PyData.int) = Z.map fun q=>.tuple [Zi q.1,.int q.2]:=by rw [hZ]; exact Zjp _ _ _ _
 refine Told.ok (Zv rfl ?_)
 refine Zx (Zr (Zm (Zb (Zm (Zb Za (Zb Z2 Zf)) (.of e0 (OT.data_fz _))) (Zb Z2 (Zb Z2 (Zb Z2 Zf)))) (.of en (OT.data_fz _)))) <| Zx (Zr (Zm (Zb Za (Zb Z2 Zf)) (.of e1 (OT.data_fz _)))) <|
  Zx (Zr (Zm (Zb (Zco Za Z2) (Zb Za Zf)) eS)) <| Zx (Zr (Zm (Zb Za (Zb Z2 (Zb ((Zis (ds:=Ls.map Zi) Za).cast (by rw [List.length_map])) (Zb Za Zf)))) eV)) <|
  Zx (Zr (Zm (Zb Za Zf) eb)) <| Zx (Zr (Zm (Zb (Zm (Zb Za (Zb Za (Zb Za Zf))) eR) (Zb Za Zf)) eT)) <| Zx Zf7 <|
  Zho (ds:=Cs.map Zi) (fun i δ=>∃ z8 z9,δ = lwE ns n c1 b Ls vs (tbD (J8 n (cz Z) b)) (trL (Cs.take i) Z b) z8 z9 none) (W6 (Zm (Zb Za Zf) eC)) ⟨none,none,rfl⟩ (fun i d δ hd q=>?_) fun δ' q=>?_
 ·obtain ⟨z8,z9,rfl⟩:=q
  rw [List.getElem?_map] at hd
  cases e:Cs[i]? with
  | none=>rw [e] at hd; cases hd
  | some A =>
   rw [e] at hd
   cases hd
   have gA:=(mC A).mp (List.mem_of_getElem? e)
   have lA:A.length ≤ 100:=by
    have:=(Zlk _ A ((Zqu n (by omega) A).mpr gA).1).1
    omega
   obtain ⟨m,hm,eW⟩:=Zh3 (R:=cz Z) (b:=b) (n:=n) (by omega) lA (Ztw.mpr ⟨gA.ne,gA.up,gA.pt⟩) hb bb3 WR.bt
   rw [Zr4 LL w0 (by omega) gA hm,Int.mul_comm 2 b,Zdl (by decide) hb] at eW
   have eF:=Zij (t:=wA Z A) hb bb3
   have es:∀ {z9 z10:Option OT} {due:List (List Int × Rat)},EvV (Za9 Z1d (Zc (Yx 2 [8] (Zdm (Zc (Zd 3) (Zc (Zd 4) Zo))) (gTp 2 (gCn (gNm 0) (gCn (gNm 1) gNl))) (tV (Zj gEq (Zd 0) (Zd 2))) (Zd 1)) Zo)) (lwE ns n c1 b Ls vs (tbD (J8 n (cz Z) b)) due (some (.fz (Zi A))) z9 z10) (.int (wA Z A)):=fun {z9 z10 due} =>
    Zaj (Zb ((Zv1 (cs:=[some (.fz (Zi A))]) Z (fun q=>Zi q.1) (fun q=>.int q.2) (fun q=>decide (q.1 = A)) (fun q=>.int q.2) (Zgv (Za rfl) (Za (d:=Zi vs) rfl) zd) (by omega) rfl (fun _ _ _ _=>rfl) (fun q _=>Zcf (Zu Za Za (Zu7 _ _))) fun q _ _=>Za rfl).cast (y:=Zi ((Z.filter fun q=>decide (q.1 = A)).map fun q=>q.2)) (by unfold Zi; rw [List.map_map]; rfl)) Zf) (Zlr _)
   have et:trL (Cs.take (i + 1)) Z b = trL (Cs.take i) Z b ++ if 0 < wA Z A then [(A,Rat.divInt (wA Z A) b)] else []:=by
    unfold trL
    rw [List.take_succ,e,Option.toList_some,List.filter_append,List.map_append]
    by_cases c:0 < wA Z A
    ·rw [if_pos c,List.filter_cons_of_pos (p:=fun A=>decide (0 < wA Z A)) (decide_eq_true c)]; rfl
    ·rw [if_neg c,List.filter_cons_of_neg (p:=fun A=>decide (0 < wA Z A)) (by rw [decide_eq_false c]; exact Bool.false_ne_true)]; rfl
   have ll:(trL (Cs.take i) Z b).length ≤ 1000:=by
    unfold trL
    rw [List.length_map]
    exact Nat.le_trans (List.length_filter_le ..) (Nat.le_trans (List.length_take_le' ..) (by omega))
   have s1:Zbe (tNo (tD (Zt (Zn 6) (Zc (Zt Wj (Zc (Zd 6) (Zc (Zd 8) Zo))) (Zc (Zt Yu (Zc (Zd 9) (Zc (Zd 5) Zo))) Zo))))) (wE (fC (.bool false)) W3) fNx (lwE ns n c1 b Ls vs (tbD (J8 n (cz Z) b)) (trL (Cs.take i) Z b) (some (.fz (Zi A))) (some (.fz (.int (wA Z A)))) none) = .nx (lwE ns n c1 b Ls vs (tbD (J8 n (cz Z) b)) (trL (Cs.take i) Z b) (some (.fz (Zi A))) (some (.fz (.int (wA Z A)))) none) :=
    Yl (Zh5 (p:=true) (Zge (Zm (Zb (Zm (Zb (Za (i:=6) rfl) (Zb (Za (i:=8) rfl) Zf)) eW) (Zb (Zm (Zb (Za (i:=9) rfl) (Zb (Za (i:=5) rfl) Zf)) eF) Zf)) (Zjt 4 _)))) rfl
   have s2:Zbe (tV (Zj gGt (Zd 9) (fC (.int 0)))) (Y9 7 (Zez (Zc (Zd 8) (Zc (Zt Yu (Zc (Zd 9) (Zc (Zd 5) Zo))) Zo)))) fNx (lwE ns n c1 b Ls vs (tbD (J8 n (cz Z) b)) (trL (Cs.take i) Z b) (some (.fz (Zi A))) (some (.fz (.int (wA Z A)))) none) = .nx (lwE ns n c1 b Ls vs (tbD (J8 n (cz Z) b)) (trL (Cs.take (i + 1)) Z b) (some (.fz (Zi A))) (some (.fz (.int (wA Z A)))) none):=by
    rw [et]
    by_cases c:0 < wA Z A
    ·rw [if_pos c]
     refine (Zbp (Zcf (Zmi (Za (i:=9) rfl) Z2 (decide_eq_true c))) (Zf1 (i:=7) (d:=ctD (A,Rat.divInt (wA Z A) b)) (ts:=((trL (Cs.take i) Z b).map ctD).map OT.fz) (Za2 (Zb (Za (i:=8) rfl) (Zb (Zm (Zb (Za (i:=9) rfl) (Zb (Za (i:=5) rfl) Zf)) eF) Zf)) (show 2 ≤ 1000 by decide)) rfl (by rw [List.length_map,List.length_map]; omega))).trans ?_
     unfold lwE Z1i
     rw [List.map_append,List.map_append]; rfl
    ·rw [if_neg c,List.append_nil]
     exact Yl (Zcf (Zmi (Za (i:=9) rfl) Z2 (decide_eq_false c))) rfl
   exact ⟨_,_,rfl,.inl (Yb (Zr (es (z9:=z9) (z10:=none))) (Yb s1 s2)),_,_,rfl⟩
 ·obtain ⟨z8,z9,rfl⟩:=q
  rw [List.length_map,List.take_length]
  exact Zx (Zr (Zm (Zb Za Zf) Tt)) <| Z8 (Zdj (Zm (Zb Za (Zb (Za2 (Zb Z2 (Zb (Zn9 rfl (Zlp _)) Zf)) (show 2 ≤ 1000 by decide)) Zf)) (Zo9 1 _)) (Zm (Zb (Zm (Zb Za (Zb (Ww Za Z2 rfl) Zf)) Tb) (Zb Za Zf)) (Zwy 2 _)))
end My
namespace L2
open PySem PySem.Spec PyProof.Rows
structure Ei (K:PySem.W.Frag) (x:Str) (st:Stmt) (f:Addr) (fd:FuncData):Prop where
 a:PySem.W.nsIn K mainGlobals x = some (some (.ref f))
 F:Fun K x x st f fd
structure En (K:PySem.W.Frag) (mg:Str→Option Value) (x:Str) (st:Stmt) (ps:List Str) (f:Addr) (fd:FuncData):Prop where
 F:Fun K x x st f fd
 b:Binds K fd ps []
 m:mg x = some (.ref f)
structure Ec (K:PySem.W.Frag) (mg:Str→Option Value) (x:Str) (f:Addr):Prop where
 m:mg x = some (.ref f)
 a:ClsAt K x f
section
variable {K:PySem.W.Frag} {h:Heap} {mg:Str→Option Value} {x:Str} {st:Stmt} {f:Addr} {fd:FuncData}
theorem en0 (X:K.In h) (G:h.Ns mainGlobals mg) (q:Ei K x st f fd) {ps:List Str} (hb:∀ (kV doc pm:Value) (an:Option Addr) (cdv ct:Value) (us:List Value),us.length = ps.length→bindArgs (PySem.W.fnOf x x (Zfd st) (Zb0 st) (Zk st) .none kV doc pm an cdv ct) ⟨us,[]⟩ = pure (ps.zip us)):En K mg x st ps f fd:=⟨q.F,q.F.binds hb,PySem.W.mg_of X G q.a⟩
noncomputable abbrev Bd (x:Str) (st:Stmt) (ps:List Str) (us:List Value):Prop:=∀ (kV doc pm:Value) (an:Option Addr) (cdv ct:Value),bindArgs (PySem.W.fnOf x x (Zfd st) (Zb0 st) (Zk st) .none kV doc pm an cdv ct) ⟨us,[]⟩ = pure (ps.zip us)
theorem l_c {us:List Value} {n:Nat} (h:us.length = n + 1):∃ u vs,us = u :: vs∧vs.length = n:=by
 cases us with
 | nil=>cases h
 | cons u vs=>exact ⟨u,vs,rfl,Nat.succ.inj h⟩
theorem en1 (X:K.In h) (G:h.Ns mainGlobals mg) (q:Ei K x st f fd) {p0:Str} (hb:∀ v0,Bd x st [p0] [v0]:=by exact fun _ _ _ _ _ _ _=>rfl):En K mg x st [p0] f fd:=en0 X G q fun a b c d e g us hl=>by
 have h0:us.length = 1:=hl
 obtain ⟨u0,us0,e0,h1⟩:=l_c h0
 cases List.eq_nil_of_length_eq_zero h1
 subst e0
 exact hb u0 a b c d e g
theorem en2 (X:K.In h) (G:h.Ns mainGlobals mg) (q:Ei K x st f fd) {p0 p1:Str} (hb:∀ v0 v1,Bd x st [p0,p1] [v0,v1]:=by exact fun _ _ _ _ _ _ _ _=>rfl):En K mg x st [p0,p1] f fd:=en0 X G q fun a b c d e g us hl=>by
 have h0:us.length = 2:=hl
 obtain ⟨u0,us0,e0,h1⟩:=l_c h0
 obtain ⟨u1,us1,e1,h2⟩:=l_c h1
 cases List.eq_nil_of_length_eq_zero h2
 subst e1
 subst e0
 exact hb u0 u1 a b c d e g
theorem en3 (X:K.In h) (G:h.Ns mainGlobals mg) (q:Ei K x st f fd) {p0 p1 p2:Str} (hb:∀ v0 v1 v2,Bd x st [p0,p1,p2] [v0,v1,v2]:=by exact fun _ _ _ _ _ _ _ _ _=>rfl):En K mg x st [p0,p1,p2] f fd:=en0 X G q fun a b c d e g us hl=>by
 have h0:us.length = 3:=hl
 obtain ⟨u0,us0,e0,h1⟩:=l_c h0
 obtain ⟨u1,us1,e1,h2⟩:=l_c h1
 obtain ⟨u2,us2,e2,h3⟩:=l_c h2
 cases List.eq_nil_of_length_eq_zero h3
 subst e2
 subst e1
 subst e0
 exact hb u0 u1 u2 a b c d e g
theorem en4 (X:K.In h) (G:h.Ns mainGlobals mg) (q:Ei K x st f fd) {p0 p1 p2 p3:Str} (hb:∀ v0 v1 v2 v3,Bd x st [p0,p1,p2,p3] [v0,v1,v2,v3]:=by exact fun _ _ _ _ _ _ _ _ _ _=>rfl):En K mg x st [p0,p1,p2,p3] f fd:=en0 X G q fun a b c d e g us hl=>by
 have h0:us.length = 4:=hl
 obtain ⟨u0,us0,e0,h1⟩:=l_c h0
 obtain ⟨u1,us1,e1,h2⟩:=l_c h1
 obtain ⟨u2,us2,e2,h3⟩:=l_c h2
 obtain ⟨u3,us3,e3,h4⟩:=l_c h3
 cases List.eq_nil_of_length_eq_zero h4
 subst e3
 subst e2
 subst e1
 subst e0
 exact hb u0 u1 u2 u3 a b c d e g
theorem en5 (X:K.In h) (G:h.Ns mainGlobals mg) (q:Ei K x st f fd) {p0 p1 p2 p3 p4:Str} (hb:∀ v0 v1 v2 v3 v4,Bd x st [p0,p1,p2,p3,p4] [v0,v1,v2,v3,v4]:=by exact fun _ _ _ _ _ _ _ _ _ _ _=>rfl):En K mg x st [p0,p1,p2,p3,p4] f fd:=en0 X G q fun a b c d e g us hl=>by
 have h0:us.length = 5:=hl
 obtain ⟨u0,us0,e0,h1⟩:=l_c h0
 obtain ⟨u1,us1,e1,h2⟩:=l_c h1
 obtain ⟨u2,us2,e2,h3⟩:=l_c h2
 obtain ⟨u3,us3,e3,h4⟩:=l_c h3
 obtain ⟨u4,us4,e4,h5⟩:=l_c h4
 cases List.eq_nil_of_length_eq_zero h5
 subst e4
 subst e3
 subst e2
 subst e1
 subst e0
 exact hb u0 u1 u2 u3 u4 a b c d e g
theorem ec (X:K.In h) (G:h.Ns mainGlobals mg) (a:PySem.W.nsIn K mainGlobals x = some (some (.ref f))):Ec K mg x f:=⟨PySem.W.mg_of X G a,a⟩
end
theorem fsc {N P:List Str} {sc:Scope} (h1:sc.kind = .function:=by rfl) (h2:sc.isCoroutine = false:=by rfl) (h3:sc.isGenerator = false:=by rfl) (h4:N.Nodup:=by decide +kernel) (h5:N.take P.length = P:=by rfl) (h6:∀ x ∈ P,sc.names.lookup x = some .local∨sc.names.lookup x = some .cell:=by decide +kernel) (h7:∀ y ∈ sc.names,y.2 ≠ .free:=by decide +kernel):Zq N P sc:=⟨h1,h2,h3,h4,h5,h6,h7⟩
end L2
namespace L2
open PySem PySem.Spec PyProof.Rows
section
variable {X:Cx} {io:List Nat} {iter tg:Expr} {body:List Stmt} {m:MXt} {pos:Pos}
end
section
variable {X:Cx} {io:List Nat} {e:Expr} {st:Stmt} {ra:FA} {F:FD} {gg:FG} {u:FS}
end
end L2
namespace L2
open PySem PySem.Spec PyProof.Rows
section
variable {X:Cx} {io:List Nat} {st:Stmt} {sts ss ss':List Stmt} {f g:FS} {e:Expr} {es:List Expr} {p c:Bool} {ta:FT} {pos:Pos} {ra:FA}
noncomputable abbrev BS (X:Cx) (io:List Nat) (st:Stmt) (f:FS):Prop:=MS X io st (oS f)∧XS X io st (xS X.K f)
noncomputable abbrev BSs (X:Cx) (io:List Nat) (sts:List Stmt) (f:FS):Prop:=MSs X io sts (oS f)∧XSs X io sts (xS X.K f)
end
section
variable {X:Cx} {io:List Nat} {e:Expr} {es:List Expr} {p c:Bool} {ra:FA} {pos pp:Pos} {k k':Nat} {f:Addr} {fd:FuncData} {ps:List Str} {x:Str} {F:FD} {st:Stmt}
theorem xce (G:FnOk X.prog X.w X.K X.mg X.base CX0 k f fd ps (spD X.K (sD F))) (hr:Room k' X.A) (E:En X.K X.mg x st ps f fd) (ha:MA X io p c (e :: es) (o2 ra)) (hle:k ≤ k':=by decide) (hg:Gl X x:=by rfl) (h1:(x == ("__debug__" : Str)) = false:=by decide) (h2:starEach (e :: es) X.env = (false,eval e X.env) :: starEach es X.env:=by rfl) (h3:((backTo pos (starEach es X.env)).any fun x=>x.fst) = false:=by rfl):ME X io p c (.Call (.Name x pp) (e :: es) [] pos) (o2 (Zt F ra)):=xcl G (hr.mono hle) E.m E.F.kp E.b ha hg h1 h2 h3
end
section
variable {X:Cx} {io:List Nat} {p ci pt pe:Bool} {tg iter elt:Expr} {ifs:List Expr} {sc:Scope} {pos:Pos} {mi:MIt} {g:MGt} {mt:MTt} {me:MEt}
theorem Zh1 (own:List Str) (caps:List Nat) (N':List Str) (hi:MI X io p ci tg iter mi)
  (hg:∀ C cells s₂ H₂ fp,MG (Yv X N' sc C cells s₂ H₂ fp) (Jx own.length caps) ci tg g) (ht:∀ C cells s₂ H₂ fp,MIfs (Yv X N' sc C cells s₂ H₂ fp) (Jx own.length caps) pt ifs mt) (he:∀ C cells s₂ H₂ fp,ME (Yv X N' sc C cells s₂ H₂ fp) (Jx own.length caps) pe true elt me)
  (S:CompScope X own caps N' sc:=by exact ⟨rfl,by decide +kernel,rfl,by decide +kernel,rfl,rfl⟩) (hc:X.calm = true:=by rfl) (nd:caps.Nodup:=by decide) (hp:(pt && pe) = true:=by rfl) (hs:∀ x,foldedSetIterable iter X.env x = pure x:=by intro _; rfl):ME X io p true (.ListComp elt [⟨tg,iter,ifs,0⟩] sc pos) (Zfe own.length caps mi g mt me):=Z4h S hc nd hi hg ht he hp hs
end
end L2
namespace My
open PySem L2 PySem.Spec
noncomputable def top (i:Nat):Stmt:=PySem.Challenge.pw_farcuts_k25_whole_weights_of_trees.main.body.getD i (.Pass ⟨0,0,0,0⟩)
noncomputable abbrev Zdv:Stmt:=top 49
noncomputable abbrev Zc8:Stmt:=top 52
noncomputable abbrev Zbv:Stmt:=top 45
noncomputable abbrev Zfx:Stmt:=top 46
noncomputable abbrev Zb2:Stmt:=top 47
noncomputable abbrev Zbc:Stmt:=top 50
noncomputable abbrev Zhn:Stmt:=top 48
noncomputable abbrev Zfq:Stmt:=top 53
noncomputable abbrev Ze9:Stmt:=top 55
noncomputable abbrev Zd4:Stmt:=top 54
noncomputable abbrev Zby:Stmt:=top 51
noncomputable abbrev Ze5:Stmt:=top 24
noncomputable abbrev Zfj:Stmt:=top 25
noncomputable abbrev Zd6:Stmt:=top 26
noncomputable abbrev Jc:Stmt:=top 6
noncomputable abbrev Zfb:Stmt:=top 7
noncomputable abbrev Zfc:Stmt:=top 5
noncomputable abbrev Zff:Stmt:=top 8
noncomputable abbrev Zfy:Stmt:=top 13
noncomputable abbrev Zag:Stmt:=top 16
noncomputable abbrev J3:Stmt:=top 14
noncomputable abbrev Zea:Stmt:=top 17
noncomputable abbrev Ze2:Stmt:=top 27
noncomputable abbrev Wb:Stmt:=top 40
noncomputable abbrev Zar:Stmt:=top 12
noncomputable abbrev Zc5:Stmt:=top 29
noncomputable abbrev Zda:Stmt:=top 41
noncomputable abbrev Zfg:Stmt:=top 10
noncomputable abbrev Zsg:Stmt:=top 9
noncomputable abbrev Zbw:Stmt:=top 35
noncomputable abbrev Zbt:Stmt:=top 36
noncomputable abbrev Zbd:Stmt:=top 18
noncomputable abbrev Zcr:Stmt:=top 19
noncomputable abbrev Zcq:Stmt:=top 42
noncomputable abbrev Zee:Stmt:=top 38
noncomputable abbrev Zc2:Stmt:=top 30
noncomputable abbrev W8:Stmt:=top 31
noncomputable abbrev Zbx:Stmt:=top 33
noncomputable abbrev Zed:Stmt:=top 43
noncomputable abbrev Zdt:Stmt:=top 21
noncomputable abbrev Zj1:Stmt:=top 22
noncomputable abbrev Zdy:Stmt:=top 23
noncomputable abbrev Zd3:Stmt:=top 32
noncomputable abbrev Zbr:Stmt:=top 39
noncomputable abbrev Z0e:Stmt:=top 56
set_option genInjectivity false in
set_option genSizeOfSpec false in
structure Txt (K:PySem.W.Frag) (mg:Str→Option Value) (f:Nat→Addr) (fd:Nat→FuncData) (cls:Nat→Addr):Prop where
 e_law_alike:En K mg "_law_alike" Zdv ["found", "due"] (f 0) (fd 0)
 e_law_bottom:En K mg "_law_bottom" Zc8 ["cell"] (f 1) (fd 1)
 e_law_cell_at:En K mg "_law_cell_at" Zbv ["script", "k"] (f 2) (fd 2)
 e_law_stir:En K mg "_law_stir" Zfx ["cell", "k"] (f 3) (fd 3)
 e_law_numbers:En K mg "_law_numbers" Zb2 ["cell", "many"] (f 4) (fd 4)
 e_law_clusters:En K mg "_law_clusters" Zbc ["cell", "n"] (f 5) (fd 5)
 e_law_low:En K mg "_law_low" Zhn ["top", "bottom"] (f 6) (fd 6)
 e_law_rows:En K mg "_law_rows" Zfq ["n", "sides", "weights"] (f 7) (fd 7)
 e_law_size:En K mg "_law_size" Ze9 ["cell", "least", "most", "great"] (f 8) (fd 8)
 e_law_table:En K mg "_law_table" Zd4 ["rows", "bottom"] (f 9) (fd 9)
 e_law_weights:En K mg "_law_weights" Zby ["script", "start", "many", "cell"] (f 10) (fd 10)
 e_all_cuts:En K mg "all_cuts" Ze5 ["n"] (f 11) (fd 11)
 e_sides_of:En K mg "sides_of" Zfj ["n", "cut"] (f 12) (fd 12)
 e_all_sides:En K mg "all_sides" Zd6 ["n", "cuts"] (f 13) (fd 13)
 e_greatest_divisor:En K mg "greatest_divisor" Jc ["a", "b"] (f 14) (fd 14)
 e_in_least:En K mg "in_least" Zfb ["top", "bottom"] (f 15) (fd 15)
 e_is_whole:En K mg "is_whole" Zfc ["thing"] (f 16) (fd 16)
 e_fraction:En K mg "fraction" Zff ["top", "bottom"] (f 17) (fd 17)
 e_pairs_of:En K mg "pairs_of" Zfy ["n"] (f 18) (fd 18)
 e_shared_bottom:En K mg "shared_bottom" Zag ["numbers"] (f 19) (fd 19)
 e_table_of_pairs:En K mg "table_of_pairs" J3 ["n", "distances"] (f 20) (fd 20)
 e_tops_over:En K mg "tops_over" Zea ["bottom", "numbers"] (f 21) (fd 21)
 e_table_of:En K mg "table_of" Ze2 ["n", "cuts"] (f 22) (fd 22)
 e_is_one_alone_greatest:En K mg "is_one_alone_greatest" Wb ["sums"] (f 23) (fd 23)
 e_rising_tuples:En K mg "rising_tuples" Zar ["n", "many"] (f 24) (fd 24)
 e_three_sums:En K mg "three_sums" Zc5 ["rows", "i", "j", "k", "l"] (f 25) (fd 25)
 e_first_four:En K mg "first_four" Zda ["rows"] (f 26) (fd 26)
 e_is_below:En K mg "is_below" Zfg ["q", "r"] (f 27) (fd 27)
 e_plus:En K mg "plus" Zsg ["q", "r"] (f 28) (fd 28)
 e_is_short_by:En K mg "is_short_by" Zbw ["table", "i", "j", "k"] (f 29) (fd 29)
 e_first_short:En K mg "first_short" Zbt ["table"] (f 30) (fd 30)
 e_table_bottom:En K mg "table_bottom" Zbd ["table"] (f 31) (fd 31)
 e_table_over:En K mg "table_over" Zcr ["bottom", "table"] (f 32) (fd 32)
 e_first_bars:En K mg "first_bars" Zcq ["table"] (f 33) (fd 33)
 e_tree_rule:En K mg "tree_rule" Zee ["sums"] (f 34) (fd 34)
 e_doubles_of:En K mg "doubles_of" Zc2 ["points"] (f 35) (fd 35)
 e_least_over_sides:En K mg "least_over_sides" W8 ["rows", "cut", "rule"] (f 36) (fd 36)
 e_weighted_by:En K mg "weighted_by" Zbx ["table", "rule"] (f 37) (fd 37)
 e_tree_told:En K mg "tree_told" Zed ["table"] (f 38) (fd 38)
 e_is_rising:En K mg "is_rising" Zdt ["things"] (f 39) (fd 39)
 e_is_cut:En K mg "is_cut" Zj1 ["n", "thing"] (f 40) (fd 40)
 e_check_cut:En K mg "check_cut" Zdy ["n", "thing"] (f 41) (fd 41)
 e_weight_by:En K mg "weight_by" Zd3 ["table", "cut", "rule"] (f 42) (fd 42)
 e_tree_weight:En K mg "tree_weight" Zbr ["table", "cut"] (f 43) (fd 43)
 e_law:En K mg "law" Z0e ["script"] (f 44) (fd 44)
 fa_tree_rule:ClsAt K "tree_rule" (f 34)
 z_abs:mg "abs" = none
 z_bool:mg "bool" = none
 z_enumerate:mg "enumerate" = none
 z_int:mg "int" = none
 z_isinstance:mg "isinstance" = none
 z_len:mg "len" = none
 z_list:mg "list" = none
 z_min:mg "min" = none
 z_range:mg "range" = none
 z_sorted:mg "sorted" = none
 z_str:mg "str" = none
 z_sum:mg "sum" = none
 z_tuple:mg "tuple" = none
 z_zip:mg "zip" = none
 c_NoCut:Ec K mg "NoCut" (cls 0)
 c_NoNumber:Ec K mg "NoNumber" (cls 1)
 x_NoCut:Zfw K (cls 0)
 x_NoNumber:Zfw K (cls 1)
 r_NoCut:Zv9 K (cls 0)
 r_NoNumber:Zv9 K (cls 1)
section
variable {P:Program} {w:World} {K:PySem.W.Frag} {mg:Str→Option Value} {base:Heap}
theorem Zcl:Zq ["found", "due", "one", "other"] ["found", "due"] (Zk Zdv):=fsc
theorem Zdc {f:Nat→Addr} {fd:Nat→FuncData} {cls:Nat→Addr} (T:Txt K mg f fd cls):∀ k,FnOk P w K mg base CX0 (1 + k) (f 0) (fd 0) ["found", "due"] (spD K (sD (Zn k)))
 | 0=>Zyq fun ds k h=>by obtain ⟨r,h,_⟩:=h; cases h
 | k + 1=>by
  have G_rec:=Zdc T k
  refine Z1 T.e_law_alike.F Zcl (S:=Wc (Zn k)) rfl rfl (fun cdv A outer s H E hr=>?_)
  have hu:=hr.units
  exact (Zit (Zdi (Zp0 (Zo8 (Zcs (Zcw (Zb9 (Zgg (by decide) (by rfl) T.z_isinstance L2.B.boot_isinstance (by rfl) T.z_int L2.B.boot_int (W2 (mv 1)))) (fun _=>rfl))) (Zg (Zgp (Zgn (Zd7 (Zmt (Zb9 (Zgg (by decide) (by rfl) T.z_isinstance L2.B.boot_isinstance (by rfl) T.z_int L2.B.boot_int (W2 (mv 0)))) (Zd7 (Zmt (Zt4 (Z6h (Zb9 (Zgg (by decide) (by rfl) T.z_isinstance L2.B.boot_isinstance (by rfl) T.z_bool L2.B.boot_bool (W2 (mv 0)))))) (Zrr (Jm Z7r (Zkx (Zr0 hu) Zza (W2 (mv 0)) (W2 (mv 1)) (hm:=(Jw _)))))))))))) (Ze8 Ze3)))
   (Zit (Zdi (Zp0 (Zo8 (Zcs (Zcw (Zb9 (Zgg (by decide) (by rfl) T.z_isinstance L2.B.boot_isinstance (by rfl) T.z_str L2.B.boot_str (W2 (mv 1)))) (fun _=>rfl))) (Zg (Zgp (Zgn (Zd7 (Zmt (Zb9 (Zgg (by decide) (by rfl) T.z_isinstance L2.B.boot_isinstance (by rfl) T.z_str L2.B.boot_str (W2 (mv 0)))) (Zrr (Jm Z7r (Zkx (Zr0 hu) Zza (W2 (mv 0)) (W2 (mv 1)) (hm:=(Jw _)))))))))) (Ze8 Ze3)))
   (Zit (Zdi (Zp0 (Zo8 (MW.mt (Zvx (Zu1 (Zbo Z63 (Zbi (Znk hu) Zvo (Zb9 (Zgg (by decide) (by rfl) T.z_isinstance L2.B.boot_isinstance (by rfl) T.z_tuple L2.B.boot_tuple (W2 (mv 1)))) (Zb9 (Zgg (by decide) (by rfl) T.z_isinstance L2.B.boot_isinstance (by rfl) T.z_tuple L2.B.boot_tuple (W2 (mv 0)))) (hm:=(Jw _)))) (Zq5 (Zbo Z63 (Zbi (Znk hu) Zvo (Zb9 (Zgg (by decide) (by rfl) T.z_isinstance L2.B.boot_isinstance (by rfl) T.z_list L2.B.boot_list (W2 (mv 1)))) (Zb9 (Zgg (by decide) (by rfl) T.z_isinstance L2.B.boot_isinstance (by rfl) T.z_list L2.B.boot_list (W2 (mv 0)))) (hm:=(Jw _)))))))) (Zg (Zgp (Zgn (Zjk Zjw)))) (Ze8 Ze3)))
   (Zit (Zdi (Zp0 (Zo8 (Zbo Z63 (Zbi (Znk hu) Zvo (Zdn Zy5 (Zht Zto (Zhb rfl) (by rfl) T.z_len L2.B.boot_len (Ze (W2 (mv 0)) (Zld Zk4)))) (Zdn Zy5 (Zht Zto (Zhb rfl) (by rfl) T.z_len L2.B.boot_len (Ze (W2 (mv 1)) (Zld Zk4)))) (hm:=(Jw _)))) (Zg (Zgp (Zgn (Zjk Zjw)))) (Ze8 Ze3)))
   (Zit (Zdi (Zxt (Zx7 PassesOwn.never rfl (Ze7 (Zft (by rfl) T.z_zip L2.B.boot_zip (Ze (W2 (mv 0)) (Ze (W2 (mv 1)) (Zld Zk4))))) (Zqm (Ztt (n:=2) (by rfl) (Zax (Za5 (Zmb (Zne (i:=2) Zcl.nd)) (Zax (Za5 (Zmb (Zne (i:=3) Zcl.nd)) (Zl7 Zmq)))))))
   (Zg (Zp0 (Zo8 (Zx8 (Zxq (Zcs (Zcw (Zqv (Zxw G_rec hr (by rfl) T.e_law_alike.m T.e_law_alike.F.kp T.e_law_alike.b Zve (Ze (W2 (mv 2)) (Ze (W2 (mv 3)) (Zld Zk4))))) (fun _=>rfl))))) (Zg (Zgp (Zgn (Zjk Zjw)))) (Ze8 Ze3))))))
   (Zg (Zgp (Zgn (Zjk Zjw))))))))))))))
theorem Zlw {f:Nat→Addr} {fd:Nat→FuncData} {cls:Nat→Addr} (T:Txt K mg f fd cls):FnOk P w K mg base CX0 7 (f 0) (fd 0) ["found", "due"] (spD K (sD (Zn 6))):=Zdc T 6
theorem Zjh:Zq ["cell"] ["cell"] (Zk Zc8):=fsc
theorem Zjm {f:Nat→Addr} {fd:Nat→FuncData} {cls:Nat→Addr} (T:Txt K mg f fd cls):FnOk P w K mg base CX0 1 (f 1) (fd 1) ["cell"] (spD K (sD Wn)):=by
 refine Z1 T.e_law_bottom.F Zjh (S:=Zbl) rfl rfl (fun cdv A outer s H E hr=>?_)
 exact (Zg (xrt (xix (xls (Ze xci (Ze xci (Ze xci (xa1 (Zj4 (Z8g xci xci) xci)))))) (Zna (Zqe (xv 0) xci) xci))))
theorem Zhw:Zq ["script", "k"] ["script", "k"] (Zk Zbv):=fsc
theorem Zhx {f:Nat→Addr} {fd:Nat→FuncData} {cls:Nat→Addr} (T:Txt K mg f fd cls):FnOk P w K mg base CX0 1 (f 2) (fd 2) ["script", "k"] (spD K (sD Wi)):=by
 refine Z1 T.e_law_cell_at.F Zhw (S:=Za3) rfl rfl (fun cdv A outer s H E hr=>?_)
 exact (xsq (xif (xlt (xv 1) (xln T.z_len (xa1 (xv 0)))) (Zg (xrt (xix (xv 0) (xv 1)))) xnl) (Zg (xrt xci)))
theorem Zd2:Zq ["cell", "k", "one"] ["cell", "k"] (Zk Zfx):=fsc
theorem Zg9 {f:Nat→Addr} {fd:Nat→FuncData} {cls:Nat→Addr} (T:Txt K mg f fd cls):FnOk P w K mg base CX0 1 (f 3) (fd 3) ["cell", "k"] (spD K (sD Wm)):=by
 refine Z1 T.e_law_stir.F Zd2 (S:=Zc4) rfl rfl (fun cdv A outer s H E hr=>?_)
 exact (xsq (xst 2 Zd2.nd (Zna (Zlf (Zj4 (Zj4 (Zna (xv 0) xci) (Zlf xci (xv 1))) xci) xci) xci)) (xsq (xst 2 Zd2.nd (Zna (Zlf (xv 2) (xv 2)) xci)) (Zg (xrt (Zqe (Zna (Zlf (Zj4 (xv 2) (Zlf xci (xv 1))) xci) xci) xci)))))
theorem Yt:Zq ["cell", "many", "found", "digits", "k", "number"] ["cell", "many"] (Zk Zb2):=fsc
theorem Zhz {f:Nat→Addr} {fd:Nat→FuncData} {cls:Nat→Addr} (T:Txt K mg f fd cls):FnOk P w K mg base CX0 2 (f 4) (fd 4) ["cell", "many"] (spD K (sD Wh)):=by
 have G_law_stir:=Zg9 (P:=P) (w:=w) (base:=base) T
 refine Z1 T.e_law_numbers.F Yt (S:=Za8) rfl rfl (fun cdv A outer s H E hr=>?_)
 exact (xsq (xso 2 Yt.nd (xls xa0)) (xsq (xst 3 Yt.nd (xv 0)) (xsq (xfr PassesOwn.never rfl (Zeo (Yr (by rfl) T.z_range (xa1 (xv 1)))) (xg 4 Yt.nd) (xsq (xst 5 Yt.nd (xce G_law_stir hr T.e_law_stir (Ze (xv 0) (xa1 (xv 4))))) (xsq (xif (xge (xv 0) (Z8g xci xci)) (Zg (xst 5 Yt.nd (Zna (xv 3) xci))) xnl) (xsq (xst 3 Yt.nd (Zqe (xv 3) xci)) (Zg (Jd (Jb 2 (xv 5)))))))) (Zg (Zck (Zct 2))))))
theorem Yn:Zq ["cell", "n", "numbers", "left", "found", "k", "one", "other"] ["cell", "n"] (Zk Zbc):=fsc
theorem Zgy {f:Nat→Addr} {fd:Nat→FuncData} {cls:Nat→Addr} (T:Txt K mg f fd cls):FnOk P w K mg base CX0 3 (f 5) (fd 5) ["cell", "n"] (spD K (sD Y6)):=by
 have G_law_numbers:=Zhz (P:=P) (w:=w) (base:=base) T
 refine Z1 T.e_law_clusters.F Yn (S:=Zam) rfl rfl (fun cdv A outer s H E hr=>?_)
 exact (xsq (xst 2 Yn.nd (xce G_law_numbers hr T.e_law_numbers (Ze (xv 0) (xa1 (Zlf xci (xv 1)))))) (xsq (Zvm (Zm8 (i:=3) (own:=["point"]) (caps:=[]) (N':=["point"]) Yn.nd rfl (Or.inl rfl) (by exact ⟨rfl,by decide +kernel,rfl,by decide +kernel,rfl,rfl⟩) (by rfl) (by decide) (Zvc (Zem (by rfl) T.z_range (Ze xci (xa1 (xv 1))))) (fun _ _ _ _ _=>(xg 0 (by show List.Nodup (["point"]:List Str) ; decide +kernel))) (fun _ _ _ _ _=>(J6 J4)) (fun _ _ _ _ _=>(xls (xa1 (xv 0)))))) (xsq (xso 4 Yn.nd (Zu9 (Z00 3 (by rfl) T.z_list L2.B.boot_list))) (xsq (xfr PassesOwn.never rfl (Zeo (Yr (by rfl) T.z_range (xa1 (Z62 (xv 1) xci)))) (xg 5 Yn.nd) (xsq (xst 6 Yn.nd (Zx1 (Z2s 3 (Zna (xix (xv 2) (Zlf xci (xv 5))) (xln T.z_len (xa1 (xo 3))))))) (xsq (xst 7 Yn.nd (Zx1 (Z2s 3 (Zna (xix (xv 2) (Zj4 (Zlf xci (xv 5)) xci)) (xln T.z_len (xa1 (xo 3))))))) (xsq (Jd (Jb 3 (Z1j Zzt (Z7k Zvp (Zpq rfl) (by rfl) T.z_sorted L2.B.boot_sorted (xa1 (Zm3 (Ziy Zwz (Z6n (Zjg rfl) Zni (xv 6) (xv 7))))))))) (Zg (Jd (Jb 4 (Z6b (Z92 3 (Znv (Zvh xci)) (fun _ _=>rfl)))))))))) (Zg (Zck (Zct 4)))))))
theorem Zad:Zq ["top", "bottom", "one", "other", "left"] ["top", "bottom"] (Zk Zhn):=fsc
theorem Ziu {f:Nat→Addr} {fd:Nat→FuncData} {cls:Nat→Addr} (T:Txt K mg f fd cls):FnOk P w K mg base CX0 1 (f 6) (fd 6) ["top", "bottom"] (spD K (sD Yu)):=by
 refine Z1 T.e_law_low.F Zad (S:=Zdq) rfl rfl (fun cdv A outer s H E hr=>?_)
 have hu:=hr.units
 exact (xsq (xst 2 Zad.nd (Zdn Z10 (Zht Zqs Zjf (by rfl) T.z_abs L2.B.boot_abs (xa1 (xv 0))))) (xsq (xst 3 Zad.nd (xv 1)) (xsq (Znw (Zou PassesOwn.never (xne hu (xv 3) xci) (xsq (xst 4 Zad.nd (Zna (xv 2) (xv 3))) (xsq (xst 2 Zad.nd (xv 3)) (Zg (xst 3 Zad.nd (xv 4))))))) (Zg (xrt (xtp (Ze (Zqe (xv 0) (xv 2)) (xa1 (Zqe (xv 1) (xv 2))))))))))
theorem Jr:Zq ["n", "sides", "weights", "rows", "side", "weight", "i", "j"] ["n", "sides", "weights"] (Zk Zfq):=fsc
theorem Zm6 {f:Nat→Addr} {fd:Nat→FuncData} {cls:Nat→Addr} (T:Txt K mg f fd cls):FnOk P w K mg base CX0 1 (f 7) (fd 7) ["n", "sides", "weights"] (spD K (sD Zae)):=by
 refine Z1 T.e_law_rows.F Jr (S:=Zc9) rfl rfl (fun cdv A outer s H E hr=>?_)
 have hu:=hr.units
 exact (xsq (Znu (Zbf (i:=3) (own:=["point"]) (caps:=[0]) (N':=["point", "n"]) true Jr.nd rfl (Or.inl rfl) (by exact ⟨rfl,by decide +kernel,rfl,by decide +kernel,rfl,rfl⟩) (by rfl) (by decide) (Zeo (Yr (by rfl) T.z_range (xa1 (xv 0)))) (fun _ _ _ _ _=>(xg 0 (by show List.Nodup (["point", "n"]:List Str) ; decide +kernel))) (fun _ _ _ _ _=>(J6 J4)) (fun _ _ _ _ _=>(Zxu (Z5c xci (xv 1)))))) (xsq (xfr PassesOwn.never rfl (Ze7 (Zft (by rfl) T.z_zip L2.B.boot_zip (Ze (xv 1) (xa1 (xv 2))))) (xg2 rfl (xg 4 Jr.nd) (xg 5 Jr.nd)) (Zg (xfr PassesOwn.never rfl (Zeo (Yr (by rfl) T.z_range (xa1 (xv 0)))) (xg 6 Jr.nd) (Zg (xfr PassesOwn.never rfl (Zeo (Yr (by rfl) T.z_range (xa1 (xv 0)))) (xg 7 Jr.nd) (Zg (xif (xne hu (Jm Zwc (Zkx (Ztz rfl) Zv4 (xv 6) (xv 4) (hm:=(by with_unfolding_all rfl)))) (Jm Zwc (Zkx (Ztz rfl) Zv4 (xv 7) (xv 4) (hm:=(by with_unfolding_all rfl))))) (Zg (Zm5 (Zmo 3 (Zj4 (xix (xix (xo 3) (xv 6)) (xv 7)) (xv 5)) (xv 6) (xv 7) (fun _ _=>rfl)))) xnl))))))) (Zg (Zck (Zct 3)))))
theorem Zl8:Zq ["cell", "least", "most", "great"] ["cell", "least", "most", "great"] (Zk Ze9):=fsc
theorem Zml {f:Nat→Addr} {fd:Nat→FuncData} {cls:Nat→Addr} (T:Txt K mg f fd cls):FnOk P w K mg base CX0 1 (f 8) (fd 8) ["cell", "least", "most", "great"] (spD K (sD W7)):=by
 refine Z1 T.e_law_size.F Zl8 (S:=Zdf) rfl rfl (fun cdv A outer s H E hr=>?_)
 have hu:=hr.units
 exact (xsq (xif (xeq hu (Zna (Zqe (xv 0) xci) xci) xci) (Zg (xrt (Zj4 (Zj4 (xv 2) xci) (Zna (Zqe (xv 0) xci) (Z62 (xv 3) (xv 2)))))) xnl) (Zg (xrt (Zj4 (xv 1) (Zna (xv 0) (Z62 (Zj4 (xv 2) xci) (xv 1)))))))
theorem Zka:Zq ["rows", "bottom"] ["rows", "bottom"] (Zk Zd4):=fsc
theorem Zln {f:Nat→Addr} {fd:Nat→FuncData} {cls:Nat→Addr} (T:Txt K mg f fd cls):FnOk P w K mg base CX0 2 (f 9) (fd 9) ["rows", "bottom"] (spD K (sD J5)):=by
 have G_law_low:=Ziu (P:=P) (w:=w) (base:=base) T
 refine Z1 T.e_law_table.F Zka (S:=Zce) rfl rfl (fun cdv A outer s H E hr=>?_)
 exact (Zg (xrt (Zba (Zh1 ["row"] [1] ["row", "bottom"] (xil (xv 0)) (fun _ _ _ _ _=>(xg 0 (by show List.Nodup (["row", "bottom"]:List Str) ; decide +kernel))) (fun _ _ _ _ _=>(J6 J4)) (fun _ _ _ _ _=>(Zba (Zh1 ["one"] [1] ["one", "bottom"] (xil (xv 0)) (fun _ _ _ _ _=>(xg 0 (by show List.Nodup (["one", "bottom"]:List Str) ; decide +kernel))) (fun _ _ _ _ _=>(J6 J4)) (fun _ _ _ _ _=>(xce G_law_low hr T.e_law_low (Ze (xv 0) (xa1 (xv 1))))))))))))
theorem We:Zq ["script", "start", "many", "cell", "base", "found", "k", "number"] ["script", "start", "many", "cell"] (Zk Zby):=fsc
theorem Zh6 {f:Nat→Addr} {fd:Nat→FuncData} {cls:Nat→Addr} (T:Txt K mg f fd cls):FnOk P w K mg base CX0 2 (f 10) (fd 10) ["script", "start", "many", "cell"] (spD K (sD Jj)):=by
 have G_law_stir:=Zg9 (P:=P) (w:=w) (base:=base) T
 refine Z1 T.e_law_weights.F We (S:=Za7) rfl rfl (fun cdv A outer s H E hr=>?_)
 exact (xsq (xst 4 We.nd (xix (xls (Ze xci (Ze xci (xa1 (Z8g xci xci))))) (Zna (xv 3) xci))) (xsq (xso 5 We.nd (xls xa0)) (xsq (xfr PassesOwn.never rfl (Zeo (Yr (by rfl) T.z_range (xa1 (xv 2)))) (xg 6 We.nd) (xsq (xst 7 We.nd (xce G_law_stir hr T.e_law_stir (Ze (xv 3) (xa1 (Zj4 xci (xv 6)))))) (xsq (xif (xlt (Zj4 (xv 1) (xv 6)) (xln T.z_len (xa1 (xv 0)))) (Zg (xst 7 We.nd (xix (xv 0) (Zj4 (xv 1) (xv 6))))) xnl) (Zg (Jd (Jb 5 (Zna (xv 7) (xv 4)))))))) (Zg (Zck (Zct 5))))))
theorem Zb3:Zq ["n", "sides", "point"] ["n"] (Zk Ze5):=fsc
theorem Zhi {f:Nat→Addr} {fd:Nat→FuncData} {cls:Nat→Addr} (T:Txt K mg f fd cls):FnOk P w K mg base CX0 1 (f 11) (fd 11) ["n"] (spD K (sD Ye)):=by
 refine Z1 T.e_all_cuts.F Zb3 (S:=Zcu) rfl rfl (fun cdv A outer s H E hr=>?_)
 have hu:=hr.units
 exact (xsq (xst 1 Zb3.nd (xls (xa1 (xls xa0)))) (xsq (xfr PassesOwn.never rfl (Zvc (Zem (by rfl) T.z_range (Ze xci (xa1 (xv 0))))) (xg 2 Zb3.nd) (Zg (xst 1 Zb3.nd (Zm3 (Ziy Zwz (Z6n (Zjg rfl) Zni (xv 1) (Zba (Zh1 ["side"] [2] ["side", "point"] (xil (xv 1)) (fun _ _ _ _ _=>(xg 0 (by show List.Nodup (["side", "point"]:List Str) ; decide +kernel))) (fun _ _ _ _ _=>(J6 J4)) (fun _ _ _ _ _=>(Zm3 (Ziy Zwz (Z6n (Zjg rfl) Zni (xv 0) (xls (xa1 (xv 1))))))))))))))) (Zg (xrt (Zba (Zh1 ["side"] [] ["side"] (xil (Z1j Z0q (Z7k Zuq (Zo4 Z6f rfl hu) (by rfl) T.z_sorted L2.B.boot_sorted (xa1 (xv 1))))) (fun _ _ _ _ _=>(xg 0 (by show List.Nodup (["side"]:List Str) ; decide +kernel))) (fun _ _ _ _ _=>(Zj0 (xgt (xln T.z_len (xa1 (xv 0))) xci))) (fun _ _ _ _ _=>(xv 0))))))))
theorem Zmg:Zq ["n", "cut"] ["n", "cut"] (Zk Zfj):=fsc
theorem Zme {f:Nat→Addr} {fd:Nat→FuncData} {cls:Nat→Addr} (T:Txt K mg f fd cls):FnOk P w K mg base CX0 1 (f 12) (fd 12) ["n", "cut"] (spD K (sD Zai)):=by
 refine Z1 T.e_sides_of.F Zmg (S:=Zc3) rfl rfl (fun cdv A outer s H E hr=>?_)
 exact (Zg (xrt (Zba (Zh1 ["point"] [1] ["point", "cut"] (Zeo (Yr (by rfl) T.z_range (xa1 (xv 0)))) (fun _ _ _ _ _=>(xg 0 (by show List.Nodup (["point", "cut"]:List Str) ; decide +kernel))) (fun _ _ _ _ _=>(J6 J4)) (fun _ _ _ _ _=>(Zm3 (Z44 (Ybw (Zbo Zwc (Zbi (Ztz rfl) Zv4 (xv 0) (xv 1) (hm:=(by with_unfolding_all rfl)))) xci xci))))))))
theorem Zlj:Zq ["n", "cuts"] ["n", "cuts"] (Zk Zd6):=fsc
theorem Zli {f:Nat→Addr} {fd:Nat→FuncData} {cls:Nat→Addr} (T:Txt K mg f fd cls):FnOk P w K mg base CX0 2 (f 13) (fd 13) ["n", "cuts"] (spD K (sD J0)):=by
 have G_sides_of:=Zme (P:=P) (w:=w) (base:=base) T
 refine Z1 T.e_all_sides.F Zlj (S:=Zca) rfl rfl (fun cdv A outer s H E hr=>?_)
 exact (Zg (xrt (Zba (Zh1 ["weighted"] [0] ["weighted", "n"] (xil (xv 1)) (fun _ _ _ _ _=>(xg 0 (by show List.Nodup (["weighted", "n"]:List Str) ; decide +kernel))) (fun _ _ _ _ _=>(J6 J4)) (fun _ _ _ _ _=>(xce G_sides_of hr T.e_sides_of (Ze (xv 1) (xa1 (xix (xv 0) xci)))))))))
theorem Z9:Zq ["a", "b", "left"] ["a", "b"] (Zk Jc):=fsc
theorem Zal {f:Nat→Addr} {fd:Nat→FuncData} {cls:Nat→Addr} (T:Txt K mg f fd cls):FnOk P w K mg base CX0 1 (f 14) (fd 14) ["a", "b"] (spD K (sD Z6)):=by
 refine Z1 T.e_greatest_divisor.F Z9 (S:=Jl) rfl rfl (fun cdv A outer s H E hr=>?_)
 have hu:=hr.units
 exact (xsq (xst 0 Z9.nd (Zdn Z10 (Zht Zqs Zjf (by rfl) T.z_abs L2.B.boot_abs (xa1 (xv 0))))) (xsq (xst 1 Z9.nd (Zdn Z10 (Zht Zqs Zjf (by rfl) T.z_abs L2.B.boot_abs (xa1 (xv 1))))) (xsq (Znw (Zou PassesOwn.never (xne hu (xv 1) xci) (xsq (xst 2 Z9.nd (Zna (xv 0) (xv 1))) (xsq (xst 0 Z9.nd (xv 1)) (Zg (xst 1 Z9.nd (xv 2))))))) (Zg (xrt (xv 0))))))
theorem Zdu:Zq ["top", "bottom", "shared"] ["top", "bottom"] (Zk Zfb):=fsc
theorem Zgo {f:Nat→Addr} {fd:Nat→FuncData} {cls:Nat→Addr} (T:Txt K mg f fd cls):FnOk P w K mg base CX0 2 (f 15) (fd 15) ["top", "bottom"] (spD K (sD Jo)):=by
 have G_greatest_divisor:=Zal (P:=P) (w:=w) (base:=base) T
 refine Z1 T.e_in_least.F Zdu (S:=Zdb) rfl rfl (fun cdv A outer s H E hr=>?_)
 exact (xsq (xst 2 Zdu.nd (xce G_greatest_divisor hr T.e_greatest_divisor (Ze (xv 0) (xa1 (xv 1))))) (xsq (xif (xlt (xv 1) xci) (Zg (xst 2 Zdu.nd (Znv (Zvh (xv 2))))) xnl) (Zg (xrt (xtp (Ze (Zqe (xv 0) (xv 2)) (xa1 (Zqe (xv 1) (xv 2)))))))))
theorem Zmp:Zq ["thing"] ["thing"] (Zk Zfc):=fsc
theorem Zhd {f:Nat→Addr} {fd:Nat→FuncData} {cls:Nat→Addr} (T:Txt K mg f fd cls):FnOk P w K mg base CX0 1 (f 16) (fd 16) ["thing"] (spD K (sD Yo)):=by
 refine Z1 T.e_is_whole.F Zmp (S:=Zcn) rfl rfl (fun cdv A outer s H E hr=>?_)
 exact (Zg (xrt (Zd7 (Zmt (Zb9 (Zgg (by decide) (by rfl) T.z_isinstance L2.B.boot_isinstance (by rfl) T.z_int L2.B.boot_int (xv 0))) (Zrr (Zt4 (Z6h (Zb9 (Zgg (by decide) (by rfl) T.z_isinstance L2.B.boot_isinstance (by rfl) T.z_bool L2.B.boot_bool (xv 0))))))))))
theorem Zmu:Zq ["top", "bottom"] ["top", "bottom"] (Zk Zff):=fsc
theorem Zd5 {f:Nat→Addr} {fd:Nat→FuncData} {cls:Nat→Addr} (T:Txt K mg f fd cls):FnOk P w K mg base CX0 3 (f 17) (fd 17) ["top", "bottom"] (spD K (sD Yd)):=by
 have G_in_least:=Zgo (P:=P) (w:=w) (base:=base) T
 have G_is_whole:=Zhd (P:=P) (w:=w) (base:=base) T
 refine Z1 T.e_fraction.F Zmu (S:=Zcp) rfl rfl (fun cdv A outer s H E hr=>?_)
 have hu:=hr.units
 exact (xsq (xif (MW.mt (Zvx (Zu1 (xno (Zcs (Zcw (xce G_is_whole hr T.e_is_whole (xa1 (xv 0))) (fun _=>rfl)))) (Zvx (Zu1 (xno (Zcs (Zcw (xce G_is_whole hr T.e_is_whole (xa1 (xv 1))) (fun _=>rfl)))) (Zq5 (xeq hu (xv 1) xci))))))) (Zg Zny) xnl) (Zg (xrt (xce G_in_least hr T.e_in_least (Ze (xv 0) (xa1 (xv 1)))))))
theorem Zb1:Zq ["n", "pairs", "i", "j"] ["n"] (Zk Zfy):=fsc
theorem Zhf {f:Nat→Addr} {fd:Nat→FuncData} {cls:Nat→Addr} (T:Txt K mg f fd cls):FnOk P w K mg base CX0 1 (f 18) (fd 18) ["n"] (spD K (sD Yz)):=by
 refine Z1 T.e_pairs_of.F Zb1 (S:=Zcj) rfl rfl (fun cdv A outer s H E hr=>?_)
 exact (xsq (xso 1 Zb1.nd (xls xa0)) (xsq (xfr PassesOwn.never rfl (Zeo (Yr (by rfl) T.z_range (xa1 (xv 0)))) (xg 2 Zb1.nd) (Zg (xfr PassesOwn.never rfl (Zvc (Zem (by rfl) T.z_range (Ze (Zj4 (xv 2) xci) (xa1 (xv 0))))) (xg 3 Zb1.nd) (Zg (Jd (Jb 1 (xtp (Ze (xv 2) (xa1 (xv 3)))))))))) (Zg (Zck (Zct 1)))))
theorem Wz:Zq ["numbers", "bottom", "q"] ["numbers"] (Zk Zag):=fsc
theorem Zb5 {f:Nat→Addr} {fd:Nat→FuncData} {cls:Nat→Addr} (T:Txt K mg f fd cls):FnOk P w K mg base CX0 2 (f 19) (fd 19) ["numbers"] (spD K (sD Yk)):=by
 have G_greatest_divisor:=Zal (P:=P) (w:=w) (base:=base) T
 refine Z1 T.e_shared_bottom.F Wz (S:=Zab) rfl rfl (fun cdv A outer s H E hr=>?_)
 exact (xsq (xst 1 Wz.nd xci) (xsq (xfr PassesOwn.never rfl (xil (xv 0)) (xg 2 Wz.nd) (Zg (xst 1 Wz.nd (Zlf (Zqe (xv 1) (xce G_greatest_divisor hr T.e_greatest_divisor (Ze (xv 1) (xa1 (xix (xv 2) xci))))) (xix (xv 2) xci))))) (Zg (xrt (xv 1)))))
theorem Wr:Zq ["n", "distances", "table", "pair", "distance"] ["n", "distances"] (Zk J3):=fsc
theorem Zfi {f:Nat→Addr} {fd:Nat→FuncData} {cls:Nat→Addr} (T:Txt K mg f fd cls):FnOk P w K mg base CX0 2 (f 20) (fd 20) ["n", "distances"] (spD K (sD Yq)):=by
 have G_pairs_of:=Zhf (P:=P) (w:=w) (base:=base) T
 refine Z1 T.e_table_of_pairs.F Wr (S:=Ys) rfl rfl (fun cdv A outer s H E hr=>?_)
 exact (xsq (Znu (Zbf (i:=2) (own:=["point"]) (caps:=[0]) (N':=["point", "n"]) true Wr.nd rfl (Or.inl rfl) (by exact ⟨rfl,by decide +kernel,rfl,by decide +kernel,rfl,rfl⟩) (by rfl) (by decide) (Zeo (Yr (by rfl) T.z_range (xa1 (xv 0)))) (fun _ _ _ _ _=>(xg 0 (by show List.Nodup (["point", "n"]:List Str) ; decide +kernel))) (fun _ _ _ _ _=>(J6 J4)) (fun _ _ _ _ _=>(Zxu (Z5c (xtp (Ze xci (xa1 xci))) (xv 1)))))) (xsq (xfr PassesOwn.never rfl (Ze7 (Zft (by rfl) T.z_zip L2.B.boot_zip (Ze (xce G_pairs_of hr T.e_pairs_of (xa1 (xv 0))) (xa1 (xv 1))))) (xg2 rfl (xg 3 Wr.nd) (xg 4 Wr.nd)) (xsq (Zm5 (Zmo 2 (xv 4) (xix (xv 3) xci) (xix (xv 3) xci) (fun _ _=>rfl))) (Zg (Zm5 (Zmo 2 (xv 4) (xix (xv 3) xci) (xix (xv 3) xci) (fun _ _=>rfl)))))) (Zg (Zck (Zct 2)))))
theorem Zkm:Zq ["bottom", "numbers"] ["bottom", "numbers"] (Zk Zea):=fsc
theorem Zf9 {f:Nat→Addr} {fd:Nat→FuncData} {cls:Nat→Addr} (T:Txt K mg f fd cls):FnOk P w K mg base CX0 1 (f 21) (fd 21) ["bottom", "numbers"] (spD K (sD Wx)):=by
 refine Z1 T.e_tops_over.F Zkm (S:=Zb8) rfl rfl (fun cdv A outer s H E hr=>?_)
 exact (Zg (xrt (Zba (Zh1 ["q"] [0] ["q", "bottom"] (xil (xv 1)) (fun _ _ _ _ _=>(xg 0 (by show List.Nodup (["q", "bottom"]:List Str) ; decide +kernel))) (fun _ _ _ _ _=>(J6 J4)) (fun _ _ _ _ _=>(Zlf (xix (xv 0) xci) (Zqe (xv 1) (xix (xv 0) xci))))))))
theorem Y7:Zq ["n", "cuts", "weights", "bottom", "tops", "sides", "distances", "i", "j", "parting"] ["n", "cuts"] (Zk Ze2):=fsc
theorem Zm1 {f:Nat→Addr} {fd:Nat→FuncData} {cls:Nat→Addr} (T:Txt K mg f fd cls):FnOk P w K mg base CX0 4 (f 22) (fd 22) ["n", "cuts"] (spD K (sD Wl)):=by
 have G_all_sides:=Zli (P:=P) (w:=w) (base:=base) T
 have G_fraction:=Zd5 (P:=P) (w:=w) (base:=base) T
 have G_pairs_of:=Zhf (P:=P) (w:=w) (base:=base) T
 have G_shared_bottom:=Zb5 (P:=P) (w:=w) (base:=base) T
 have G_table_of_pairs:=Zfi (P:=P) (w:=w) (base:=base) T
 have G_tops_over:=Zf9 (P:=P) (w:=w) (base:=base) T
 refine Z1 T.e_table_of.F Y7 (S:=Jp) rfl rfl (fun cdv A outer s H E hr=>?_)
 have hu:=hr.units
 exact (xsq (Znb (Zbf (i:=2) (own:=["weighted"]) (caps:=[]) (N':=["weighted"]) false Y7.nd rfl (Or.inl rfl) (by exact ⟨rfl,by decide +kernel,rfl,by decide +kernel,rfl,rfl⟩) (by rfl) (by decide) (xil (xv 1)) (fun _ _ _ _ _=>(xg 0 (by show List.Nodup (["weighted"]:List Str) ; decide +kernel))) (fun _ _ _ _ _=>(J6 J4)) (fun _ _ _ _ _=>(xix (xv 0) xci)))) (xsq (xst 3 Y7.nd (xce G_shared_bottom hr T.e_shared_bottom (xa1 (xv 2)))) (xsq (xst 4 Y7.nd (xce G_tops_over hr T.e_tops_over (Ze (xv 3) (xa1 (xv 2))))) (xsq (xst 5 Y7.nd (xce G_all_sides hr T.e_all_sides (Ze (xv 0) (xa1 (xv 1))))) (xsq (xso 6 Y7.nd (xls xa0)) (xsq (xfr PassesOwn.never rfl (xil (xce G_pairs_of hr T.e_pairs_of (xa1 (xv 0)))) (xg2 rfl (xg 7 Y7.nd) (xg 8 Y7.nd)) (xsq (Znb (Zbf (i:=9) (own:=["side", "top"]) (caps:=[7,8]) (N':=["side", "top", "i", "j"]) false Y7.nd rfl (Or.inl rfl) (by exact ⟨rfl,by decide +kernel,rfl,by decide +kernel,rfl,rfl⟩) (by rfl) (by decide) (Ze7 (Zft (by rfl) T.z_zip L2.B.boot_zip (Ze (xv 5) (xa1 (xv 4))))) (fun _ _ _ _ _=>(xg2 rfl (xg 0 (by show List.Nodup (["side", "top", "i", "j"]:List Str) ; decide +kernel)) (xg 1 (by show List.Nodup (["side", "top", "i", "j"]:List Str) ; decide +kernel)))) (fun _ _ _ _ _=>(Zj0 (xne hu (xix (xv 0) (xv 2)) (xix (xv 0) (xv 3))))) (fun _ _ _ _ _=>(xv 1)))) (Zg (Jd (Jb 6 (xce G_fraction hr T.e_fraction (Ze (Zdn Z55 (Zht Zw9 (Zlt rfl (by rfl)) (by rfl) T.z_sum L2.B.boot_sum (xa1 (xv 9)))) (xa1 (xv 3))))))))) (Zg (Zls (Zly 6 (xrt (xce G_table_of_pairs hr T.e_table_of_pairs (Ze (xv 0) (xa1 (xv 6))))))))))))))
theorem W5:Zq ["sums", "ranked"] ["sums"] (Zk Wb):=fsc
theorem Zbg {f:Nat→Addr} {fd:Nat→FuncData} {cls:Nat→Addr} (T:Txt K mg f fd cls):FnOk P w K mg base CX0 1 (f 23) (fd 23) ["sums"] (spD K (sD Z5)):=by
 refine Z1 T.e_is_one_alone_greatest.F W5 (S:=Wk) rfl rfl (fun cdv A outer s H E hr=>?_)
 exact (xsq (xst 1 W5.nd (Z1j Z1c (Z7k Zvn (Zpk rfl) (by rfl) T.z_sorted L2.B.boot_sorted (xa1 (xv 0))))) (Zg (xrt (Jm Z7b (Zkx Zwd Zf0 (xix (xv 1) xci) (xix (xv 1) xci) (hm:=(Jw _)))))))
theorem Yi:Zq ["n", "many", "begun", "step", "grown", "points", "least"] ["n", "many"] (Zk Zar):=fsc
theorem Zgd {f:Nat→Addr} {fd:Nat→FuncData} {cls:Nat→Addr} (T:Txt K mg f fd cls):FnOk P w K mg base CX0 1 (f 24) (fd 24) ["n", "many"] (spD K (sD Wt)):=by
 refine Z1 T.e_rising_tuples.F Yi (S:=J9) rfl rfl (fun cdv A outer s H E hr=>?_)
 exact (xsq (xst 2 Yi.nd (xls (xa1 (xtp xa0)))) (xsq (xfr PassesOwn.never rfl (Zeo (Yr (by rfl) T.z_range (xa1 (xv 1)))) (xg 3 Yi.nd) (xsq (xso 4 Yi.nd (xls xa0)) (xsq (xfr PassesOwn.never rfl (xil (xv 2)) (xg 5 Yi.nd) (xsq (xst 6 Yi.nd (Zm3 (Z44 (Ybw (xgt (xln T.z_len (xa1 (xv 5))) xci) (Zj4 (xix (xv 5) (Znv (Zvh xci))) xci) xci)))) (Zg (Zty (Zrl 4 (Zba (Zh1 ["point"] [5] ["point", "points"] (Zvc (Zem (by rfl) T.z_range (Ze (xv 6) (xa1 (xv 0))))) (fun _ _ _ _ _=>(xg 0 (by show List.Nodup (["point", "points"]:List Str) ; decide +kernel))) (fun _ _ _ _ _=>(J6 J4)) (fun _ _ _ _ _=>(Zm3 (Ziy Z3z (Z6n Zyy Z1x (xv 1) (xtp (xa1 (xv 0)))))))))))))) (Zg (Zls (Zly 4 (xst 2 Yi.nd (xv 4)))))))) (Zg (xrt (xv 2)))))
theorem Zjr:Zq ["rows", "i", "j", "k", "l"] ["rows", "i", "j", "k", "l"] (Zk Zc5):=fsc
theorem Zek {f:Nat→Addr} {fd:Nat→FuncData} {cls:Nat→Addr} (T:Txt K mg f fd cls):FnOk P w K mg base CX0 1 (f 25) (fd 25) ["rows", "i", "j", "k", "l"] (spD K (sD Z0)):=by
 refine Z1 T.e_three_sums.F Zjr (S:=Zbh) rfl rfl (fun cdv A outer s H E hr=>?_)
 exact (Zg (xrt (xtp (Ze (Zj4 (xix (xix (xv 0) (xv 1)) (xv 2)) (xix (xix (xv 0) (xv 3)) (xv 4))) (Ze (Zj4 (xix (xix (xv 0) (xv 1)) (xv 3)) (xix (xix (xv 0) (xv 2)) (xv 4))) (xa1 (Zj4 (xix (xix (xv 0) (xv 1)) (xv 4)) (xix (xix (xv 0) (xv 2)) (xv 3)))))))))
theorem Ji:Zq ["rows", "i", "j", "k", "l"] ["rows"] (Zk Zda):=fsc
theorem Zjd {f:Nat→Addr} {fd:Nat→FuncData} {cls:Nat→Addr} (T:Txt K mg f fd cls):FnOk P w K mg base CX0 2 (f 26) (fd 26) ["rows"] (spD K (sD Jt)):=by
 have G_is_one_alone_greatest:=Zbg (P:=P) (w:=w) (base:=base) T
 have G_rising_tuples:=Zgd (P:=P) (w:=w) (base:=base) T
 have G_three_sums:=Zek (P:=P) (w:=w) (base:=base) T
 refine Z1 T.e_first_four.F Ji (S:=Zbj) rfl rfl (fun cdv A outer s H E hr=>?_)
 exact (xsq (xfr PassesOwn.never rfl (xil (xce G_rising_tuples hr T.e_rising_tuples (Ze (xln T.z_len (xa1 (xv 0))) (xa1 xci)))) (Zqm (Ztt (n:=4) (by rfl) (Zax (Za5 (xg 1 Ji.nd) (Zax (Za5 (xg 2 Ji.nd) (Zax (Za5 (xg 3 Ji.nd) (Zax (Za5 (xg 4 Ji.nd) (Zl7 Zmq))))))))))) (Zg (xif (Zcs (Zcw (xce G_is_one_alone_greatest hr T.e_is_one_alone_greatest (xa1 (xce G_three_sums hr T.e_three_sums (Ze (xv 0) (Ze (xv 1) (Ze (xv 2) (Ze (xv 3) (xa1 (xv 4))))))))) (fun _=>rfl))) (Zg (xrt (xtp (Ze (xv 1) (Ze (xv 2) (Ze (xv 3) (xa1 (xv 4)))))))) xnl))) (Zg (xrt (Zjk Zoa))))
theorem Zl6:Zq ["q", "r"] ["q", "r"] (Zk Zfg):=fsc
theorem Zmr {f:Nat→Addr} {fd:Nat→FuncData} {cls:Nat→Addr} (T:Txt K mg f fd cls):FnOk P w K mg base CX0 1 (f 27) (fd 27) ["q", "r"] (spD K (sD Zah)):=by
 refine Z1 T.e_is_below.F Zl6 (S:=Zc1) rfl rfl (fun cdv A outer s H E hr=>?_)
 exact (Zg (xrt (Jm Z7b (Zkx Zwd Zf0 (Zlf (xix (xv 0) xci) (xix (xv 1) xci)) (Zlf (xix (xv 1) xci) (xix (xv 0) xci)) (hm:=(Jw _))))))
theorem Z0j:Zq ["q", "r"] ["q", "r"] (Zk Zsg):=fsc
theorem Z0c {f:Nat→Addr} {fd:Nat→FuncData} {cls:Nat→Addr} (T:Txt K mg f fd cls):FnOk P w K mg base CX0 3 (f 28) (fd 28) ["q", "r"] (spD K (sD Zdz)):=by
 have G_in_least:=Zgo (P:=P) (w:=w) (base:=base) T
 refine Z1 T.e_plus.F Z0j (S:=Zg6) rfl rfl (fun cdv A outer s H E hr=>?_)
 exact (Zg (xrt (xce G_in_least hr T.e_in_least (Ze (Zj4 (Zlf (xix (xv 0) xci) (xix (xv 1) xci)) (Zlf (xix (xv 1) xci) (xix (xv 0) xci))) (xa1 (Zlf (xix (xv 0) xci) (xix (xv 1) xci)))))))
theorem Zh9:Zq ["table", "i", "j", "k"] ["table", "i", "j", "k"] (Zk Zbw):=fsc
theorem Zh4 {f:Nat→Addr} {fd:Nat→FuncData} {cls:Nat→Addr} (T:Txt K mg f fd cls):FnOk P w K mg base CX0 4 (f 29) (fd 29) ["table", "i", "j", "k"] (spD K (sD W9)):=by
 have G_is_below:=Zmr (P:=P) (w:=w) (base:=base) T
 have G_plus:=Z0c (P:=P) (w:=w) (base:=base) T
 refine Z1 T.e_is_short_by.F Zh9 (S:=Zaw) rfl rfl (fun cdv A outer s H E hr=>?_)
 exact (Zg (xrt (xce G_is_below hr T.e_is_below (Ze (xce G_plus hr T.e_plus (Ze (xix (xix (xv 0) (xv 1)) (xv 2)) (xa1 (xix (xix (xv 0) (xv 2)) (xv 3))))) (xa1 (xix (xix (xv 0) (xv 1)) (xv 3)))))))
theorem Wu:Zq ["table", "n", "i", "j", "k"] ["table"] (Zk Zbt):=fsc
theorem Zh7 {f:Nat→Addr} {fd:Nat→FuncData} {cls:Nat→Addr} (T:Txt K mg f fd cls):FnOk P w K mg base CX0 5 (f 30) (fd 30) ["table"] (spD K (sD Wg)):=by
 have G_is_short_by:=Zh4 (P:=P) (w:=w) (base:=base) T
 refine Z1 T.e_first_short.F Wu (S:=Za0) rfl rfl (fun cdv A outer s H E hr=>?_)
 exact (xsq (xst 1 Wu.nd (xln T.z_len (xa1 (xv 0)))) (xsq (xfr PassesOwn.never rfl (Zeo (Yr (by rfl) T.z_range (xa1 (xv 1)))) (xg 2 Wu.nd) (Zg (xfr PassesOwn.never rfl (Zeo (Yr (by rfl) T.z_range (xa1 (xv 1)))) (xg 3 Wu.nd) (Zg (xfr PassesOwn.never rfl (Zeo (Yr (by rfl) T.z_range (xa1 (xv 1)))) (xg 4 Wu.nd) (Zg (xif (Zcs (Zcw (xce G_is_short_by hr T.e_is_short_by (Ze (xv 0) (Ze (xv 2) (Ze (xv 3) (xa1 (xv 4)))))) (fun _=>rfl))) (Zg (xrt (xtp (Ze (xv 2) (Ze (xv 3) (xa1 (xv 4))))))) xnl))))))) (Zg (xrt (Zjk Zoa)))))
theorem Jf:Zq ["table", "bottom", "row"] ["table"] (Zk Zbd):=fsc
theorem Zak {f:Nat→Addr} {fd:Nat→FuncData} {cls:Nat→Addr} (T:Txt K mg f fd cls):FnOk P w K mg base CX0 3 (f 31) (fd 31) ["table"] (spD K (sD Z4)):=by
 have G_shared_bottom:=Zb5 (P:=P) (w:=w) (base:=base) T
 refine Z1 T.e_table_bottom.F Jf (S:=Zan) rfl rfl (fun cdv A outer s H E hr=>?_)
 exact (xsq (xst 1 Jf.nd xci) (xsq (xfr PassesOwn.never rfl (xil (xv 0)) (xg 2 Jf.nd) (Zg (xst 1 Jf.nd (xce G_shared_bottom hr T.e_shared_bottom (xa1 (Zm3 (Ziy Zwz (Z6n (Zjg rfl) Zni (xls (xa1 (xtp (Ze xci (xa1 (xv 1)))))) (xv 2))))))))) (Zg (xrt (xv 1)))))
theorem Zjz:Zq ["bottom", "table"] ["bottom", "table"] (Zk Zcr):=fsc
theorem Zbz {f:Nat→Addr} {fd:Nat→FuncData} {cls:Nat→Addr} (T:Txt K mg f fd cls):FnOk P w K mg base CX0 2 (f 32) (fd 32) ["bottom", "table"] (spD K (sD Ym)):=by
 have G_tops_over:=Zf9 (P:=P) (w:=w) (base:=base) T
 refine Z1 T.e_table_over.F Zjz (S:=Zbk) rfl rfl (fun cdv A outer s H E hr=>?_)
 exact (Zg (xrt (Zba (Zh1 ["row"] [0] ["row", "bottom"] (xil (xv 1)) (fun _ _ _ _ _=>(xg 0 (by show List.Nodup (["row", "bottom"]:List Str) ; decide +kernel))) (fun _ _ _ _ _=>(J6 J4)) (fun _ _ _ _ _=>(xce G_tops_over hr T.e_tops_over (Ze (xv 1) (xa1 (xv 0)))))))))
theorem Zeu:Zq ["table", "short"] ["table"] (Zk Zcq):=fsc
theorem Zi9 {f:Nat→Addr} {fd:Nat→FuncData} {cls:Nat→Addr} (T:Txt K mg f fd cls):FnOk P w K mg base CX0 6 (f 33) (fd 33) ["table"] (spD K (sD Js)):=by
 have G_first_four:=Zjd (P:=P) (w:=w) (base:=base) T
 have G_first_short:=Zh7 (P:=P) (w:=w) (base:=base) T
 have G_table_bottom:=Zak (P:=P) (w:=w) (base:=base) T
 have G_table_over:=Zbz (P:=P) (w:=w) (base:=base) T
 refine Z1 T.e_first_bars.F Zeu (S:=Zbn) rfl rfl (fun cdv A outer s H E hr=>?_)
 exact (xsq (xst 1 Zeu.nd (xce G_first_short hr T.e_first_short (xa1 (xv 0)))) (xsq (xif (Zbo Zq4 (Zbi Zsr Zrx (xv 1) (Zjk Zoa) (hm:=(Jw _)))) (Zg (xrt (xv 1))) xnl) (Zg (xrt (xce G_first_four hr T.e_first_four (xa1 (xce G_table_over hr T.e_table_over (Ze (xce G_table_bottom hr T.e_table_bottom (xa1 (xv 0))) (xa1 (xv 0))))))))))
theorem Zkq:Zq ["sums"] ["sums"] (Zk Zee):=fsc
theorem Zcm {f:Nat→Addr} {fd:Nat→FuncData} {cls:Nat→Addr} (T:Txt K mg f fd cls):FnOk P w K mg base CX0 1 (f 34) (fd 34) ["sums"] (spD K (sD Yj)):=by
 refine Z1 T.e_tree_rule.F Zkq (S:=Zcc) rfl rfl (fun cdv A outer s H E hr=>?_)
 exact (Zg (xrt (Z62 (Zdn Z3b (Zht Zs5 (Zkt (by rfl)) (by rfl) T.z_min L2.B.boot_min (Ze (xix (xv 0) xci) (xa1 (xix (xv 0) xci))))) (xix (xv 0) xci))))
theorem Jh:Zq ["points", "doubles", "place", "point", "other"] ["points"] (Zk Zc2):=fsc
theorem Zjy {f:Nat→Addr} {fd:Nat→FuncData} {cls:Nat→Addr} (T:Txt K mg f fd cls):FnOk P w K mg base CX0 1 (f 35) (fd 35) ["points"] (spD K (sD Wq)):=by
 refine Z1 T.e_doubles_of.F Jh (S:=Zbm) rfl rfl (fun cdv A outer s H E hr=>?_)
 exact (xsq (xso 1 Jh.nd (xls xa0)) (xsq (xfr PassesOwn.never rfl (Z09 (Z0u (by rfl) T.z_enumerate L2.B.boot_enumerate (xa1 (xv 0)))) (xg2 rfl (xg 2 Jh.nd) (xg 3 Jh.nd)) (Zg (xfr PassesOwn.never rfl (xil (Z4d (Z3f (xv 0) (Zro (Zqk (xv 2))) (Zsb Zq6)))) (xg 4 Jh.nd) (Zg (Jd (Jb 1 (xtp (Ze (xv 3) (xa1 (xv 4)))))))))) (Zg (Zck (Zct 1)))))
theorem Zw:Zq ["rows", "cut", "rule", "others", "beyond", "least", "a", "b", "c", "e"] ["rows", "cut", "rule"] (Zk W8):=fsc
theorem Zaq {f:Nat→Addr} {fd:Nat→FuncData} {cls:Nat→Addr} (T:Txt K mg f fd cls):FnOk P w K mg base CX0 2 (f 36) (fd 36) ["rows", "cut", "rule"] (spD K (sD Zz)):=by
 have G_doubles_of:=Zjy (P:=P) (w:=w) (base:=base) T
 have G_three_sums:=Zek (P:=P) (w:=w) (base:=base) T
 have G_tree_rule:=Zcm (P:=P) (w:=w) (base:=base) T
 refine Z1 T.e_least_over_sides.F Zw (S:=Jk) rfl rfl (fun cdv A outer s H E hr=>?_)
 exact (xsq (Znb (Zbf (i:=3) (own:=["point"]) (caps:=[1]) (N':=["point", "cut"]) false Zw.nd rfl (Or.inl rfl) (by exact ⟨rfl,by decide +kernel,rfl,by decide +kernel,rfl,rfl⟩) (by rfl) (by decide) (Zeo (Yr (by rfl) T.z_range (xa1 (xln T.z_len (xa1 (xv 0)))))) (fun _ _ _ _ _=>(xg 0 (by show List.Nodup (["point", "cut"]:List Str) ; decide +kernel))) (fun _ _ _ _ _=>(Zj0 (Zbo Zwc (Zbi (Ztk rfl) Zv4 (xv 0) (xv 1) (hm:=(by with_unfolding_all rfl)))))) (fun _ _ _ _ _=>(xv 0)))) (xsq (xst 4 Zw.nd (xce G_doubles_of hr T.e_doubles_of (xa1 (xv 3)))) (xsq (xst 5 Zw.nd (Zos (Zsu (i:=2) G_tree_rule (hr.mono (by decide)) T.fa_tree_rule T.e_tree_rule.F.kp T.e_tree_rule.b Zve (xa1 (xce G_three_sums hr T.e_three_sums (Ze (xv 0) (Ze (xix (xv 1) xci) (Ze (xix (xv 1) xci) (Ze xci (xa1 xci)))))))))) (xsq (xfr PassesOwn.never rfl (xil (xce G_doubles_of hr T.e_doubles_of (xa1 (xv 1)))) (xg2 rfl (xg 6 Zw.nd) (xg 7 Zw.nd)) (xsq (xfr PassesOwn.never rfl (xil (xv 4)) (xg2 rfl (xg 8 Zw.nd) (xg 9 Zw.nd)) (Zg (xst 5 Zw.nd (Zdn Z3b (Zht Zs5 (Zkt (by rfl)) (by rfl) T.z_min L2.B.boot_min (Ze (xv 5) (xa1 (Zos (Zsu (i:=2) G_tree_rule (hr.mono (by decide)) T.fa_tree_rule T.e_tree_rule.F.kp T.e_tree_rule.b Zve (xa1 (xce G_three_sums hr T.e_three_sums (Ze (xv 0) (Ze (xv 6) (Ze (xv 7) (Ze (xv 8) (xa1 (xv 9))))))))))))))))) (Zg (xif (xle (xv 5) xci) (Zg (xrt xci)) xnl)))) (Zg (xrt (xv 5)))))))
theorem Wf:Zq ["table", "rule", "bottom", "rows", "weighted", "cut", "least"] ["table", "rule"] (Zk Zbx):=fsc
theorem Zib {f:Nat→Addr} {fd:Nat→FuncData} {cls:Nat→Addr} (T:Txt K mg f fd cls):FnOk P w K mg base CX0 4 (f 37) (fd 37) ["table", "rule"] (spD K (sD Jg)):=by
 have G_all_cuts:=Zhi (P:=P) (w:=w) (base:=base) T
 have G_fraction:=Zd5 (P:=P) (w:=w) (base:=base) T
 have G_least_over_sides:=Zaq (P:=P) (w:=w) (base:=base) T
 have G_table_bottom:=Zak (P:=P) (w:=w) (base:=base) T
 have G_table_over:=Zbz (P:=P) (w:=w) (base:=base) T
 refine Z1 T.e_weighted_by.F Wf (S:=Za6) rfl rfl (fun cdv A outer s H E hr=>?_)
 exact (xsq (xst 2 Wf.nd (xce G_table_bottom hr T.e_table_bottom (xa1 (xv 0)))) (xsq (xst 3 Wf.nd (xce G_table_over hr T.e_table_over (Ze (xv 2) (xa1 (xv 0))))) (xsq (xso 4 Wf.nd (xls xa0)) (xsq (xfr PassesOwn.never rfl (xil (xce G_all_cuts hr T.e_all_cuts (xa1 (xln T.z_len (xa1 (xv 0)))))) (xg 5 Wf.nd) (xsq (xst 6 Wf.nd (xce G_least_over_sides hr T.e_least_over_sides (Ze (xv 3) (Ze (xv 5) (xa1 (xv 1)))))) (Zg (xif (xgt (xv 6) xci) (Zg (Jd (Jb 4 (xtp (Ze (xv 5) (xa1 (xce G_fraction hr T.e_fraction (Ze (xv 6) (xa1 (Zlf xci (xv 2))))))))))) xnl)))) (Zg (Zck (Zct 4)))))))
theorem Zga:Zq ["table", "bars"] ["table"] (Zk Zed):=fsc
theorem Zlv {f:Nat→Addr} {fd:Nat→FuncData} {cls:Nat→Addr} (T:Txt K mg f fd cls):FnOk P w K mg base CX0 7 (f 38) (fd 38) ["table"] (spD K (sD Wy)):=by
 have G_first_bars:=Zi9 (P:=P) (w:=w) (base:=base) T
 have G_tree_rule:=Zcm (P:=P) (w:=w) (base:=base) T
 have G_weighted_by:=Zib (P:=P) (w:=w) (base:=base) T
 refine Z1 T.e_tree_told.F Zga (S:=Zcb) rfl rfl (fun cdv A outer s H E hr=>?_)
 exact (xsq (xst 1 Zga.nd (xce G_first_bars hr T.e_first_bars (xa1 (xv 0)))) (xsq (xif (Zbo Zq4 (Zbi Zsr Zrx (xv 1) (Zjk Zoa) (hm:=(Jw _)))) (Zg (xrt (xtp (Ze (Zjk Zqw) (xa1 (xv 1)))))) xnl) (Zg (xrt (xtp (Ze (Zjk Zqw) (xa1 (xce G_weighted_by hr T.e_weighted_by (Ze (xv 0) (xa1 (Zjk (Ybf (by rfl) T.e_tree_rule.m T.fa_tree_rule))))))))))))
theorem Zcz:Zq ["things", "one", "behind"] ["things"] (Zk Zdt):=fsc
theorem Zkr {f:Nat→Addr} {fd:Nat→FuncData} {cls:Nat→Addr} (T:Txt K mg f fd cls):FnOk P w K mg base CX0 1 (f 39) (fd 39) ["things"] (spD K (sD W0)):=by
 refine Z1 T.e_is_rising.F Zcz (S:=Zcd) rfl rfl (fun cdv A outer s H E hr=>?_)
 exact (xsq (xfr PassesOwn.never rfl (Ze7 (Zft (by rfl) T.z_zip L2.B.boot_zip (Ze (xv 0) (xa1 (Z4d (Z3f (xv 0) (Zro (Zqk xci)) (Zsb Zq6))))))) (xg2 rfl (xg 1 Zcz.nd) (xg 2 Zcz.nd)) (Zg (xif (xno (xlt (xv 1) (xv 2))) (Zg (xrt (Zjk Zjw))) xnl))) (Zg (xrt (Zjk Zjw))))
theorem Zk5:Zq ["n", "thing", "point"] ["n", "thing"] (Zk Zj1):=fsc
theorem Zt8 {f:Nat→Addr} {fd:Nat→FuncData} {cls:Nat→Addr} (T:Txt K mg f fd cls):FnOk P w K mg base CX0 2 (f 40) (fd 40) ["n", "thing"] (spD K (sD Zbs)):=by
 have G_is_rising:=Zkr (P:=P) (w:=w) (base:=base) T
 have G_is_whole:=Zhd (P:=P) (w:=w) (base:=base) T
 refine Z1 T.e_is_cut.F Zk5 (S:=Zew) rfl rfl (fun cdv A outer s H E hr=>?_)
 have hu:=hr.units
 exact (xsq (xif (MW.mt (Zvx (Zu1 (xno (Zcs (Zcw (Zb9 (Zgg (by decide) (by rfl) T.z_isinstance L2.B.boot_isinstance (by rfl) T.z_list L2.B.boot_list (xv 1))) (fun _=>rfl)))) (Zq5 (xeq hu (xln T.z_len (xa1 (xv 1))) xci))))) (Zg (xrt (Zjk Zjw))) xnl) (xsq (xfr PassesOwn.never rfl (xil (xv 1)) (xg 2 Zk5.nd) (Zg (xif (xno (Zcs (Zcw (xce G_is_whole hr T.e_is_whole (xa1 (xv 2))) (fun _=>rfl)))) (Zg (xrt (Zjk Zjw))) xnl))) (Zg (xrt (Zd7 (Zmt (xce G_is_rising hr T.e_is_rising (xa1 (xv 1))) (Zd7 (Zmt (Jm Yab (Zkx Z3v Zf0 (xix (xv 1) xci) xci (hm:=(Jw _)))) (Zrr (Jm Z7b (Zkx Zwd Zf0 (xix (xv 1) (Znv (Zvh xci))) (xv 0) (hm:=(Jw _)))))))))))))
theorem Zkc:Zq ["n", "thing"] ["n", "thing"] (Zk Zdy):=fsc
theorem Zk9 {f:Nat→Addr} {fd:Nat→FuncData} {cls:Nat→Addr} (T:Txt K mg f fd cls):FnOk P w K mg base CX0 3 (f 41) (fd 41) ["n", "thing"] (spD K (sD J2)):=by
 have G_is_cut:=Zt8 (P:=P) (w:=w) (base:=base) T
 refine Z1 T.e_check_cut.F Zkc (S:=Zb7) rfl rfl (fun cdv A outer s H E hr=>?_)
 exact (Zg (xif (xno (Zcs (Zcw (xce G_is_cut hr T.e_is_cut (Ze (xv 0) (xa1 (xv 1)))) (fun _=>rfl)))) (Zg Zny) xnl))
theorem Zcx:Zq ["table", "cut", "rule", "bottom", "least"] ["table", "cut", "rule"] (Zk Zd3):=fsc
theorem Zks {f:Nat→Addr} {fd:Nat→FuncData} {cls:Nat→Addr} (T:Txt K mg f fd cls):FnOk P w K mg base CX0 4 (f 42) (fd 42) ["table", "cut", "rule"] (spD K (sD J1)):=by
 have G_fraction:=Zd5 (P:=P) (w:=w) (base:=base) T
 have G_least_over_sides:=Zaq (P:=P) (w:=w) (base:=base) T
 have G_table_bottom:=Zak (P:=P) (w:=w) (base:=base) T
 have G_table_over:=Zbz (P:=P) (w:=w) (base:=base) T
 refine Z1 T.e_weight_by.F Zcx (S:=Zb6) rfl rfl (fun cdv A outer s H E hr=>?_)
 exact (xsq (xst 3 Zcx.nd (xce G_table_bottom hr T.e_table_bottom (xa1 (xv 0)))) (xsq (xst 4 Zcx.nd (xce G_least_over_sides hr T.e_least_over_sides (Ze (xce G_table_over hr T.e_table_over (Ze (xv 3) (xa1 (xv 0)))) (Ze (xv 1) (xa1 (xv 2)))))) (Zg (xrt (xce G_fraction hr T.e_fraction (Ze (xv 4) (xa1 (Zlf xci (xv 3)))))))))
theorem Zh8:Zq ["table", "cut"] ["table", "cut"] (Zk Zbr):=fsc
theorem Zhu {f:Nat→Addr} {fd:Nat→FuncData} {cls:Nat→Addr} (T:Txt K mg f fd cls):FnOk P w K mg base CX0 5 (f 43) (fd 43) ["table", "cut"] (spD K (sD Wj)):=by
 have G_check_cut:=Zk9 (P:=P) (w:=w) (base:=base) T
 have G_tree_rule:=Zcm (P:=P) (w:=w) (base:=base) T
 have G_weight_by:=Zks (P:=P) (w:=w) (base:=base) T
 refine Z1 T.e_tree_weight.F Zh8 (S:=Zav) rfl rfl (fun cdv A outer s H E hr=>?_)
 exact (xsq (Z1q (Zy0 (xce G_check_cut hr T.e_check_cut (Ze (xln T.z_len (xa1 (xv 0))) (xa1 (xv 1)))))) (Zg (xrt (xce G_weight_by hr T.e_weight_by (Ze (xv 0) (Ze (xv 1) (xa1 (Zjk (Ybf (by rfl) T.e_tree_rule.m T.fa_tree_rule)))))))))
theorem Zdd:Zq ["script", "n", "cell", "sides", "weights", "bottom", "table", "due", "cut", "weight", "found"] ["script"] (Zk Z0e):=fsc
theorem Z49 {f:Nat→Addr} {fd:Nat→FuncData} {cls:Nat→Addr} (T:Txt K mg f fd cls):FnOk P w K mg base CX0 8 (f 44) (fd 44) ["script"] (spD K (sD Zfu)):=by
 have G_law_alike:=Zlw (P:=P) (w:=w) (base:=base) T
 have G_law_bottom:=Zjm (P:=P) (w:=w) (base:=base) T
 have G_law_cell_at:=Zhx (P:=P) (w:=w) (base:=base) T
 have G_law_clusters:=Zgy (P:=P) (w:=w) (base:=base) T
 have G_law_low:=Ziu (P:=P) (w:=w) (base:=base) T
 have G_law_rows:=Zm6 (P:=P) (w:=w) (base:=base) T
 have G_law_size:=Zml (P:=P) (w:=w) (base:=base) T
 have G_law_table:=Zln (P:=P) (w:=w) (base:=base) T
 have G_law_weights:=Zh6 (P:=P) (w:=w) (base:=base) T
 have G_all_cuts:=Zhi (P:=P) (w:=w) (base:=base) T
 have G_table_of:=Zm1 (P:=P) (w:=w) (base:=base) T
 have G_tree_told:=Zlv (P:=P) (w:=w) (base:=base) T
 have G_tree_weight:=Zhu (P:=P) (w:=w) (base:=base) T
 refine Z1 T.e_law.F Zdd (S:=Zin) rfl rfl (fun cdv A outer s H E hr=>?_)
 have hu:=hr.units
 exact (xsq (xst 1 Zdd.nd (xce G_law_size hr T.e_law_size (Ze (xce G_law_cell_at hr T.e_law_cell_at (Ze (xv 0) (xa1 xci))) (Ze xci (Ze xci (xa1 xci)))))) (xsq (xst 2 Zdd.nd (xce G_law_cell_at hr T.e_law_cell_at (Ze (xv 0) (xa1 xci)))) (xsq (xst 3 Zdd.nd (xce G_law_clusters hr T.e_law_clusters (Ze (Zqe (xv 2) xci) (xa1 (xv 1))))) (xsq (xst 4 Zdd.nd (xce G_law_weights hr T.e_law_weights (Ze (xv 0) (Ze xci (Ze (xln T.z_len (xa1 (xv 3))) (xa1 (xv 2))))))) (xsq (xst 5 Zdd.nd (xce G_law_bottom hr T.e_law_bottom (xa1 (xv 2)))) (xsq (xst 6 Zdd.nd (xce G_law_table hr T.e_law_table (Ze (xce G_law_rows hr T.e_law_rows (Ze (xv 1) (Ze (xv 3) (xa1 (xv 4))))) (xa1 (xv 5))))) (xsq (xso 7 Zdd.nd (xls xa0)) (xsq (xfr PassesOwn.never rfl (xil (xce G_all_cuts hr T.e_all_cuts (xa1 (xv 1)))) (xg 8 Zdd.nd) (xsq (xst 9 Zdd.nd (Zdn Z55 (Zht Zw9 (Zlt rfl (by rfl)) (by rfl) T.z_sum L2.B.boot_sum (xa1 (Zba (Zh1 ["side", "one"] [8] ["side", "one", "cut"] (Ze7 (Zft (by rfl) T.z_zip L2.B.boot_zip (Ze (xv 3) (xa1 (xv 4))))) (fun _ _ _ _ _=>(xg2 rfl (xg 0 (by show List.Nodup (["side", "one", "cut"]:List Str) ; decide +kernel)) (xg 1 (by show List.Nodup (["side", "one", "cut"]:List Str) ; decide +kernel)))) (fun _ _ _ _ _=>(Zj0 (xeq hu (xv 0) (xv 2)))) (fun _ _ _ _ _=>(xv 1)))))))) (xsq (xif (xno (Zcs (Zcw (xce G_law_alike hr T.e_law_alike (Ze (xce G_tree_weight hr T.e_tree_weight (Ze (xv 6) (xa1 (xv 8)))) (xa1 (xce G_law_low hr T.e_law_low (Ze (xv 9) (xa1 (xv 5))))))) (fun _=>rfl)))) (Zg (xrt (Zjk Zjw))) xnl) (Zg (xif (xgt (xv 9) xci) (Zg (Jd (Jb 7 (xtp (Ze (xv 8) (xa1 (xce G_law_low hr T.e_law_low (Ze (xv 9) (xa1 (xv 5)))))))))) xnl))))) (xsq (xst 10 Zdd.nd (xce G_tree_told hr T.e_tree_told (xa1 (xv 6)))) (Zg (xrt (Zd7 (Zmt (xce G_law_alike hr T.e_law_alike (Ze (xv 10) (xa1 (xtp (Ze (Zjk Zqw) (xa1 (xo 7))))))) (Zrr (xce G_law_alike hr T.e_law_alike (Ze (xce G_table_of hr T.e_table_of (Ze (xv 1) (xa1 (xix (xv 10) xci)))) (xa1 (xv 6))))))))))))))))))
theorem Z0f {f:Nat→Addr} {fd:Nat→FuncData} {cls:Nat→Addr} (T:Txt K mg f fd cls):FnOk P w K mg base CX0 8 (f 44) (fd 44) ["script"] (spD K Z2r):=(Z49 T).imp fun vs H Q E q=>by
 obtain ⟨L,ds,k,h1,⟨ns,e,hl,hk⟩,h3⟩:=q
 exact ⟨L,ds,k,h1,⟨_,by rw [e]; exact Zu6 ns hl,hk⟩,h3⟩
end
theorem Z39 {l:PySem.W.OpenLaw} {w:World} {K:PySem.W.Frag} {h:Heap} {mg:Str→Option Value} {fa:Addr} (X:K.In h) (G:h.Ns mainGlobals mg) (hfa:mg "law" = some (.ref fa))
  (q1:Ei K "_law_alike" Zdv f1 d1)
  (q2:Ei K "_law_bottom" Zc8 f2 d2)
  (q3:Ei K "_law_cell_at" Zbv f3 d3)
  (q4:Ei K "_law_stir" Zfx f4 d4)
  (q5:Ei K "_law_numbers" Zb2 f5 d5)
  (q6:Ei K "_law_clusters" Zbc f6 d6)
  (q7:Ei K "_law_low" Zhn f7 d7)
  (q8:Ei K "_law_rows" Zfq f8 d8)
  (q9:Ei K "_law_size" Ze9 f9 d9)
  (q10:Ei K "_law_table" Zd4 f10 d10)
  (q11:Ei K "_law_weights" Zby f11 d11)
  (q12:Ei K "all_cuts" Ze5 f12 d12)
  (q13:Ei K "sides_of" Zfj f13 d13)
  (q14:Ei K "all_sides" Zd6 f14 d14)
  (q15:Ei K "greatest_divisor" Jc f15 d15)
  (q16:Ei K "in_least" Zfb f16 d16)
  (q17:Ei K "is_whole" Zfc f17 d17)
  (q18:Ei K "fraction" Zff f18 d18)
  (q19:Ei K "pairs_of" Zfy f19 d19)
  (q20:Ei K "shared_bottom" Zag f20 d20)
  (q21:Ei K "table_of_pairs" J3 f21 d21)
  (q22:Ei K "tops_over" Zea f22 d22)
  (q23:Ei K "table_of" Ze2 f23 d23)
  (q24:Ei K "is_one_alone_greatest" Wb f24 d24)
  (q25:Ei K "rising_tuples" Zar f25 d25)
  (q26:Ei K "three_sums" Zc5 f26 d26)
  (q27:Ei K "first_four" Zda f27 d27)
  (q28:Ei K "is_below" Zfg f28 d28)
  (q29:Ei K "plus" Zsg f29 d29)
  (q30:Ei K "is_short_by" Zbw f30 d30)
  (q31:Ei K "first_short" Zbt f31 d31)
  (q32:Ei K "table_bottom" Zbd f32 d32)
  (q33:Ei K "table_over" Zcr f33 d33)
  (q34:Ei K "first_bars" Zcq f34 d34)
  (q35:Ei K "tree_rule" Zee f35 d35)
  (q36:Ei K "doubles_of" Zc2 f36 d36)
  (q37:Ei K "least_over_sides" W8 f37 d37)
  (q38:Ei K "weighted_by" Zbx f38 d38)
  (q39:Ei K "tree_told" Zed f39 d39)
  (q40:Ei K "is_rising" Zdt f40 d40)
  (q41:Ei K "is_cut" Zj1 f41 d41)
  (q42:Ei K "check_cut" Zdy f42 d42)
  (q43:Ei K "weight_by" Zd3 f43 d43)
  (q44:Ei K "tree_weight" Zbr f44 d44)
  (q45:Ei K "law" Z0e f45 d45)
  (z0:PySem.W.nsIn K mainGlobals "abs" = some none)
  (z1:PySem.W.nsIn K mainGlobals "bool" = some none)
  (z2:PySem.W.nsIn K mainGlobals "enumerate" = some none)
  (z3:PySem.W.nsIn K mainGlobals "int" = some none)
  (z4:PySem.W.nsIn K mainGlobals "isinstance" = some none)
  (z5:PySem.W.nsIn K mainGlobals "len" = some none)
  (z6:PySem.W.nsIn K mainGlobals "list" = some none)
  (z7:PySem.W.nsIn K mainGlobals "min" = some none)
  (z8:PySem.W.nsIn K mainGlobals "range" = some none)
  (z9:PySem.W.nsIn K mainGlobals "sorted" = some none)
  (z10:PySem.W.nsIn K mainGlobals "str" = some none)
  (z11:PySem.W.nsIn K mainGlobals "sum" = some none)
  (z12:PySem.W.nsIn K mainGlobals "tuple" = some none)
  (z13:PySem.W.nsIn K mainGlobals "zip" = some none)
  (cc_NoCut:PySem.W.nsIn K mainGlobals "NoCut" = some (some (.ref C_NoCut)))
  (cc_NoNumber:PySem.W.nsIn K mainGlobals "NoNumber" = some (some (.ref C_NoNumber)))
  (x_NoCut:Zfw K C_NoCut)
  (x_NoNumber:Zfw K C_NoNumber)
  (r_NoCut:Zv9 K C_NoCut)
  (r_NoNumber:Zv9 K C_NoNumber)
  : ∃ fd:FuncData,(∀ (s:Shared) (v:Value),BindsTo s fd ⟨[v],[]⟩ [("script", v)])∧∀ base:Heap,K.In base→base.Ns mainGlobals mg→FnOk l.prog w K mg base CX0 8 fa fd ["script"] (spD K Z2r):=by
 have e:=hfa.symm.trans (PySem.W.mg_of X G q45.a)
 cases e
 have T:Txt K mg (fun k=>[f1,f2,f3,f4,f5,f6,f7,f8,f9,f10,f11,f12,f13,f14,f15,f16,f17,f18,f19,f20,f21,f22,f23,f24,f25,f26,f27,f28,f29,f30,f31,f32,f33,f34,f35,f36,f37,f38,f39,f40,f41,f42,f43,f44,f45].getD k 0) (fun k=>[d1,d2,d3,d4,d5,d6,d7,d8,d9,d10,d11,d12,d13,d14,d15,d16,d17,d18,d19,d20,d21,d22,d23,d24,d25,d26,d27,d28,d29,d30,d31,d32,d33,d34,d35,d36,d37,d38,d39,d40,d41,d42,d43,d44,d45].getD k d45) (fun k=>[C_NoCut,C_NoNumber].getD k 0):=⟨en2 X G q1,en1 X G q2,en2 X G q3,en2 X G q4,en2 X G q5,en2 X G q6,en2 X G q7,en3 X G q8,en4 X G q9,en2 X G q10,en4 X G q11,en1 X G q12,en2 X G q13,en2 X G q14,en2 X G q15,en2 X G q16,en1 X G q17,en2 X G q18,en1 X G q19,en1 X G q20,en2 X G q21,en2 X G q22,en2 X G q23,en1 X G q24,en2 X G q25,en5 X G q26,en1 X G q27,en2 X G q28,en2 X G q29,en4 X G q30,en1 X G q31,en1 X G q32,en2 X G q33,en1 X G q34,en1 X G q35,en1 X G q36,en3 X G q37,en2 X G q38,en1 X G q39,en1 X G q40,en2 X G q41,en2 X G q42,en3 X G q43,en2 X G q44,en1 X G q45,q35.a,PySem.W.mg_none_of X G z0,PySem.W.mg_none_of X G z1,PySem.W.mg_none_of X G z2,PySem.W.mg_none_of X G z3,PySem.W.mg_none_of X G z4,PySem.W.mg_none_of X G z5,PySem.W.mg_none_of X G z6,PySem.W.mg_none_of X G z7,PySem.W.mg_none_of X G z8,PySem.W.mg_none_of X G z9,PySem.W.mg_none_of X G z10,PySem.W.mg_none_of X G z11,PySem.W.mg_none_of X G z12,PySem.W.mg_none_of X G z13,ec X G cc_NoCut,ec X G cc_NoNumber,x_NoCut,x_NoNumber,r_NoCut,r_NoNumber⟩
 refine ⟨d45,fun s v=>?_,fun base _ _=>Z0f (P:=l.prog) (w:=w) (base:=base) T⟩
 obtain ⟨_,_,_,_,_,_,_,_,_,rfl,_,_⟩:=q45.F.ex
 exact .of_eq rfl
theorem walk {l:PySem.W.OpenLaw} {q:Program} {loose:List Str} {XP:(Str→Option Value)→Heap→Prop} {YP:World→Heap→Prop} {d:DefRec} {K:Params→PySem.W.Frag} (hn:l.most = some 63) (hdf:d.params.defaults = [])
  (hY:∀ (w:World) (h:Heap),YP w h→(K w.params).In h)
  (F:∀ (w:World) (mg:Str→Option Value) (fa:Addr) (h:Heap),(K w.params).In h→h.Ns mainGlobals mg→mg d.name = some (.ref fa) →
   ∃ fd:FuncData,(∀ (s:Shared) (u:Value),BindsTo s fd ⟨[u],[]⟩ [("script", u)])∧∀ base:Heap,(K w.params).In base→base.Ns mainGlobals mg→FnOk l.prog w (K w.params) mg base CX0 8 fa fd ["script"] (spD (K w.params) Z2r)) :
  PySem.W.WalkO q loose XP YP l.row.toRowW d [] (fun f vs=>PySem.call f vs) :=
 L2.Z1p (n:=63) (k:=8) (x := "script") (CX:=fun _=>CX0) (sp:=fun w=>spD (K w.params) Z2r) hn (by decide) hdf ⟨rfl,by decide,by decide⟩ hY F (fun _ _ a ns hl _ hS=>Z29 hl hS) fun _ _ _ _ _ z=>z
end My
open PySem PySem.W PyProof.Rows
theorem PySem.W.Fast.tw4523245510441396430:True:=trivial
theorem PySem.W.Fast.tw7615739837820960872:True:=trivial
theorem PySem.W.Fast.tw16258487953663581939:True:=trivial
theorem PySem.W.Fast.tw4292564210471129920:True:=trivial
theorem PySem.W.Fast.tw8685475709659535839:True:=trivial
theorem PySem.W.Fast.tw3556707457568997613:True:=trivial
theorem PySem.W.Fast.tw8400646960748205441:True:=trivial
theorem PySem.W.Fast.tw2403060589747521939:True:=trivial
theorem PySem.W.Fast.tw17317629499659497783:True:=trivial
theorem PySem.W.Fast.tw6767515587709999607:True:=trivial
theorem PySem.W.Fast.tw17673479652028111638:True:=trivial
theorem PySem.W.Fast.tw14126016933516697220:True:=trivial
theorem PySem.W.Fast.tw11512237715813871190:True:=trivial
theorem PySem.W.Fast.tw16377730893270403842:True:=trivial
theorem PySem.W.Fast.tw7904484602545233589:True:=trivial
theorem PySem.W.Fast.tw5221757452246159810:True:=trivial
theorem PySem.W.Fast.tw1560005955200948491:True:=trivial
theorem PySem.W.Fast.tw2870069654278688891:True:=trivial
theorem PySem.W.Fast.tw11076084833963294722:True:=trivial
theorem PySem.W.Fast.tw5419759559894704123:True:=trivial
theorem PySem.W.Fast.tw4384439571674980902:True:=trivial
theorem PySem.W.Fast.tw401316926608633745:True:=trivial
theorem PySem.W.Fast.tw9780570253834272730:True:=trivial
theorem PySem.W.Fast.tw3485531842798912381:True:=trivial
theorem PySem.W.Fast.tw7584833898211546899:True:=trivial
theorem PySem.W.Fast.tw14521211576936056158:True:=trivial
theorem PySem.W.Fast.tw4934511781546187660:True:=trivial
theorem PySem.W.Fast.tw8922733680493902100:True:=trivial
theorem PySem.W.Fast.tw10088314084360577120:True:=trivial
theorem PySem.W.Fast.tw1584679954486078788:True:=trivial
theorem PySem.W.Fast.tw2333590245250527936:True:=trivial
theorem PySem.W.Fast.tw12721318393366838405:True:=trivial
theorem PySem.W.Fast.tw2238869420620185230:True:=trivial
theorem PySem.W.Fast.tw10949577462900735058:True:=trivial
theorem PySem.W.Fast.tw13304143239012643381:True:=trivial
theorem PySem.W.Fast.tw4282263788645322830:True:=trivial
theorem PySem.W.Fast.tw11324954013172439313:True:=trivial
theorem PySem.W.Fast.tw16355137420939455956:True:=trivial
theorem PySem.W.Fast.tw471908638714734987:True:=trivial
theorem PySem.W.Fast.tw4609106584215870634:True:=trivial
set_option maxRecDepth 100000 in
set_option maxHeartbeats 0 in
theorem PySem.Challenge.cw_farcuts_k25_whole_weights_of_trees_holds : PySem.Challenge.rw_farcuts_k25_whole_weights_of_trees.Holds := by
 w_on; o_law; k_head; (case hw=>w_witness2)
 k_fill
 refine My.walk (l:=PySem.Challenge.rw_farcuts_k25_whole_weights_of_trees) rfl rfl (fun w h Y=>PySem.W.kIn_of Y) ?F
 case F =>
  intro w mg fa h KX G hmg
  refine' My.Z39 KX G hmg ?_ ?_ ?_ ?_ ?_ ?_ ?_ ?_ ?_ ?_ ?_ ?_ ?_ ?_ ?_ ?_ ?_ ?_ ?_ ?_ ?_ ?_ ?_ ?_ ?_ ?_ ?_ ?_ ?_ ?_ ?_ ?_ ?_ ?_ ?_ ?_ ?_ ?_ ?_ ?_ ?_ ?_ ?_ ?_ ?_ ?_ ?_ ?_ ?_ ?_ ?_ ?_ ?_ ?_ ?_ ?_ ?_ ?_ ?_ ?_ ?_ ?_ ?_ ?_ ?_
  all_goals try (first | (refine' ⟨?a,L2.Z4t ?l ?c ?k⟩; (case a=>k_is); (case l=>k_is); (case c=>k_is); (case k=>k_is)) | k_is | kit_is | (show PySem.W.excIn _ _ _ _ = true; k_exc) | (refine' ⟨?_,?_,?_,?_,?_,?_,?_,?_,?_,?_,?_⟩ <;> first | k_is | kit_is | (show PySem.W.isClsIn _ _ = true; k_is)))
#print axioms PySem.Challenge.cw_farcuts_k25_whole_weights_of_trees_holds
