import PyProof.Rows.All
import Wide.All
import OpenK.AllK
import Wide.FinOn
import PyProof.EqAt
import PyProof.EqKinds
import PyProof.TupleCall
import PyProof.P3In
import PyProof.ZipIter
import PyProof.ListRange
import PyProof.SetRoads
import PyProof.Rows.SetFrom
import PyProof.Rows.SeqMore2
import KE.RegKIsAll
import PyProof.StrWalks
import PyProof.EnumMake
import PyProof.Conv_int
import PyProof.Conv_int_bool
import PyProof.StrBlockI
import PyProof.Draws
import PySem.Challenge.RW_farcuts_k63_webs_of_words
set_option Elab.async false
set_option linter.all false
set_option maxRecDepth 100000
/-! THE HAND LAYER, for ints, bools, texts, own classes, LISTS and tuples (index, slices, in, append, pop ..), calls, loops. Paste it whole ahead of your own text; what your proof does not reach may be deleted. -/
namespace L2
open PySem PySem.Spec PyProof.Rows
noncomputable abbrev Key:=Sum Int Str
noncomputable def Zla:Key→Value→Bool
 | .inl k,v=>Value.isInt k v
 | .inr x,v=>Value.isStrOf x v
noncomputable def Z9l (w:World):Key→Int
 | .inl k=>hashInt k
 | .inr x=>hashStr w x
theorem Yp:∀ {k:Key} {v:Value},Zla k v = true→(∃ i t,k = Sum.inl i∧v = Value.int i t)∨(∃ x t,k = Sum.inr x∧v = Value.str x t)
 | .inl i,v,h=>by
  obtain ⟨t,e⟩:=Value.isInt_shape (k:=i) (v:=v) h
  exact .inl ⟨i,t,rfl,e⟩
 | .inr x,v,h=>by
  obtain ⟨t,e⟩:=Value.isStrOf_shape (x:=x) (v:=v) h
  exact .inr ⟨x,t,rfl,e⟩
theorem Zm7 (i:Int) (t:Tok):Zla (.inl i) (.int i t) = true:=by simp [Zla,Value.isInt]
theorem Zpa (x:Str) (t:Tok):Zla (.inr x) (.str x t) = true:=by simp [Zla,Value.isStrOf]
theorem Z16 (a b:Int):decide ((Sum.inl a:Key) = Sum.inl b) = (a == b):=by
 by_cases e:a = b
 ·subst e; simp
 ·have h:¬ (Sum.inl a:Key) = Sum.inl b:=fun q=>e (Sum.inl.inj q)
  rw [decide_eq_false h]
  exact (beq_eq_false_iff_ne.mpr e).symm
theorem Z0h (a b:Str):decide ((Sum.inr a:Key) = Sum.inr b) = decide (a = b):=by
 by_cases e:a = b
 ·subst e; simp
 ·have h:¬ (Sum.inr a:Key) = Sum.inr b:=fun q=>e (Sum.inr.inj q)
  rw [decide_eq_false h,decide_eq_false e]
theorem Z1x (a:Int) (b:Str):decide ((Sum.inl a:Key) = Sum.inr b) = false:=decide_eq_false (fun q=>nomatch q)
theorem Zzj (a:Str) (b:Int):decide ((Sum.inr a:Key) = Sum.inl b) = false:=decide_eq_false (fun q=>nomatch q)
noncomputable def Wd (prog:Program) (w:World):PySem.KeyKind prog w Key where
 is:=Zla
 hash:=Z9l w
 inj:=fun v a b ha hb=>by
  rcases Yp ha with ⟨i,t,rfl,rfl⟩ | ⟨x,t,rfl,rfl⟩
  ·rcases Yp hb with ⟨j,u,rfl,e⟩ | ⟨y,u,rfl,e⟩
   ·injection e with e1 _; rw [e1]
   ·exact nomatch e
  ·rcases Yp hb with ⟨j,u,rfl,e⟩ | ⟨y,u,rfl,e⟩
   ·exact nomatch e
   ·injection e with e1 _; rw [e1]
 byValue:=fun k v h=>by
  rcases Yp h with ⟨i,t,rfl,rfl⟩ | ⟨x,t,rfl,rfl⟩ <;> rfl
 pyHash:=fun hv h=>by
  rcases Yp hv with ⟨i,t,rfl,rfl⟩ | ⟨x,t,rfl,rfl⟩
  ·exact wpAny_pyHash_int h
  ·exact wpAny_pyHash_str h
 eqBool:=fun hu hv h=>by
  rcases Yp hu with ⟨i,t,rfl,rfl⟩ | ⟨x,t,rfl,rfl⟩
  ·rcases Yp hv with ⟨j,u,rfl,rfl⟩ | ⟨y,u,rfl,rfl⟩
   ·rw [Z16] at h; exact wpAny_eqBool_int h
   ·rw [Z1x] at h; exact SeqAt.EqAt.int_str i t y u _ _ _ _ h
  ·rcases Yp hv with ⟨j,u,rfl,rfl⟩ | ⟨y,u,rfl,rfl⟩
   ·rw [Zzj] at h; exact SeqAt.EqAt.str_int x t j u _ _ _ _ h
   ·rw [Z0h] at h; exact wpAny_eqBool_str h
 «strs»:=fun k x t v h=>by
  rcases Yp h with ⟨i,u,rfl,e⟩ | ⟨y,u,rfl,e⟩
  ·exact nomatch e
  ·injection e with e1 _
   subst e1
   cases v <;> rfl
theorem Zi7 (prog:Program) (w:World) (i:Int) (t:Tok):(Wd prog w).is (.inl i) (.int i t) = true:=Zm7 i t
theorem Zjg (prog:Program) (w:World) (x:Str) (t:Tok):(Wd prog w).is (.inr x) (.str x t) = true:=Zpa x t
end L2
namespace L2
open PySem PySem.Spec PyProof.Rows
inductive V where
 | non | bl (b:Bool) | int (i:Int) | str (x:Str) | byt (b:Array UInt8) | flt (b:UInt64) | ref (a:Addr) | ty (n:String)
noncomputable def RelV:V→Value→Prop
 | .non,u=>u = Value.none
 | .bl b,u=>u = Value.bool b
 | .int i,u=>∃ t,u = Value.int i t
 | .str x,u=>∃ t,u = Value.str x t
 | .byt b,u=>∃ t,u = Value.bytes b t
 | .flt b,u=>∃ t,u = Value.float b t
 | .ref a,u=>u = Value.ref a
 | .ty n,u=>u = Value.type n
noncomputable abbrev Vals:List V→List Value→Prop:=Paired RelV
theorem Vals.length {xs:List V} {us:List Value} (r:Vals xs us):xs.length = us.length:=Paired.length r
theorem Vals.get {xs:List V} {us:List Value} {i:Nat} {x:V} (h:Vals xs us) (e:xs[i]? = some x):∃ u,us[i]? = some u∧RelV x u:=by
 induction h generalizing i with
 | nil=>exact (Option.some_ne_none _ (e.symm.trans List.getElem?_nil)).elim
 | cons r t ih =>
  cases i with
  | zero=>exact ⟨_,rfl,Option.some.inj e ▸ r⟩
  | succ i=>exact ih e
theorem Vals.set {x:V} {u:Value} (r:RelV x u) {xs:List V} {us:List Value} (i:Nat) (h:Vals xs us):Vals (xs.set i x) (us.set i u):=by
 induction h generalizing i with
 | nil=>exact .nil
 | cons q t ih =>
  cases i with
  | zero=>exact .cons r t
  | succ i=>exact .cons q (ih i)
theorem Vals.append {xs ys:List V} {us ws:List Value} (h:Vals xs us) (s:Vals ys ws):Vals (xs ++ ys) (us ++ ws):=by
 induction h with
 | nil=>exact s
 | cons r t ih=>exact .cons r ih
theorem Vals.take {xs:List V} {us:List Value} (n:Nat) (h:Vals xs us):Vals (xs.take n) (us.take n):=by
 induction h generalizing n with
 | nil=>rw [List.take_nil,List.take_nil]; exact .nil
 | cons r t ih =>
  cases n with
  | zero=>exact .nil
  | succ n=>exact .cons r (ih n)
theorem Vals.drop {xs:List V} {us:List Value} (n:Nat) (h:Vals xs us):Vals (xs.drop n) (us.drop n):=by
 induction h generalizing n with
 | nil=>rw [List.drop_nil,List.drop_nil]; exact .nil
 | cons r t ih =>
  cases n with
  | zero=>exact .cons r t
  | succ n=>exact ih n
noncomputable def RelO:Option V→Option Value→Prop
 | some v,some u=>RelV v u
 | none,none=>True
 | _,_=>False
noncomputable def KV {κ:Type}:List (κ × V)→List (κ × Value)→Prop:=Paired fun (p:κ × V) (q:κ × Value)=>p.1 = q.1∧RelV p.2 q.2
noncomputable def kV:Key→V
 | .inl i=>.int i
 | .inr x=>.str x
inductive HO where
  | lst (xs:List V)
  | tup (xs:List V)
  | dK (kvs:List (Key × V)) | dT (kvs:List (List Key × V))
  | set (S:Int→Bool) (n:Nat)
  | ins (C dx:Addr) (fs:List (Str × V))
  | own (x:Addr)
  | xd (fs:List (Str × V))
  | met (f x:Addr)
  | rng (lo hi:Int)
  | frz (o:Obj) (u:HO)
  | tbl (ps:Array Value)
  | ext (φ:Heap→Prop)
noncomputable abbrev Hp:=Addr→Option HO
noncomputable def upd (H:Hp) (a:Addr) (o:HO):Hp:=fun b=>if b = a then some o else H b
theorem Zm {H:Hp} {a:Addr} {o:HO}:upd H a o a = some o:=by unfold upd; rw [if_pos rfl]
theorem Zj {H:Hp} {a b:Addr} {o:HO} (h:b ≠ a):upd H a o b = H b:=by unfold upd; rw [if_neg h]
theorem Z6r {H:Hp} {a b:Addr} {o u:HO} (h:H a = some o) (h':H b = some u) (d:o ≠ u):a ≠ b:=by
 intro e; subst e; rw [h] at h'; exact d (Option.some.inj h')
theorem Z7 {H:Hp} {a b:Addr} {o:HO} (h:H a = some o) (h':H b = none):a ≠ b:=by
 intro e; subst e; rw [h] at h'; cases h'
section
variable (P:Program) (w:World)
noncomputable def ObjOk (H:Hp) (h:Heap) (a:Addr):HO→Prop
 | .lst xs=>xs.length ≤ sizeLine∧∃ (its:List Value) (n:Nat),Vals xs its∧h.get? a = some { cls:=.type "list", data:=.seq its.toArray n }
 | .tup xs=>xs.length ≤ sizeLine∧∃ its:List Value,Vals xs its∧IsTup h a its.toArray
 | .dK kvs=>kvs.length ≤ sizeLine∧(a == sysModules) = false∧∃ vs,KV kvs vs∧h.DictOf (Wd P w) a vs
 | .dT kvs=>kvs.length ≤ sizeLine∧(a == sysModules) = false∧∃ xs:List (List Key × Addr × Value),
   Paired (fun (p:List Key × V) (q:List Key × Addr × Value)=>p.1 = q.1∧H q.2.1 = some (.tup (p.1.map kV))∧RelV p.2 q.2.2) kvs xs ∧
   ∃ o es ep,h.get? a = some o∧o.ExactDict∧o.data = .dict es ep∧es.toList = xs.map (entryOfKey (tupleKind (Wd P w)))∧(xs.map (·.1)).Nodup
 | .set S n=>h.SetOf (intKind P w) a S n
 | .ins C dx fs=>H dx = some (.own a)∧fs.length ≤ 1000∧dx ≠ a∧h.get? a = some (PySem.W.instObj C dx) ∧
   ∃ mA,h.Ns1 dx mA∧(∀ f,RelO (fs.lookup f) (mA f))∧PySem.Within mA (fs.map (·.1))
 | .own _=>∃ o,h.get? a = some o
 | .xd fs=>∃ mA,h.Ns1 a mA∧∀ f,RelO (fs.lookup f) (mA f)
 | .rng lo hi=>∃ t u v,h.get? a = some { cls:=.type "range", data:=.fields #[.int lo t,.int hi u,.int 1 v] }
 | .frz o u=>h.get? a = some o∧ObjOk H h a u
 | .tbl ps=>h.get? a = some { cls:=.none,data:=.fields ps }
 | .met f x=>h.get? a = some (PySem.W.methodObj (.ref f) (.ref x))
 | .ext φ=>φ h∧(∃ o,h.get? a = some o)∧∀ h1 h2:Heap,φ h1→(∀ o,h1.get? a = some o→h2.get? a = some o)→φ h2
noncomputable def HOk (H:Hp) (h:Heap):Prop:=∀ a o,H a = some o→ObjOk P w H h a o
end
section
variable {P:Program} {w:World} {H H':Hp} {h h':Heap} {a:Addr} {o:HO}
theorem ObjOk.lt (x:ObjOk P w H h a o):a < h.objs.size:=by
 cases o with
 | lst xs=>obtain ⟨_,_,_,_,e⟩:=x; exact Heap.lt_size e
 | tup xs=>obtain ⟨_,_,_,p⟩:=x; exact p.lt
 | dK kvs=>obtain ⟨_,_,_,_,o,_,_,e,_⟩:=x; exact Heap.lt_size e
 | dT kvs=>obtain ⟨_,_,_,_,o,_,_,e,_⟩:=x; exact Heap.lt_size e
 | set S n=>obtain ⟨o,_,_,_,e,_⟩:=x; exact Heap.lt_size e
 | ins C dx fs=>obtain ⟨_,_,_,e,_⟩:=x; exact Heap.lt_size e
 | own y=>obtain ⟨_,e⟩:=x; exact Heap.lt_size e
 | xd fs=>obtain ⟨_,⟨_,_,_,e,_⟩,_⟩:=x; exact Heap.lt_size e
 | rng lo hi=>obtain ⟨_,_,_,e⟩:=x; exact Heap.lt_size e
 | frz ob u=>obtain ⟨e,_⟩:=x; exact Heap.lt_size e
 | tbl ps=>exact Heap.lt_size (show h.get? a = some _ from x)
 | met f y=>exact Heap.lt_size (show h.get? a = some _ from x)
 | ext φ=>obtain ⟨_,⟨_,e⟩,_⟩:=x; exact Heap.lt_size e
theorem Paired.mapP {α β:Type} {F G:α→β→Prop} {l₁:List α} {l₂:List β} (h:Paired F l₁ l₂) (f:∀ a b,F a b→G a b):Paired G l₁ l₂:=by
 induction h with
 | nil=>exact .nil
 | cons r t ih=>exact .cons (f _ _ r) ih
theorem ObjOk.stay (x:ObjOk P w H h a o) (k:∀ b u,(b = a∨H b = some (.own a))→h.get? b = some u→h'.get? b = some u)
  (ho:∀ b,H b = some (.own a)→H' b = some (.own a)) (ht:∀ b xs,H b = some (.tup xs)→H' b = some (.tup xs)):ObjOk P w H' h' a o:=by
 induction o with
 | lst xs=>obtain ⟨z,its,n,r,e⟩:=x; exact ⟨z,its,n,r,k _ _ (.inl rfl) e⟩
 | tup xs=>obtain ⟨z,its,r,ob,e,c⟩:=x; exact ⟨z,its,r,ob,k _ _ (.inl rfl) e,c⟩
 | dK kvs=>obtain ⟨z,y,vs,r,ob,es,ep,e,c⟩:=x; exact ⟨z,y,vs,r,ob,es,ep,k _ _ (.inl rfl) e,c⟩
 | dT kvs =>
  obtain ⟨z,y,xs,r,ob,es,ep,e,c⟩:=x
  exact ⟨z,y,xs,Paired.mapP r fun p q z=>⟨z.1,ht _ _ z.2.1,z.2.2⟩,ob,es,ep,k _ _ (.inl rfl) e,c⟩
 | set S n=>obtain ⟨ob,es,ep,t,e,c⟩:=x; exact ⟨ob,es,ep,t,k _ _ (.inl rfl) e,c⟩
 | ins C dx fs =>
  obtain ⟨d,z,ne,e,mA,⟨od,es,ep,e2,c⟩,r⟩:=x
  exact ⟨ho _ d,z,ne,k _ _ (.inl rfl) e,mA,⟨od,es,ep,k _ _ (.inr d) e2,c⟩,r⟩
 | own y=>obtain ⟨ob,e⟩:=x; exact ⟨ob,k _ _ (.inl rfl) e⟩
 | xd fs=>obtain ⟨mA,⟨od,es,ep,e,c⟩,r⟩:=x; exact ⟨mA,⟨od,es,ep,k _ _ (.inl rfl) e,c⟩,r⟩
 | rng lo hi=>obtain ⟨t,u,v,e⟩:=x; exact ⟨t,u,v,k _ _ (.inl rfl) e⟩
 | frz ob u ih=>obtain ⟨e,q⟩:=x; exact ⟨k _ _ (.inl rfl) e,ih q⟩
 | tbl ps =>
  have e:h.get? a = some { cls:=.none,data:=.fields ps }:=x
  show h'.get? a = some { cls:=.none,data:=.fields ps }
  exact k a _ (.inl rfl) e
 | met f y =>
  have e:h.get? a = some (PySem.W.methodObj (.ref f) (.ref y)):=x
  show h'.get? a = some (PySem.W.methodObj (.ref f) (.ref y))
  exact k a _ (.inl rfl) e
 | ext φ=>obtain ⟨p,⟨o,e⟩,st⟩:=x; exact ⟨st _ _ p fun o q=>k _ _ (.inl rfl) q,⟨o,k _ _ (.inl rfl) e⟩,st⟩
theorem HOk.lt (x:HOk P w H h) (e:H a = some o):a < h.objs.size:=(x a o e).lt
theorem HOk.fresh (x:HOk P w H h) (e:h.objs.size ≤ a):H a = none:=by
 cases q:H a with
 | none=>rfl
 | some u=>exact absurd (Nat.lt_of_lt_of_le (x.lt q) e) (Nat.lt_irrefl _)
theorem HOk.kept (x:HOk P w H h) (k:∀ b u,h.get? b = some u→h'.get? b = some u):HOk P w H h':=fun a o e =>
 (x a o e).stay (fun b u _ q=>k b u q) (fun _ q=>q) fun _ _ q=>q
theorem HOk.laid (x:HOk P w H h) (k:∀ b u,h.get? b = some u→h'.get? b = some u) (hp:h.objs.size ≤ a) (new:ObjOk P w (upd H a o) h' a o):HOk P w (upd H a o) h':=fun b u e=>by
 have hn:=x.fresh hp
 by_cases hb:b = a
 ·subst hb; rw [Zm] at e; cases e; exact new
 ·rw [Zj hb] at e
  exact (x b u e).stay (fun c v _ q=>k c v q) (fun c q=>by rw [Zj (Z7 q hn)]; exact q) fun c xs q=>by rw [Zj (Z7 q hn)]; exact q
end
noncomputable def Rd (H:Hp) (a:Addr) (u:HO):Prop:=H a = some u∨∃ o,H a = some (.frz o u)
theorem Rd.ok {P:Program} {w:World} {H:Hp} {h:Heap} {a:Addr} {u:HO} (r:Rd H a u) (x:HOk P w H h):ObjOk P w H h a u:=by
 rcases r with r | ⟨o,r⟩
 ·exact x a u r
 ·obtain ⟨_,q⟩:=x a _ r
  exact q
noncomputable def Mut:Option HO→Prop
 | some (.lst _)=>True
 | some (.dK _)=>True
 | some (.dT _)=>True
 | some (.set _ _)=>True
 | some (.ins _ _ _)=>True
 | some (.ext _)=>True
 | _=>False
section
variable {P:Program} {w:World} {H:Hp} {h h':Heap} {x e:Addr} {o':HO}
theorem HOk.write (ok:HOk P w H h) (mu:Mut (H x)) (he:e = x∨H e = some (.own x)) (k:∀ b u,b ≠ e→h.get? b = some u→h'.get? b = some u) (heo:∃ u,h'.get? e = some u)
  (new:ObjOk P w (upd H x o') h' x o'):HOk P w (upd H x o') h':=fun b u q=>by
 have nown:∀ c y,H c = some (.own y)→c ≠ x:=fun c y r z=>by subst z; rw [r] at mu; exact mu
 have ntup:∀ c xs,H c = some (.tup xs)→c ≠ x:=fun c xs r z=>by subst z; rw [r] at mu; exact mu
 by_cases hb:b = x
 ·subst hb; rw [Zm] at q; cases q; exact new
 ·rw [Zj hb] at q
  by_cases hbe:b = e
  ·have q':H b = some (.own x):=by
    rcases he with z | z
    ·exact absurd (hbe.trans z) hb
    ·rw [hbe]; exact z
   rw [q] at q'; cases q'
   obtain ⟨v,hv⟩:=heo
   exact ⟨v,by rw [hbe]; exact hv⟩
  ·refine (ok b u q).stay (fun c v hc r=>k c v ?_ r) (fun c r=>by rw [Zj (nown c b r)]; exact r) fun c xs r=>by rw [Zj (ntup c xs r)]; exact r
   rcases hc with rfl | hc
   ·exact hbe
   ·rintro rfl
    rcases he with z | z
    ·exact nown c b hc z
    ·rw [hc] at z; cases z; exact hb rfl
end
structure Un (fs ex:List Addr) (H H':Hp) (h h':Heap):Prop where
 keep:∀ b o,h.get? b = some o→H b = none→b ∉ fs→b ∉ ex→h'.get? b = some o
 slot:∀ b o,h.get? b = some o→H b = none→b ∈ fs→b ∉ ex→∃ sl,h'.get? b = some { o with slots:=sl }
 free:∀ b o,h.get? b = some o→H b = none→b ∉ ex→H' b = none
 there:∀ b o,h.get? b = some o→b ∉ ex→∃ o',h'.get? b = some o'
 tups:∀ b xs,H b = some (.tup xs)→H' b = some (.tup xs)
 frzs:∀ b o u,H b = some (.frz o u)→H' b = some (.frz o u)
 tbls:∀ b ps,H b = some (.tbl ps)→∃ more,H' b = some (.tbl (ps ++ more))
section
variable {fs fs' ex ex':List Addr} {H H1 H2:Hp} {h h1 h2 h':Heap} {a x e:Addr} {o:HO}
theorem Un.any (u:Un fs ex H H1 h h1) {b:Addr} {ob:Obj} (q:h.get? b = some ob) (n:H b = none) (hx:b ∉ ex):∃ sl,h1.get? b = some { ob with slots:=sl }:=by
 by_cases hb:b ∈ fs
 ·exact u.slot b ob q n hb hx
 ·exact ⟨ob.slots,u.keep b ob q n hb hx⟩
theorem Un.kept (k:∀ b u,h.get? b = some u→h'.get? b = some u):Un fs ex H H h h' :=
 ⟨fun b ob q _ _ _=>k b ob q,fun b ob q _ _ _=>⟨ob.slots,k b ob q⟩,fun _ _ _ n _=>n,fun b ob q _=>⟨ob,k b ob q⟩,fun _ _ q=>q,fun _ _ _ q=>q,fun _ ps q=>⟨#[],by rw [q]; simp⟩⟩
theorem Un.refl:Un fs ex H H h h:=Un.kept fun _ _ q=>q
theorem Un.laid (k:∀ b u,h.get? b = some u→h'.get? b = some u) (hp:h.objs.size ≤ a) (hn:H a = none):Un fs ex H (upd H a o) h h' where
 keep:=fun b u q _ _ _=>k b u q
 slot:=fun b u q _ _ _=>⟨u.slots,k b u q⟩
 free:=fun b u q n _=>by rw [Zj (Nat.ne_of_lt (Nat.lt_of_lt_of_le (Heap.lt_size q) hp))]; exact n
 there:=fun b u q _=>⟨u,k b u q⟩
 tups:=fun b xs q=>by rw [Zj (Z7 q hn)]; exact q
 frzs:=fun b u xs q=>by rw [Zj (Z7 q hn)]; exact q
 tbls:=fun b ps q=>⟨#[],by rw [Zj (Z7 q hn),q]; simp⟩
theorem Un.write (mu:Mut (H x)) (he:e = x∨H e = some (.own x)) (k:∀ b u,b ≠ e→h.get? b = some u→h'.get? b = some u) (heo:∃ u,h'.get? e = some u):Un fs ex H (upd H x o) h h':=by
 have hx:∀ b,H b = none→b ≠ x:=fun b n z=>by subst z; rw [n] at mu; exact mu
 have hb:∀ b,H b = none→b ≠ e:=fun b n z=>by
  subst z
  rcases he with r | r
  ·exact hx b n r
  ·rw [n] at r; cases r
 have hm:∀ b u,H b = some u→¬ Mut (some u)→b ≠ x:=fun b u q nm z=>by subst z; rw [q] at mu; exact nm mu
 refine ⟨fun b u q n _ _=>k b u (hb b n) q,fun b u q n _ _=>⟨u.slots,k b u (hb b n) q⟩,fun b u q n _=>by rw [Zj (hx b n)]; exact n,fun b u q _=>?_,
  fun b xs q=>by rw [Zj (hm b _ q fun z=>z)]; exact q,fun b u xs q=>by rw [Zj (hm b _ q fun z=>z)]; exact q,fun b ps q=>⟨#[],by rw [Zj (hm b _ q fun z=>z),q]; simp⟩⟩
 by_cases hbe:b = e
 ·subst hbe; exact heo
 ·exact ⟨u,k b u hbe q⟩
end
noncomputable def trk (h:Heap) (H:Hp):List Addr:=(List.range h.objs.size).filter fun a=>(H a).isSome
noncomputable def Zqh (h:Heap) (H:Hp):Heap:=PySem.W.hideAll h (trk h H)
theorem Zm6 (h:Heap) (H:Hp):(Zqh h H).objs.size = h.objs.size:=PySem.W.hideAll_size _ _
theorem Zrh {h:Heap} {H:Hp} {b:Addr} {o:Obj} (e:h.get? b = some o) (n:H b = none):(Zqh h H).get? b = some o :=
 PySem.W.hideAll_get _ e fun hm=>by
  have q:(H b).isSome = true:=(List.mem_filter.mp hm).2
  rw [n] at q; simp at q
theorem Zuf {h:Heap} {H:Hp} {b:Addr} {o:Obj} (e:(Zqh h H).get? b = some o):h.get? b = some o∧H b = none:=by
 have e':h.get? b = some o:=PySem.W.of_hideAll (trk h H) e
 refine ⟨e',?_⟩
 cases q:H b with
 | none=>rfl
 | some x =>
  have hm:b ∈ trk h H:=List.mem_filter.mpr ⟨List.mem_range.mpr (Heap.lt_size e'),by simp [q]⟩
  have z:(Zqh h H).get? b = none:=PySem.W.hideAll_none (trk h H) hm
  rw [z] at e; cases e
noncomputable def Zvd (g h:Heap) (L:Addr):List (Addr × Obj):=(List.range h.objs.size).filterMap fun a=>if a = L∨(g.get? a).isSome = true then none else (h.get? a).map fun o=>(a,o)
noncomputable def rest (g h:Heap) (L d:Addr):List (Addr × Obj):=(Zvd g h L).filter fun p=>decide (p.1 ≠ d)
end L2
namespace L2
open PySem PySem.Spec PyProof.Rows
structure Mod (K:PySem.W.Frag) (mg:Str→Option Value) (base:Heap):Prop where
 kin:K.In base
 glob:base.Ns mainGlobals mg
 blt:∃ mb,base.Ns builtinsNs mb∧∀ x:Str,x ≠ "__name__" → mb x = bootBuiltins x
 nolimit:base.NoLimit
set_option genInjectivity false in
structure Cx where
 prog:Program
 w:World
 K:PySem.W.Frag
 mg:Str→Option Value
 base:Heap
 A:Around
 N:List Str
 s₀:Shared
 H₀:Hp
 env:Env
 outer:List Env
 stack:List Env
 ex:List Addr
 fn:Str→Bool
 calm:Bool
 pn:List (Addr × Obj)
 xe:Value→Shared→Prop
noncomputable def frs (l:List Env):List Addr:=l.filterMap (·.frame)
noncomputable abbrev Cx.fs (X:Cx):List Addr:=frs X.outer
noncomputable def Vis (sc:Scope) (x:Str):Prop:=sc.names.lookup x = some .local∨sc.names.lookup x = some .cell∨sc.names.lookup x = some .free
noncomputable def Loc (sc:Scope) (x:Str):Prop:=sc.names.lookup x = some .local∨sc.names.lookup x = some .cell
noncomputable def Look (env:Env) (h:Heap) (m:Str→Option Value) (x:Str) (u:Value):Prop :=
 (env.kindOf x = some .local∧m x = some u)∨((env.kindOf x = some .cell∨env.kindOf x = some .free)∧∃ c,env.cells.lookup x = some c∧h.IsCell c (some u))
structure Cx.Ok (X:Cx):Prop where
 mod:Mod X.K X.mg X.base
 kind:X.env.scope.kind = .function
 glob:X.env.globals = mainGlobals
 blt:X.env.builtins = builtinsNs
 above:X.s₀.heap.objs.size ≤ X.env.locals
 inj:∀ x y c,X.env.cells.lookup x = some c→X.env.cells.lookup y = some c→x = y
 has:∀ x,(X.env.kindOf x = some .cell∨X.env.kindOf x = some .free)→∃ c,X.env.cells.lookup x = some c
 cab:∀ x c,X.fn x = true→X.env.cells.lookup x = some c→X.s₀.heap.objs.size ≤ c
 hd:X.calm = true→X.A.handled = none
 frames:X.A.frames = some X.stack
 stk:X.stack = X.outer∨(X.stack = X.env :: X.outer∧X.env.frame = some X.env.locals)
 exf:∀ b ∈ X.ex,b ≠ X.env.locals∧∀ x c,X.env.cells.lookup x = some c→c ≠ b
 bs:∀ b o,X.base.get? b = some o→X.s₀.heap.get? b = some o∧X.H₀ b = none
 bsz:X.base.objs.size ≤ X.s₀.heap.objs.size
 noex:∀ b o,X.base.get? b = some o→b ∉ X.ex
 exfs:∀ b ∈ X.ex,b ∉ X.fs
 funs:X.s₀.heap.FunFrames X.base X.outer
 frf:∀ b ∈ X.fs,X.H₀ b = none
structure Inv (X:Cx) (pins:List (Addr × Obj)) (σ:List (Option V)) (H:Hp) (s:Shared):Prop where
 ok:X.Ok
 os:s.os = X.s₀.os
 bare:AllBare s.gens
 base:Un X.fs X.ex X.H₀ H X.s₀.heap s.heap
 loc:∃ m,s.heap.Ns X.env.locals m∧∀ (i:Nat) (x:Str) (v:V),X.N[i]? = some x→σ[i]? = some (some v)→Vis X.env.scope x→∃ u,RelV v u∧Look X.env s.heap m x u
 cell:∀ x c,X.env.cells.lookup x = some c→∃ v,s.heap.IsCell c v
 free:H X.env.locals = none
 freeC:∀ x c,X.env.cells.lookup x = some c→H c = none
 pin:∀ p ∈ X.pn ++ pins,s.heap.get? p.1 = some p.2∧H p.1 = none∧p.1 ≠ X.env.locals∧p.1 ∉ X.fs∧∀ v,p.2.data ≠ .cell v
 hok:HOk X.prog X.w H s.heap
 len:σ.length = X.N.length
section
variable {X:Cx} {pins:List (Addr × Obj)} {σ:List (Option V)} {H H':Hp} {s:Shared} {h':Heap}
theorem Cx.Ok.nofr (ok:X.Ok) {b:Addr} {o:Obj} (e:X.base.get? b = some o):b ∉ X.fs:=fun hb=>by
 have:=(ok.funs.mem hb).1
 rw [e] at this; cases this
theorem Inv.bs (I:Inv X pins σ H s):∀ b o,X.base.get? b = some o→s.heap.get? b = some o∧H b = none:=fun b o e =>
 ⟨I.base.keep b o (I.ok.bs b o e).1 (I.ok.bs b o e).2 (I.ok.nofr e) (I.ok.noex b o e),I.base.free b o (I.ok.bs b o e).1 (I.ok.bs b o e).2 (I.ok.noex b o e)⟩
theorem Inv.bk (I:Inv X pins σ H s):∀ b o,X.base.get? b = some o→s.heap.get? b = some o:=fun b o e=>(I.bs b o e).1
theorem Inv.mod (I:Inv X pins σ H s):Mod X.K X.mg X.base:=I.ok.mod
theorem Inv.kIn (I:Inv X pins σ H s):X.K.In s.heap:=I.ok.mod.kin.keeps I.bk
theorem Inv.lt (I:Inv X pins σ H s):X.env.locals < s.heap.objs.size:=let ⟨_,hn,_⟩:=I.loc; hn.lt
theorem Inv.sz (I:Inv X pins σ H s):X.s₀.heap.objs.size ≤ s.heap.objs.size:=Nat.le_trans I.ok.above (Nat.le_of_lt I.lt)
theorem Inv.nofs (I:Inv X pins σ H s) {a:Addr} (h:s.heap.objs.size ≤ a):a ∉ X.fs:=fun hb=>by
 obtain ⟨_,o,ho,_⟩:=I.ok.funs.mem hb
 exact absurd (Nat.lt_of_lt_of_le (Heap.lt_size ho) (Nat.le_trans I.sz h)) (Nat.lt_irrefl _)
theorem Inv.cne (I:Inv X pins σ H s):∀ x c,X.env.cells.lookup x = some c→c ≠ X.env.locals:=fun x c e z=>by
 obtain ⟨v,o,ho,hd⟩:=I.cell x c e
 obtain ⟨m,⟨o',es,ep,ho',hd',_⟩,_⟩:=I.loc
 rw [z,ho'] at ho; cases ho; rw [hd'] at hd; cases hd
theorem Inv.funs (I:Inv X pins σ H s):s.heap.FunFrames X.base X.outer:=by
 have all:∀ (l:List Env),(∀ b ∈ frs l,b ∈ X.fs)→X.s₀.heap.FunFrames X.base l→s.heap.FunFrames X.base l:=by
  intro l
  induction l with
  | nil=>intro _ _; trivial
  | cons env r ih =>
   intro hs hl
   obtain ⟨hk,⟨L,o,hf,hn,ho,hd⟩,hr⟩:=hl
   have hL:L ∈ X.fs:=hs L (by unfold frs; rw [List.filterMap_cons,hf]; exact List.mem_cons_self)
   obtain ⟨sl,e⟩:=I.base.slot L o ho (I.ok.frf L hL) hL fun z=>I.ok.exfs L z hL
   exact ⟨hk,⟨L,_,hf,hn,e,hd⟩,ih (fun b hb=>hs b (by unfold frs; rw [List.filterMap_cons,hf]; exact List.mem_cons_of_mem _ hb)) hr⟩
 exact all X.outer (fun _ hb=>hb) I.ok.funs
theorem Inv.stack (I:Inv X pins σ H s):s.heap.FunFrames X.base X.stack:=by
 rcases I.ok.stk with e | ⟨e,hf⟩
 ·rw [e]; exact I.funs
 ·rw [e]
  obtain ⟨m,hn,_⟩:=I.loc
  refine .cons (by rw [I.ok.kind]; decide) hf hn ?_ I.funs
  exact Heap.get?_none_of_le (Nat.le_trans I.ok.bsz I.ok.above)
theorem Inv.stkSub (I:Inv X pins σ H s):∀ b ∈ frs X.stack,b ∈ X.env.locals :: X.fs:=fun b hb=>by
 rcases I.ok.stk with e | ⟨e,hf⟩
 ·rw [e] at hb; exact List.mem_cons_of_mem _ hb
 ·rw [e] at hb
  unfold frs at hb
  rw [List.filterMap_cons,hf] at hb
  exact hb
theorem Inv.stkFree (I:Inv X pins σ H s):∀ b ∈ frs X.stack,H b = none:=fun b hb=>by
 rcases List.mem_cons.mp (I.stkSub b hb) with e | hb
 ·rw [e]; exact I.free
 ·obtain ⟨_,o,ho,_⟩:=I.ok.funs.mem hb
  exact I.base.free b o ho (I.ok.frf b hb) fun z=>I.ok.exfs b z hb
theorem Inv.step {g':Array GenState} {t':Nat} {d':Drawn} {ch:List Addr} (I:Inv X pins σ H s)
  (hch:∀ b ∈ ch,(b ∈ X.ex∨X.s₀.heap.objs.size ≤ b)∧b ≠ X.env.locals∧(∀ x c,X.env.cells.lookup x = some c→c ≠ b)∧∀ p ∈ X.pn ++ pins,p.1 ≠ b)
  (keep:∀ b o,b ≠ X.env.locals→b ∉ X.fs→b ∉ ch→s.heap.get? b = some o→H b = none→h'.get? b = some o)
  (slot:∀ b o,b ≠ X.env.locals→b ∈ X.fs→b ∉ ch→s.heap.get? b = some o→H b = none→∃ sl,h'.get? b = some { o with slots:=sl }) (free:∀ b o,b ∉ ch→s.heap.get? b = some o→H b = none→H' b = none)
  (there:∀ b o,b ∉ ch→s.heap.get? b = some o→∃ o',h'.get? b = some o')
  (tups:∀ b xs,H b = some (.tup xs)→H' b = some (.tup xs)) (frzs:∀ b o u,H b = some (.frz o u)→H' b = some (.frz o u)) (tbls:∀ b ps,H b = some (.tbl ps)→∃ more,H' b = some (.tbl (ps ++ more)))
  (ns:∀ m,s.heap.Ns X.env.locals m→h'.Ns X.env.locals m) (hok:HOk X.prog X.w H' h') (hg:AllBare g') :
  Inv X pins σ H' { s with heap:=h',gens:=g',drawn:=d',toks:=t' }:=by
 have neL:∀ b o,X.s₀.heap.get? b = some o→b ≠ X.env.locals:=fun b o e=>Nat.ne_of_lt (Nat.lt_of_lt_of_le (Heap.lt_size e) I.ok.above)
 have neC:∀ b o,X.s₀.heap.get? b = some o→b ∉ X.ex→b ∉ ch:=fun b o e hx hb=>by
  rcases (hch b hb).1 with z | z
  ·exact hx z
  ·exact absurd (Nat.lt_of_lt_of_le (Heap.lt_size e) z) (Nat.lt_irrefl _)
 have cellK:∀ x c,X.env.cells.lookup x = some c→∀ v,s.heap.IsCell c v→h'.IsCell c v:=fun x c e v ⟨o,ho,hd⟩=>by
  have nch:c ∉ ch:=fun z=>(hch c z).2.2.1 x c e rfl
  by_cases hc:c ∈ X.fs
  ·obtain ⟨sl,q⟩:=slot c o (I.cne x c e) hc nch ho (I.freeC x c e)
   exact ⟨_,q,hd⟩
  ·exact ⟨o,keep c o (I.cne x c e) hc nch ho (I.freeC x c e),hd⟩
 refine ⟨I.ok,I.os,hg,⟨fun b o e n hb hx=>?_,fun b o e n hb hx=>?_,fun b o e n hx=>?_,fun b o e hx=>?_,fun b xs e=>tups b xs (I.base.tups b xs e),fun b o xs e=>frzs b o xs (I.base.frzs b o xs e),fun b ps e=>?_⟩,?_,fun x c e=>?_,?_,fun x c e=>?_,fun p hp=>?_,hok,I.len⟩
 ·exact keep b o (neL b o e) hb (neC b o e hx) (I.base.keep b o e n hb hx) (I.base.free b o e n hx)
 ·obtain ⟨sl,e1⟩:=I.base.slot b o e n hb hx
  obtain ⟨sl',e2⟩:=slot b _ (neL b o e) hb (neC b o e hx) e1 (I.base.free b o e n hx)
  exact ⟨sl',e2⟩
 ·obtain ⟨o',e1⟩:=I.base.there b o e hx
  exact free b o' (neC b o e hx) e1 (I.base.free b o e n hx)
 ·obtain ⟨o',e1⟩:=I.base.there b o e hx
  exact there b o' (neC b o e hx) e1
 ·obtain ⟨m1,e1⟩:=I.base.tbls b ps e
  obtain ⟨m2,e2⟩:=tbls b _ e1
  exact ⟨m1 ++ m2,by rw [e2,Array.append_assoc]⟩
 ·obtain ⟨m,hn,hl⟩:=I.loc
  refine ⟨m,ns m hn,fun i x v e1 e2 e3=>?_⟩
  obtain ⟨u,r,l⟩:=hl i x v e1 e2 e3
  refine ⟨u,r,?_⟩
  rcases l with l | ⟨k,c,e,z⟩
  ·exact .inl l
  ·exact .inr ⟨k,c,e,cellK x c e _ z⟩
 ·obtain ⟨v,z⟩:=I.cell x c e
  exact ⟨v,cellK x c e v z⟩
 ·obtain ⟨m,⟨o,_,_,ho,_⟩,_⟩:=I.loc
  exact free _ o (fun z=>(hch _ z).2.1 rfl) ho I.free
 ·obtain ⟨v,o,ho,hd⟩:=I.cell x c e
  exact free c o (fun z=>(hch c z).2.2.1 x c e rfl) ho (I.freeC x c e)
 ·obtain ⟨e,n,ne,nf,d⟩:=I.pin p hp
  have nch:p.1 ∉ ch:=fun z=>(hch p.1 z).2.2.2 p hp rfl
  exact ⟨keep p.1 p.2 ne nf nch e n,free p.1 p.2 nch e n,ne,nf,d⟩
theorem Inv.un {t':Nat} (I:Inv X pins σ H s) (u:Un X.fs [] H H' s.heap h') (hok:HOk X.prog X.w H' h'):Inv X pins σ H' { s with heap:=h',toks:=t' }:=by
 obtain ⟨m,⟨o,es,ep,ho,r⟩,_⟩:=id I.loc
 obtain ⟨sl,hL⟩:=u.any ho I.free (by simp)
 exact I.step (g':=s.gens) (d':=s.drawn) (ch:=[]) (fun _ z=>nomatch z) (fun b o _ hb _ e n=>u.keep b o e n hb (by simp)) (fun b o _ hb _ e n=>u.slot b o e n hb (by simp)) (fun b o _ e n=>u.free b o e n (by simp)) (fun b o _ e=>u.there b o e (by simp)) u.tups u.frzs u.tbls (fun m' hm=>by
  obtain ⟨o',es',ep',ho',r'⟩:=hm
  rw [ho] at ho'; cases ho'
  exact ⟨_,es',ep',hL,r'⟩) hok I.bare
theorem Inv.call {g':Array GenState} {t':Nat} {d':Drawn} {ch:List Addr} (I:Inv X pins σ H s) (u:Un (frs X.stack) ch H H' s.heap h') (hok:HOk X.prog X.w H' h') (hg:AllBare g')
  (hch:∀ b ∈ ch,(b ∈ X.ex∨X.s₀.heap.objs.size ≤ b)∧b ≠ X.env.locals∧(∀ x c,X.env.cells.lookup x = some c→c ≠ b)∧∀ p ∈ X.pn ++ pins,p.1 ≠ b) :
  Inv X pins σ H' { s with heap:=h',gens:=g',drawn:=d',toks:=t' }:=by
 obtain ⟨m,⟨o,es,ep,ho,r⟩,_⟩:=id I.loc
 obtain ⟨sl,hL⟩:=u.any ho I.free fun z=>(hch _ z).2.1 rfl
 exact I.step (ch:=ch) hch (fun b o hL hb hc e n=>u.keep b o e n (fun z=>(List.mem_cons.mp (I.stkSub b z)).elim hL hb) hc) (fun b o _ _ hc e n=>u.any e n hc) (fun b o hc e n=>u.free b o e n hc) (fun b o hc e=>u.there b o e hc) u.tups u.frzs u.tbls (fun m' hm=>by
  obtain ⟨o',es',ep',ho',r'⟩:=hm
  rw [ho] at ho'; cases ho'
  exact ⟨_,es',ep',hL,r'⟩) hok hg
theorem Inv.turned {t':Nat} {it:Addr} (I:Inv X pins σ H s) (k:∀ b o,b ≠ it→s.heap.get? b = some o→h'.get? b = some o) (hn:H it = none) (hL:it ≠ X.env.locals)
  (h1:it ∈ X.ex∨X.s₀.heap.objs.size ≤ it) (h2:∀ x c,X.env.cells.lookup x = some c→c ≠ it) (h3:∀ p ∈ X.pn ++ pins,p.1 ≠ it):Inv X pins σ H { s with heap:=h',toks:=t' }:=by
 have nit:∀ b u,H b = some u→b ≠ it:=fun b u e z=>by rw [z,hn] at e; cases e
 refine I.step (g':=s.gens) (d':=s.drawn) (ch:=[it]) (fun b hb=>?_) (fun b o _ _ hc e _=>k b o (fun z=>hc (by simp [z])) e) (fun b o _ _ hc e _=>⟨o.slots,k b o (fun z=>hc (by simp [z])) e⟩) (fun _ _ _ _ n=>n)
  (fun b o hc e=>⟨o,k b o (fun z=>hc (by simp [z])) e⟩) (fun _ _ e=>e) (fun _ _ _ e=>e) (fun b ps e=>⟨#[],by rw [e]; simp⟩) (fun m hm=>?_) (fun b u e=>?_) I.bare
 ·have e:b = it:=by simpa using hb
  subst e
  exact ⟨h1,hL,h2,h3⟩
 ·obtain ⟨o,es,ep,ho,r⟩:=hm
  exact ⟨o,es,ep,k _ o (Ne.symm hL) ho,r⟩
 ·refine (I.hok b u e).stay (fun c v hc q=>k c v ?_ q) (fun _ q=>q) fun _ _ q=>q
  rcases hc with z | z
  ·rw [z]; exact nit b u e
  ·exact nit c _ z
theorem Inv.tok (I:Inv X pins σ H s) (t:Nat):Inv X pins σ H { s with toks:=t }:=I.un (h':=s.heap) (t':=t) Un.refl I.hok
theorem Inv.kept {t':Nat} (I:Inv X pins σ H s) (k:∀ b u,s.heap.get? b = some u→h'.get? b = some u):Inv X pins σ H { s with heap:=h',toks:=t' }:=I.un (Un.kept k) (I.hok.kept k)
theorem Inv.laid {a:Addr} {o:HO} {t':Nat} (I:Inv X pins σ H s) (k:∀ b u,s.heap.get? b = some u→h'.get? b = some u) (hp:s.heap.objs.size ≤ a) (new:ObjOk X.prog X.w (upd H a o) h' a o) :
  Inv X pins σ (upd H a o) { s with heap:=h',toks:=t' }:=I.un (Un.laid k hp (I.hok.fresh hp)) (I.hok.laid k hp new)
theorem Inv.write {x e:Addr} {o:HO} {t':Nat} (I:Inv X pins σ H s) (mu:Mut (H x)) (he:e = x∨H e = some (.own x)) (k:∀ b u,b ≠ e→s.heap.get? b = some u→h'.get? b = some u) (heo:∃ u,h'.get? e = some u)
  (new:ObjOk X.prog X.w (upd H x o) h' x o):Inv X pins σ (upd H x o) { s with heap:=h',toks:=t' }:=I.un (Un.write mu he k heo) (I.hok.write mu he k heo new)
theorem Inv.pins_of {pins':List (Addr × Obj)} (I:Inv X pins σ H s) (h:∀ p ∈ pins',s.heap.get? p.1 = some p.2∧H p.1 = none∧p.1 ≠ X.env.locals∧p.1 ∉ X.fs∧∀ v,p.2.data ≠ .cell v):Inv X pins' σ H s :=
 ⟨I.ok,I.os,I.bare,I.base,I.loc,I.cell,I.free,I.freeC,fun p hp=>(List.mem_append.mp hp).elim (fun z=>I.pin p (List.mem_append_left _ z)) (h p),I.hok,I.len⟩
theorem Zgg {N:List Str} (hN:N.Nodup) {i j:Nat} {x:Str} (a:N[i]? = some x) (b:N[j]? = some x):i = j:=by
 obtain ⟨h1,e1⟩:=List.getElem?_eq_some_iff.mp a
 obtain ⟨h2,e2⟩:=List.getElem?_eq_some_iff.mp b
 exact (List.getElem_inj hN).mp (e1.trans e2.symm)
theorem Zht {M:Model} {A:Around} {E:Value→Shared→Prop} {i:Nat} {x:Str} {v:V} {u:Value} {Q:Unit→Shared→Prop} (I:Inv X pins σ H s) (hN:X.N.Nodup) (hi:X.N[i]? = some x) (hx:Loc X.env.scope x) (r:RelV v u)
  (h:∀ s',Inv X pins (σ.set i (some v)) H s'→(∃ a,Heap.SameBut a s.heap s'.heap∧(a = X.env.locals∨X.env.cells.lookup x = some a))→Q () s') (hf:X.fn x = true∨X.env.scope.names.lookup x = some .local:=by first | exact .inl rfl | exact .inr rfl | assumption):wpAny M A (storeName X.env x u) Q E s:=by
 obtain ⟨m,hn,hl⟩:=id I.loc
 have hcls:(X.env.scope.kind == .class || (X.env.scope.kind == .module && X.env.locals != X.env.globals)) = false:=by rw [I.ok.kind]; rfl
 have hiσ:i < σ.length:=by rw [I.len]; exact (List.getElem?_eq_some_iff.mp hi).1
 have cne:=I.cne
 have tracked:∀ {a:Addr} {h':Heap},(∃ o,s.heap.get? a = some o∧H a = none)→Heap.SameBut a s.heap h'→HOk X.prog X.w H h':=fun {a h'} ha hs b ob e=>by
  obtain ⟨_,_,hfree⟩:=ha
  refine (I.hok b ob e).stay (fun c w' hc q=>(hs.2 c ?_).trans q) (fun _ q=>q) fun _ _ q=>q
  rintro rfl
  rcases hc with rfl | hc
  ·rw [hfree] at e; cases e
  ·rw [hfree] at hc; cases hc
 rcases hx with hk | hk
 ·refine wpAny_storeName_local hk hn (fun h' hn' hs=>?_) hcls
  obtain ⟨oL,_,_,hoL,_⟩:=id hn
  refine h _ ⟨I.ok,I.os,I.bare,⟨fun b o e n hb hx=>?_,fun b o e n hb hx=>?_,I.base.free,fun b o e hx=>?_,I.base.tups,I.base.frzs,I.base.tbls⟩,⟨_,hn',fun j y v' e1 e2 e3=>?_⟩,fun y c e=>?_,I.free,I.freeC,fun p hp=>?_,tracked ⟨oL,hoL,I.free⟩ hs,by simpa using I.len⟩ ⟨_,hs,.inl rfl⟩
  ·exact (hs.2 b (Nat.ne_of_lt (Nat.lt_of_lt_of_le (Heap.lt_size e) I.ok.above))).trans (I.base.keep b o e n hb hx)
  ·obtain ⟨sl,e1⟩:=I.base.slot b o e n hb hx
   exact ⟨sl,(hs.2 b (Nat.ne_of_lt (Nat.lt_of_lt_of_le (Heap.lt_size e) I.ok.above))).trans e1⟩
  ·obtain ⟨o',e1⟩:=I.base.there b o e hx
   exact ⟨o',(hs.2 b (Nat.ne_of_lt (Nat.lt_of_lt_of_le (Heap.lt_size e) I.ok.above))).trans e1⟩
  ·by_cases hj:j = i
   ·subst hj
    rw [hi] at e1; cases e1
    rw [List.getElem?_set_self hiσ] at e2
    cases e2
    exact ⟨u,r,.inl ⟨hk,by simp⟩⟩
   ·rw [List.getElem?_set_ne (Ne.symm hj)] at e2
    obtain ⟨u',r',q⟩:=hl j y v' e1 e2 e3
    refine ⟨u',r',?_⟩
    rcases q with ⟨k,e⟩ | ⟨k,c,e,z⟩
    ·refine .inl ⟨k,?_⟩
     have:y ≠ x:=fun e=>hj (Zgg hN e1 (e ▸ hi))
     simp [this,e]
    ·exact .inr ⟨k,c,e,z.sameBut hs (cne y c e)⟩
  ·obtain ⟨w',z⟩:=I.cell y c e
   exact ⟨w',z.sameBut hs (cne y c e)⟩
  ·obtain ⟨e,n,ne,nf,d⟩:=I.pin p hp
   exact ⟨(hs.2 p.1 ne).trans e,n,ne,nf,d⟩
 ·have hfn:X.fn x = true:=by
   rcases hf with z | z
   ·exact z
   ·rw [z] at hk; cases hk
  obtain ⟨c,hc⟩:=I.ok.has x (.inl hk)
  obtain ⟨w',z⟩:=I.cell x c hc
  refine wpAny_storeName_cell I.ok.kind hk hc z (fun h' hc' hs=>?_)
  obtain ⟨oc,hoc,hocd⟩:=id z
  refine h { s with heap:=h' } ⟨I.ok,I.os,I.bare,⟨fun b o e n hb hx=>?_,fun b o e n hb hx=>?_,I.base.free,fun b o e hx=>?_,I.base.tups,I.base.frzs,I.base.tbls⟩,⟨m,hn.sameBut hs (Ne.symm (cne x c hc)),fun j y v' e1 e2 e3=>?_⟩,fun y c' e=>?_,I.free,I.freeC,fun p hp=>?_,tracked ⟨oc,hoc,I.freeC x c hc⟩ hs,by simpa using I.len⟩ ⟨c,hs,.inr hc⟩
  ·exact (hs.2 b (Nat.ne_of_lt (Nat.lt_of_lt_of_le (Heap.lt_size e) (I.ok.cab x c hfn hc)))).trans (I.base.keep b o e n hb hx)
  ·obtain ⟨sl,e1⟩:=I.base.slot b o e n hb hx
   exact ⟨sl,(hs.2 b (Nat.ne_of_lt (Nat.lt_of_lt_of_le (Heap.lt_size e) (I.ok.cab x c hfn hc)))).trans e1⟩
  ·obtain ⟨o',e1⟩:=I.base.there b o e hx
   exact ⟨o',(hs.2 b (Nat.ne_of_lt (Nat.lt_of_lt_of_le (Heap.lt_size e) (I.ok.cab x c hfn hc)))).trans e1⟩
  ·by_cases hj:j = i
   ·subst hj
    rw [hi] at e1; cases e1
    rw [List.getElem?_set_self hiσ] at e2
    cases e2
    exact ⟨u,r,.inr ⟨.inl hk,c,hc,hc'⟩⟩
   ·rw [List.getElem?_set_ne (Ne.symm hj)] at e2
    obtain ⟨u',r',q⟩:=hl j y v' e1 e2 e3
    refine ⟨u',r',?_⟩
    rcases q with q | ⟨k,c',e,z'⟩
    ·exact .inl q
    ·refine .inr ⟨k,c',e,z'.sameBut hs ?_⟩
     rintro rfl
     exact hj (Zgg hN e1 (I.ok.inj _ _ _ e hc ▸ hi))
  ·by_cases hcc:c' = c
   ·subst hcc; exact ⟨_,hc'⟩
   ·obtain ⟨w2,z2⟩:=I.cell y c' e
    exact ⟨w2,z2.sameBut hs hcc⟩
  ·obtain ⟨e,n,ne,nf,d⟩:=I.pin p hp
   refine ⟨(hs.2 p.1 ?_).trans e,n,ne,nf,d⟩
   intro q
   rw [q,hoc] at e
   have q':oc = p.2:=Option.some.inj e
   exact d w' (by rw [← q']; exact hocd)
theorem Zgr {M:Model} {A:Around} {E:Value→Shared→Prop} {i:Nat} {x:Str} {v:V} {u:Value} {Q:Unit→Shared→Prop} (I:Inv X pins σ H s) (hN:X.N.Nodup) (hi:X.N[i]? = some x) (hx:Loc X.env.scope x) (r:RelV v u)
  (h:∀ s',Inv X pins (σ.set i (some v)) H s'→Q () s') (hf:X.fn x = true∨X.env.scope.names.lookup x = some .local:=by first | exact .inl rfl | exact .inr rfl | assumption):wpAny M A (storeName X.env x u) Q E s :=
 Zht I hN hi hx r (fun s' I' _=>h s' I') hf
theorem Inv.call' {s':Shared} {ch:List Addr} (I:Inv X pins σ H s) (ho:s'.os = s.os) (u:Un (frs X.stack) ch H H' s.heap s'.heap) (hok:HOk X.prog X.w H' s'.heap) (hg:AllBare s'.gens)
  (hch:∀ b ∈ ch,(b ∈ X.ex∨X.s₀.heap.objs.size ≤ b)∧b ≠ X.env.locals∧(∀ x c,X.env.cells.lookup x = some c→c ≠ b)∧∀ p ∈ X.pn ++ pins,p.1 ≠ b):Inv X pins σ H' s':=by
 obtain ⟨h',g',d',t',o'⟩:=s'
 have e:o' = s.os:=ho
 subst e
 exact I.call (g':=g') (t':=t') (d':=d') u hok hg hch
end
noncomputable abbrev XK:=Value→Option Addr→Hp→Prop
noncomputable abbrev St:=List (Option V)
noncomputable abbrev VK:=V→Hp→Prop
noncomputable abbrev TE:=St→Hp→VK→Prop
noncomputable abbrev TT:=St→Hp→(Bool→Hp→Prop)→Prop
noncomputable abbrev TA:=St→Hp→(List V→Hp→Prop)→Prop
set_option genInjectivity false in
structure Ends where
 nx:St→Hp→Prop
 rt:VK
 bk:St→Hp→Prop:=fun _ _=>False
 ct:St→Hp→Prop:=fun _ _=>False
noncomputable abbrev TS:=Ends→St→Hp→Prop
noncomputable def EP (X:Cx) (pins:List (Addr × Obj)) (σ:St) (Q:VK) (u:Value) (s':Shared):Prop:=∃ v H',Inv X pins σ H' s'∧RelV v u∧Q v H'
noncomputable def TP (X:Cx) (pins:List (Addr × Obj)) (σ:St) (Q:Bool→Hp→Prop) (b:Bool) (s':Shared):Prop:=∃ H',Inv X pins σ H' s'∧Q b H'
noncomputable def AP (X:Cx) (pins:List (Addr × Obj)) (σ:St) (Q:List V→Hp→Prop) (us:List Value) (s':Shared):Prop:=∃ vs H',Inv X pins σ H' s'∧Vals vs us∧Q vs H'
noncomputable def SP (X:Cx) (pins:List (Addr × Obj)) (D:Ends) (f:Flow) (s':Shared):Prop :=
 match f with
 | .next=>∃ σ' H',Inv X pins σ' H' s'∧D.nx σ' H'
 | .brk=>∃ σ' H',Inv X pins σ' H' s'∧D.bk σ' H'
 | .cont=>∃ σ' H',Inv X pins σ' H' s'∧D.ct σ' H'
 | .ret u=>∃ v σ' H',Inv X pins σ' H' s'∧RelV v u∧D.rt v H'
noncomputable def PE (X:Cx) (e:Expr) (t:TE):Prop :=
 ∀ (pins:List (Addr × Obj)) (s:Shared) (σ:St) (H:Hp) (Q:VK),Inv X pins σ H s→t σ H Q→wpAny (model X.prog X.w) X.A (eval e X.env) (EP X pins σ Q) X.xe s
noncomputable def PT (X:Cx) (e:Expr) (t:TT):Prop :=
 ∀ (pins:List (Addr × Obj)) (s:Shared) (σ:St) (H:Hp) (Q:Bool→Hp→Prop),Inv X pins σ H s→t σ H Q→wpAny (model X.prog X.w) X.A (isTrue e X.env (eval e X.env)) (TP X pins σ Q) X.xe s
noncomputable def PW (X:Cx) (e:Expr) (t:TT):Prop :=
 ∀ (whole:Sem Value) (pins:List (Addr × Obj)) (s:Shared) (σ:St) (H:Hp) (Q:Bool→Hp→Prop),Inv X pins σ H s→t σ H Q→wpAny (model X.prog X.w) X.A (isTrue e X.env whole) (TP X pins σ Q) X.xe s
theorem PW.pt {X:Cx} {e:Expr} {t:TT} (h:PW X e t):PT X e t:=h _
noncomputable def PA (X:Cx) (es:List Expr) (t:TA):Prop :=
 ∀ (pos:Pos) (pins:List (Addr × Obj)) (s:Shared) (σ:St) (H:Hp) (Q:List V→Hp→Prop),Inv X pins σ H s→t σ H Q→wpAny (model X.prog X.w) X.A (spliced (backTo pos (starEach es X.env))) (AP X pins σ Q) X.xe s
noncomputable def PS (X:Cx) (st:Stmt) (t:TS):Prop :=
 ∀ (pins:List (Addr × Obj)) (s:Shared) (σ:St) (H:Hp) (D:Ends),Inv X pins σ H s→t D σ H→wpAny (model X.prog X.w) X.A (exec st X.env) (SP X pins D) X.xe s
noncomputable def PSs (X:Cx) (st:List Stmt) (t:TS):Prop :=
 ∀ (pins:List (Addr × Obj)) (s:Shared) (σ:St) (H:Hp) (D:Ends),Inv X pins σ H s→t D σ H→wpAny (model X.prog X.w) X.A (execs st X.env) (SP X pins D) X.xe s
theorem thn {α:Type} {t:Sem α} {Q Q':α→Shared→Prop} {M:Model} {A:Around} {E:Value→Shared→Prop} {s:Shared} (h:wpAny M A t Q E s) (hQ:∀ a s,Q a s→Q' a s):wpAny M A t Q' E s:=wpAny_mono h hQ fun _ _ x=>x
end L2
namespace L2
open PySem PySem.Spec PyProof.Rows
section
variable {X:Cx}
noncomputable def Z7k (i:Nat):TE:=fun σ H Q=>∃ v,σ[i]? = some (some v)∧Q v H
noncomputable def tC (v:V):TE:=fun _ H Q=>Q v H
theorem Z0f {i:Nat} {x:Str} {pos:Pos} (hN:X.N[i]? = some x) (hv:Vis X.env.scope x) (hd:(x == ("__debug__" : Str)) = false:=by decide) (hcd:(x == ("__classdict__" : Str)) = false:=by decide):PE X (.Name x pos) (Z7k i):=by
 intro pins s σ H Q I h
 obtain ⟨v,e,h⟩:=h
 obtain ⟨m,hn,hl⟩:=I.loc
 obtain ⟨u,r,l⟩:=hl i x v hN e hv
 have fin:EP X pins σ Q u s:=⟨v,H,I,r,h⟩
 rcases l with ⟨hk,hm⟩ | ⟨hk,c,hc,hcell⟩
 ·exact wpAny_Name (wpAny_loadName_local I.ok.kind hk hn hm fin) hd
 ·rcases hk with hk | hk
  ·exact wpAny_Name (wpAny_loadName_cell I.ok.kind hk hc hcell fin) hd
  ·exact wpAny_Name (wpAny_loadName_free I.ok.kind hk hc hcell fin hcd) hd
theorem Zsm {i j pos}:PE X (.Constant (.int i) j pos) (tC (.int i)):=fun _ _ _ H _ I h=>wpAny_Constant_int ⟨.int i,H,I.tok _,⟨_,rfl⟩,h⟩
theorem Z51 {b j pos}:PE X (.Constant (.bool b) j pos) (tC (.bl b)):=fun _ _ _ H _ I h=>Constant_bool ⟨.bl b,H,I,rfl,h⟩
theorem Z0v {x j pos}:PE X (.Constant (.str x) j pos) (tC (.str x)):=fun _ _ _ H _ I h=>Calls.Constant_str ⟨.str x,H,I.tok _,⟨_,rfl⟩,h⟩
noncomputable def Gl (X:Cx) (x:Str):Prop:=X.env.kindOf x = some .globalImplicit
theorem Ze3 {E:Value→Shared→Prop} {pins:List (Addr × Obj)} {s:Shared} {σ:St} {H:Hp} {x:Str} {u:Value} {pos:Pos} {Q:Value→Shared→Prop} (I:Inv X pins σ H s) (hg:Gl X x) (hm:X.mg x = some u) (h:Q u s)
  (hd:(x == ("__debug__" : Str)) = false:=by decide):wpAny (model X.prog X.w) X.A (eval (.Name x pos) X.env) Q E s :=
 Calls.Name_function_global I.ok.kind hg (Calls.loadGlobal_global (by rw [I.ok.glob]; exact I.mod.glob.keeps I.bk) hm h) hd
theorem Zcj {E:Value→Shared→Prop} {pins:List (Addr × Obj)} {s:Shared} {σ:St} {H:Hp} {x:Str} {u:Value} {pos:Pos} {Q:Value→Shared→Prop} (I:Inv X pins σ H s) (hg:Gl X x) (hm:X.mg x = none) (hv:bootBuiltins x = some u) (h:Q u s)
  (hn:x ≠ "__name__" := by decide) (hd:(x == ("__debug__" : Str)) = false:=by decide):wpAny (model X.prog X.w) X.A (eval (.Name x pos) X.env) Q E s:=by
 obtain ⟨mb,h1,h2⟩:=I.mod.blt
 exact Calls.Name_function_global I.ok.kind hg (Calls.loadGlobal_builtin (by rw [I.ok.glob]; exact I.mod.glob.keeps I.bk) hm (by rw [I.ok.blt]; exact h1.keeps I.bk) ((h2 x hn).trans hv) h) hd
theorem Znv {x:Str} {v:V} {u:Value} {pos:Pos} (hg:Gl X x) (hm:X.mg x = some u) (r:RelV v u) (hd:(x == ("__debug__" : Str)) = false:=by decide):PE X (.Name x pos) (tC v) :=
 fun _ _ _ H _ I h=>Ze3 I hg hm ⟨v,H,I,r,h⟩ hd
theorem Zwq {x:Str} {v:V} {u:Value} {pos:Pos} (hg:Gl X x) (hm:X.mg x = none) (hv:bootBuiltins x = some u) (r:RelV v u) (hn:x ≠ "__name__" := by decide) (hd:(x == ("__debug__" : Str)) = false:=by decide):PE X (.Name x pos) (tC v) :=
 fun _ _ _ H _ I h=>Zcj I hg hm hv ⟨v,H,I,r,h⟩ hn hd
noncomputable def t2I (ta tb:TE) (k:Int→Int→Hp→Prop):St→Hp→Prop:=fun σ H=>ta σ H fun x H1=>tb σ H1 fun y H2=>∃ i j,x = .int i∧y = .int j∧k i j H2
variable {a b:Expr} {ta tb:TE} {pos:Pos}
noncomputable def Zxx (p:Int→Int→Bool) (ta tb:TE):TE:=fun σ H Q=>t2I ta tb (fun i j H2=>Q (.bl (p i j)) H2) σ H
noncomputable abbrev tLt:TE→TE→TE:=Zxx fun i j=>decide (i < j)
noncomputable abbrev tLe:TE→TE→TE:=Zxx fun i j=>decide (i ≤ j)
noncomputable abbrev tGt:TE→TE→TE:=Zxx fun i j=>decide (j < i)
noncomputable abbrev tGe:TE→TE→TE:=Zxx fun i j=>decide (j ≤ i)
noncomputable abbrev Yar:TE→TE→TE:=Zxx fun i j=>decide (i = j)
noncomputable abbrev Yas:TE→TE→TE:=Zxx fun i j=>!decide (i = j)
noncomputable def tB (t:TE):TT:=fun σ H Q=>t σ H fun x H1=>∃ c,x = .bl c∧Q c H1
variable {tA tB':TT} {rest:List Expr}
noncomputable def tOr (t u:TT):TT:=fun σ H Q=>t σ H fun c H1=>if c = true then Q true H1 else u σ H1 Q
noncomputable def Z9j (t:TT):TT:=fun σ H Q=>t σ H fun c H1=>Q (!c) H1
theorem Z2j (ha:PT X a tA):PW X (.BoolOp .Or [a] pos) tA:=by
 intro wh pins s σ H Q I h
 refine isTrue_or (thn (ha pins s σ H Q I h) fun c s1 e=>?_)
 cases c with
 | false=>exact isTrue_or_nil e
 | true=>exact e
theorem Z4k (ha:PT X a tA) (hb:PW X (.BoolOp .Or (b :: rest) pos) tB'):PW X (.BoolOp .Or (a :: b :: rest) pos) (tOr tA tB'):=by
 intro wh pins s σ H Q I h
 refine isTrue_or (thn (ha pins s σ H _ I h) fun c s1 qz9=>?_)
 obtain ⟨H1,I1,q1⟩:=qz9
 cases c with
 | true=>exact ⟨H1,I1,q1⟩
 | false=>exact hb wh pins s1 σ H1 Q I1 q1
theorem Z1t (ha:PT X a tA):PT X (.UnaryOp .Not a pos) (Z9j tA):=by
 intro pins s σ H Q I h
 exact isTrue_not (ha pins s σ H (fun c H1=>Q (!c) H1) I h)
noncomputable def Z3z (ta tb:TE):TE:=fun σ H Q=>ta σ H fun x H1=>∃ c,x = .bl c∧if c = true then tb σ H1 Q else Q (.bl false) H1
noncomputable def Z4s (ta:TE):TE:=fun σ H Q=>ta σ H fun x H1=>∃ c,x = .bl c∧Q (.bl (!c)) H1
theorem Z1g {op} {t:TE} (h:PE X a t):PE X (.BoolOp op [a] pos) t:=fun pins s σ H Q I hw=>BoolOp_one (h pins s σ H Q I hw)
theorem Z2q (ha:PE X a ta) (hb:PE X (.BoolOp .And (b :: rest) pos) tb):PE X (.BoolOp .And (a :: b :: rest) pos) (Z3z ta tb):=by
 intro pins s σ H Q I h
 refine BoolOp_and (thn (ha pins s σ H _ I h) fun v s1 qz9=>?_)
 obtain ⟨x,H1,I1,r1,q1⟩:=qz9
 obtain ⟨c,rfl,q1⟩:=q1
 cases r1
 refine wpAny_truthy_bool ?_
 cases c with
 | true=>exact hb pins s1 σ H1 Q I1 q1
 | false=>exact ⟨.bl false,H1,I1,rfl,q1⟩
theorem Zyw (ha:PE X a ta):PE X (.UnaryOp .Not a pos) (Z4s ta):=by
 intro pins s σ H Q I h
 refine UnaryOp_ (thn (ha pins s σ H _ I h) fun v s1 qz9=>?_)
 obtain ⟨x,H1,I1,r1,q1⟩:=qz9
 obtain ⟨c,rfl,q1⟩:=q1
 cases r1
 exact not_of (wpAny_truthy_bool ⟨.bl (!c),H1,I1,rfl,q1⟩)
end
end L2
namespace L2
open PySem PySem.Spec PyProof.Rows
noncomputable def SqL (K:PySem.W.Frag) (H:Hp) (a:Addr) (xs:List V):Prop :=
 Rd H a (.lst xs) ∨
  ∃ (o:Obj) (its:Array Value) (n:Nat),K.lookup a = some o∧o.cls = .type "list" ∧ o.dict = none∧o.data = .seq its n∧its.size ≤ sizeLine∧Vals xs its.toList
noncomputable def SqT (K:PySem.W.Frag) (H:Hp) (a:Addr) (xs:List V):Prop :=
 Rd H a (.tup xs) ∨
  ∃ (o:Obj) (its:Array Value) (n:Nat),K.lookup a = some o∧o.cls = .type "tuple" ∧ o.data = .seq its n∧its.size ≤ sizeLine∧Vals xs its.toList
noncomputable def Z9q:Value→Option V
 | .none=>some .non
 | .bool b=>some (.bl b)
 | .int i _=>some (.int i)
 | .str x _=>some (.str x)
 | .bytes b _=>some (.byt b)
 | .float b _=>some (.flt b)
 | .ref a=>some (.ref a)
 | .type n=>some (.ty n)
 | _=>none
theorem RelV.abs {x:V} {u:Value} (r:RelV x u):Z9q u = some x:=by
 cases x with
 | non=>cases r; rfl
 | bl _=>cases r; rfl
 | int _=>obtain ⟨t,rfl⟩:=r; rfl
 | str _=>obtain ⟨t,rfl⟩:=r; rfl
 | byt _=>obtain ⟨t,rfl⟩:=r; rfl
 | flt _=>obtain ⟨t,rfl⟩:=r; rfl
 | ref _=>cases r; rfl
 | ty _=>cases r; rfl
theorem RelV.inj {x y:V} {u:Value} (r:RelV x u) (q:RelV y u):x = y:=Option.some.inj (r.abs.symm.trans q.abs)
theorem Vals.inj {xs ys:List V} {us:List Value} (h:Vals xs us) (k:Vals ys us):xs = ys:=by
 induction h generalizing ys with
 | nil=>cases k; rfl
 | cons r t ih =>
  cases k with
  | cons r' t'=>rw [r.inj r',ih t']
section
variable {X:Cx} {pins:List (Addr × Obj)} {σ:St} {H:Hp} {s:Shared} {a:Addr} {xs ys:List V}
theorem Inv.list (I:Inv X pins σ H s) (h:SqL X.K H a xs):∃ its:List Value,Vals xs its∧PlainL s.heap a its.toArray∧xs.length ≤ sizeLine:=by
 rcases h with h | ⟨o,its,n,hk,hc,hd,hs,hz,r⟩
 ·obtain ⟨z,its,n,r,e⟩:=h.ok I.hok
  exact ⟨its,r,⟨_,n,e,rfl,rfl,rfl⟩,z⟩
 ·refine ⟨its.toList,r,⟨o,n,I.kIn a o hk,hc,hd,by simpa using hs⟩,?_⟩
  have e:=r.length
  simp only [Array.length_toList] at e
  omega
theorem Inv.tuple (I:Inv X pins σ H s) (h:SqT X.K H a xs):∃ its:List Value,Vals xs its∧IsTup s.heap a its.toArray∧xs.length ≤ sizeLine:=by
 rcases h with h | ⟨o,its,n,hk,hc,hs,hz,r⟩
 ·obtain ⟨z,its,r,p⟩:=h.ok I.hok
  exact ⟨its,r,p,z⟩
 ·refine ⟨its.toList,r,⟨o,I.kIn a o hk,hc,n,by simpa using hs⟩,?_⟩
  have e:=r.length
  simp only [Array.length_toList] at e
  omega
theorem Inv.list_inj (I:Inv X pins σ H s) (h:SqL X.K H a xs) (h':SqL X.K H a ys):xs = ys:=by
 obtain ⟨its,r,⟨o,n,e,_,_,d⟩,_⟩:=I.list h
 obtain ⟨its',r',⟨o',n',e',_,_,d'⟩,_⟩:=I.list h'
 rw [e] at e'; cases e'
 rw [d] at d'
 injection d' with d1 _
 have:its = its':=by simpa using congrArg Array.toList d1
 subst this
 exact r.inj r'
theorem Inv.tuple_inj (I:Inv X pins σ H s) (h:SqT X.K H a xs) (h':SqT X.K H a ys):xs = ys:=by
 obtain ⟨its,r,⟨o,e,_,n,d⟩,_⟩:=I.tuple h
 obtain ⟨its',r',⟨o',e',_,n',d'⟩,_⟩:=I.tuple h'
 rw [e] at e'; cases e'
 rw [d] at d'
 injection d' with d1 _
 have:its = its':=by simpa using congrArg Array.toList d1
 subst this
 exact r.inj r'
end
noncomputable abbrev Cx.wish (X:Cx) (E:Value→Shared→Prop):Cx:={ X with xe:=E }
noncomputable abbrev Cx.nox (X:Cx):Cx:=X.wish fun _ _=>False
theorem Cx.Ok.wish {X:Cx} (ok:X.Ok) (E:Value→Shared→Prop):(X.wish E).Ok :=
 ⟨ok.mod,ok.kind,ok.glob,ok.blt,ok.above,ok.inj,ok.has,ok.cab,ok.hd,ok.frames,ok.stk,ok.exf,ok.bs,ok.bsz,ok.noex,ok.exfs,ok.funs,ok.frf⟩
theorem Cx.Ok.unwish {X:Cx} {E:Value→Shared→Prop} (ok:(X.wish E).Ok):X.Ok :=
 ⟨ok.mod,ok.kind,ok.glob,ok.blt,ok.above,ok.inj,ok.has,ok.cab,ok.hd,ok.frames,ok.stk,ok.exf,ok.bs,ok.bsz,ok.noex,ok.exfs,ok.funs,ok.frf⟩
section
variable {X:Cx} {pins:List (Addr × Obj)} {σ:St} {H:Hp} {s:Shared} {E:Value→Shared→Prop}
theorem Inv.wish (I:Inv X pins σ H s) (E:Value→Shared→Prop):Inv (X.wish E) pins σ H s:=⟨I.ok.wish E,I.os,I.bare,I.base,I.loc,I.cell,I.free,I.freeC,I.pin,I.hok,I.len⟩
theorem Inv.unwish (I:Inv (X.wish E) pins σ H s):Inv X pins σ H s:=⟨I.ok.unwish,I.os,I.bare,I.base,I.loc,I.cell,I.free,I.freeC,I.pin,I.hok,I.len⟩
theorem SP.unwish {D:Ends} {f:Flow} {s':Shared} (h:SP (X.wish E) pins D f s'):SP X pins D f s':=by
 cases f with
 | next=>obtain ⟨σ',H',I,q⟩:=h; exact ⟨σ',H',I.unwish,q⟩
 | brk=>obtain ⟨σ',H',I,q⟩:=h; exact ⟨σ',H',I.unwish,q⟩
 | cont=>obtain ⟨σ',H',I,q⟩:=h; exact ⟨σ',H',I.unwish,q⟩
 | ret u=>obtain ⟨v,σ',H',I,r,q⟩:=h; exact ⟨v,σ',H',I.unwish,r,q⟩
theorem PSs.nox {st:List Stmt} {t:TS} (h:PSs X.nox st t):PSs X st t:=fun pins s σ H D I hw =>
 wpAny_mono (h pins s σ H D (I.wish _) hw) (fun _ _ q=>q.unwish) fun _ _ z=>False.elim z
end
section
variable {X:Cx} {st:Stmt} {rest:List Stmt} {t u:TS} {e:Expr} {te:TE} {pos:Pos}
noncomputable def Z5z:TS:=fun D σ H=>D.nx σ H
noncomputable def Z9a (t u:TS):TS:=fun D σ H=>t { D with nx:=u D } σ H
theorem Zmq:PSs X [] Z5z:=fun _ _ σ H _ I h=>wpAny_execs_nil ⟨σ,H,I,h⟩
theorem Zq1 (h1:PS X st t) (h2:PSs X rest u):PSs X (st :: rest) (Z9a t u):=by
 intro pins s σ H D I h
 refine wpAny_execs_cons (thn (h1 pins s σ H { D with nx:=u D } I h) fun f s1 q=>?_)
 cases f with
 | next =>
  obtain ⟨σ',H',I',q⟩:=q
  exact h2 pins s1 σ' H' D I' q
 | ret v=>exact q
 | brk=>exact q
 | cont=>exact q
theorem Zm3 (h1:PS X st t):PSs X [st] t:=by
 intro pins s σ H D I h
 refine wpAny_execs_cons (thn (h1 pins s σ H D I h) fun f s1 q=>?_)
 cases f with
 | next=>exact wpAny_execs_nil q
 | ret v=>exact q
 | brk=>exact q
 | cont=>exact q
theorem Inv.quiet {pins:List (Addr × Obj)} {σ:St} {H:Hp} {s:Shared} (I:Inv X pins σ H s):interactive X.env = false:=by simp [interactive,I.ok.kind]
noncomputable def Z52 (te:TE):TS:=fun D σ H=>te σ H fun _ H1=>D.nx σ H1
theorem Zc3 (he:PE X e te) (hs:swapsWith e none pos.line X.env = pure false:=by rfl):PS X (.Expr e pos) (Z52 te):=by
 intro pins s σ H D I h
 refine wpAny_Expr_any (thn (he pins s σ H _ I h) fun v s1 qz9=>?_) I.quiet hs
 obtain ⟨x,H1,I1,r1,q1⟩:=qz9
 exact ⟨σ,H1,I1,q1⟩
noncomputable def Z81 (te:TE):TS:=fun D σ H=>te σ H D.rt
theorem Zor (he:PE X e te):PS X (.Return (some e) pos) (Z81 te):=by
 intro pins s σ H D I h
 refine wpAny_Return_some (thn (he pins s σ H _ I h) fun v s1 qz9=>?_)
 obtain ⟨x,H1,I1,r1,q1⟩:=qz9
 exact ⟨x,σ,H1,I1,r1,q1⟩
noncomputable def Z93 (c:TT) (t u:TS):TS:=fun D σ H=>c σ H fun b H1=>if b = true then t D σ H1 else u D σ H1
theorem Zzm {c:Expr} {a b:List Stmt} {tc:TT} (hc:PT X c tc) (ha:PSs X a t) (hb:PSs X b u):PS X (.If c a b pos) (Z93 tc t u):=by
 intro pins s σ H D I h
 refine wpAny_If (thn (hc pins s σ H _ I h) fun d s1 qz9=>?_)
 obtain ⟨H1,I1,q1⟩:=qz9
 cases d with
 | true=>exact ha pins s1 σ H1 D I1 q1
 | false=>exact hb pins s1 σ H1 D I1 q1
noncomputable def Zx3:TS:=fun _ _ _=>False
theorem Zqb:PS X st Zx3:=fun _ _ _ _ _ _ h=>h.elim
end
noncomputable abbrev TG:=V→St→Hp→(St→Hp→Prop)→Prop
noncomputable abbrev TGs:=List V→St→Hp→(St→Hp→Prop)→Prop
noncomputable def PG (X:Cx) (target:Expr) (t:TG):Prop :=
 ∀ (pins:List (Addr × Obj)) (s:Shared) (σ:St) (H:Hp) (v:V) (u:Value) (Q:St→Hp→Prop),Inv X pins σ H s→RelV v u→t v σ H Q →
  wpAny (model X.prog X.w) X.A (assign target X.env u) (fun _ s'=>∃ σ' H',Inv X pins σ' H' s'∧Q σ' H') X.xe s
noncomputable def PGs (X:Cx) (ts:List Expr) (t:TGs):Prop :=
 ∀ (pins:List (Addr × Obj)) (s:Shared) (σ:St) (H:Hp) (vs:List V) (us:List Value) (Q:St→Hp→Prop),Inv X pins σ H s→Vals vs us→t vs σ H Q →
  wpAny (model X.prog X.w) X.A (assignInOrder ((assignEach ts X.env).map (·.2)) us) (fun _ s'=>∃ σ' H',Inv X pins σ' H' s'∧Q σ' H') X.xe s
noncomputable abbrev Yap:=V→V→V→Hp→(Hp→Prop)→Prop
noncomputable abbrev TIp:=V→V→Hp→VK→Prop
section
variable {X:Cx} {pos:Pos}
noncomputable def Zlc (i:Nat):TG:=fun v σ H Q=>Q (σ.set i (some v)) H
theorem Zo2 {i:Nat} {x:Str} (hN:X.N.Nodup) (hi:X.N[i]? = some x) (hx:Loc X.env.scope x) (hf:X.fn x = true∨X.env.scope.names.lookup x = some .local:=by first | exact .inl rfl | exact .inr rfl | assumption):PG X (.Name x pos) (Zlc i):=by
 intro pins s σ H v u Q I r h
 exact wpAny_assign_Name (Zgr I hN hi hx r (fun s' I'=>⟨_,H,I',h⟩) hf)
noncomputable def Z97:TGs:=fun vs σ H Q=>vs = []∧Q σ H
noncomputable def Z47 (t:TG) (u:TGs):TGs:=fun vs σ H Q=>∃ v r,vs = v :: r∧t v σ H fun σ' H'=>u r σ' H' Q
theorem Zxj:PGs X [] Z97:=by
 intro pins s σ H vs us Q I r h
 obtain ⟨e,h⟩:=h
 subst e
 cases r
 exact assignInOrder_nil ⟨σ,H,I,h⟩
theorem Zqu {e:Expr} {es:List Expr} {t:TG} {u:TGs} (h1:PG X e t) (h2:PGs X es u)
  (hs:(assignEach (e :: es) X.env).map (·.2) = assign e X.env :: (assignEach es X.env).map (·.2):=by rfl):PGs X (e :: es) (Z47 t u):=by
 intro pins s σ H vs us Q I r h
 obtain ⟨v,vr,e1,h⟩:=h
 subst e1
 cases r with
 | cons r rr =>
  rw [hs]
  refine assignInOrder_cons (thn (h1 pins s σ H _ _ _ I r h) fun _ s1 qz9=>?_)
  obtain ⟨σ1,H1,I1,q1⟩:=qz9
  exact h2 pins s1 σ1 H1 _ _ Q I1 rr q1
noncomputable def Yag (K:PySem.W.Frag) (n:Nat) (t:TGs):TG:=fun v σ H Q=>∃ a xs,v = .ref a∧SqT K H a xs∧xs.length = n∧t xs σ H Q
theorem Z2t {es:List Expr} {k:Nat} {t:TGs} {n:Nat} (hc:X.calm = true) (h:PGs X es t)
  (hn:(assignEach es X.env).length = n:=by rfl) (hst:(assignEach es X.env).findIdx? (·.1) = none:=by rfl):PG X (.Tuple es k pos) (Yag X.K n t):=by
 intro pins s σ H v u Q I r hw
 obtain ⟨a,xs,e1,hq,hl,hw⟩:=hw
 subst e1
 cases r
 obtain ⟨its,rv,ht,hz⟩:=I.tuple hq
 refine assign_Tuple_tuple (I.ok.hd hc) ht (by simp [hn,← hl,rv.length]) hst fun h' hx=>?_
 have I1:Inv X pins σ H { s with heap:=h' }:=I.kept (t':=s.toks) fun b o e=>hx b o (Nat.ne_of_lt (Heap.lt_size e)) e
 exact h pins _ σ H xs _ Q I1 (by simpa using rv) hw
noncomputable def Zzw (te:TE) (g:TG):TS:=fun D σ H=>te σ H fun x H1=>g x σ H1 D.nx
theorem Znb {i:Nat} {x:Str} {e:Expr} {te:TE} {pos':Pos} (hN:X.N.Nodup) (hi:X.N[i]? = some x) (hx:Loc X.env.scope x) (he:PE X e te) (hs:swapsWith e (some (.Name x pos')) pos.line X.env = pure false:=by rfl) (hf:X.fn x = true∨X.env.scope.names.lookup x = some .local:=by first | exact .inl rfl | exact .inr rfl | assumption) :
  PS X (.Assign [.Name x pos'] e pos) (Zzw te (Zlc i)):=by
 intro pins s σ H D I h
 refine wpAny_Assign_Name (thn (he pins s σ H _ I h) fun v s1 qz9=>?_) hs
 obtain ⟨y,H1,I1,r1,q1⟩:=qz9
 exact Zgr I1 hN hi hx r1 (fun s2 I2=>⟨_,H1,I2,q1⟩) hf
end
section
variable {X:Cx} {pos:Pos}
noncomputable def Z2a (c:TT) (tb:TS):TS:=fun D σ H=>∃ W:Nat→St→Hp→Prop,(∃ m,W m σ H)∧∀ m σ H,W m σ H →
 c σ H fun b H1=>if b = true then ∃ N:St→Hp→Prop,(∀ σ' H',N σ' H'→∃ m',m' < m∧W m' σ' H')∧tb { D with nx:=N,ct:=N,bk:=D.nx } σ H1 else D.nx σ H1
theorem Zrt {c:Expr} {body:List Stmt} {tc:TT} {tb:TS} (hp:PassesOwn (model X.prog X.w) X.A X.env X.xe) (hc:PT X c tc) (hb:PSs X body tb):PS X (.While c body [] pos) (Z2a tc tb):=by
 intro pins s σ H D I h
 obtain ⟨W,⟨m0,w0⟩,turn⟩:=h
 refine wpAny_While (codeAny_whileLoop (fun n s'=>∃ σ' H',Inv X pins σ' H' s'∧W n σ' H') ?_ m0 ⟨σ,H,I,w0⟩)
 rintro n s1 ⟨σ1,H1,I1,w1⟩
 refine wpAny_passesOwn hp (thn (hc pins s1 σ1 H1 _ I1 (turn n σ1 H1 w1)) fun b s2 qz9=>?_)
 obtain ⟨H2,I2,q2⟩:=qz9
 cases b with
 | true =>
  obtain ⟨N,hN,q2⟩:=q2
  rw [if_pos rfl]
  refine wpAny_passesOwn hp (thn (hb pins s2 σ1 H2 _ I2 q2) fun f s3 q3=>?_)
  cases f with
  | next =>
   obtain ⟨σ3,H3,I3,n3⟩:=q3
   obtain ⟨m',hm,w3⟩:=hN σ3 H3 n3
   exact ⟨m',hm,σ3,H3,I3,w3⟩
  | cont =>
   obtain ⟨σ3,H3,I3,n3⟩:=q3
   obtain ⟨m',hm,w3⟩:=hN σ3 H3 n3
   exact ⟨m',hm,σ3,H3,I3,w3⟩
  | brk=>exact q3
  | ret v=>exact q3
 | false =>
  rw [if_neg Bool.false_ne_true]
  exact wpAny_execs_nil ⟨σ1,H2,I2,q2⟩
end
set_option genInjectivity false in
structure It where
 go:Nat→Hp→Prop
 yld:Nat→Hp→V→Hp→Prop
 stop:Nat→Hp→Prop
noncomputable def Zc0 (X:Cx) (pins:List (Addr × Obj)) (H:Hp) (b:Addr):Prop :=
 H b = none∧b ≠ X.env.locals∧b ∉ X.fs∧(b ∈ X.ex∨X.s₀.heap.objs.size ≤ b)∧(∀ x c,X.env.cells.lookup x = some c→c ≠ b)∧∀ p ∈ X.pn ++ pins,p.1 ≠ b
theorem Inv.fpOk {X:Cx} {pins:List (Addr × Obj)} {σ:St} {H H':Hp} {s:Shared} {b:Addr} (I:Inv X pins σ H s) (hb:s.heap.objs.size ≤ b) (hn:H' b = none):Zc0 X pins H' b:=by
 refine ⟨hn,Nat.ne_of_gt (Nat.lt_of_lt_of_le I.lt hb),I.nofs hb,.inr (Nat.le_trans I.sz hb),fun x c e z=>?_,fun p hp z=>?_⟩
 ·obtain ⟨v,q⟩:=I.cell x c e
  exact absurd (Nat.lt_of_lt_of_le q.lt (by rw [z]; exact hb)) (Nat.lt_irrefl _)
 ·exact absurd (Nat.lt_of_lt_of_le (Heap.lt_size (I.pin p hp).1) (by rw [z]; exact hb)) (Nat.lt_irrefl _)
structure Turn (P:Program) (w:World) (K:PySem.W.Frag) (tg:Expr) (J:It) (fp:List Addr) (it:Addr) (tn:Nat→Heap→Prop):Prop where
 mem:it ∈ fp
 obj:∀ i h,tn i h→∀ b ∈ fp,∃ o,h.get? b = some o∧∀ v,o.data ≠ .cell v
 keep:∀ i h h',tn i h→(∀ b ∈ fp,∀ o,h.get? b = some o→h'.get? b = some o)→tn i h'
 item:∀ (X:Cx),X.prog = P→X.w = w→X.K = K→X.calm = true→∀ (i:Nat) (pins:List (Addr × Obj)) (s:Shared) (σ:St) (H:Hp) (E:Value→Shared→Prop),Inv X pins σ H s→(∀ b ∈ fp,Zc0 X pins H b)→tn i s.heap→J.go i H →
  wpAny (model P w) X.A (pyNext (.ref it)) (fun r s1=>∃ u,r = some u ∧
   wpAny (model P w) X.A (letOwnedTupleGo tg (.ref it) u) (fun _ s2=>∃ x H',Inv X pins σ H' s2∧RelV x u∧J.yld i H x H'∧tn (i + 1) s2.heap∧∀ b ∈ fp,H' b = none) E s1) E s
 done:∀ (X:Cx),X.prog = P→X.w = w→X.K = K→X.calm = true→∀ (i:Nat) (pins:List (Addr × Obj)) (s:Shared) (σ:St) (H:Hp) (E:Value→Shared→Prop),Inv X pins σ H s→(∀ b ∈ fp,Zc0 X pins H b)→tn i s.heap→J.stop i H →
  wpAny (model P w) X.A (pyNext (.ref it)) (fun r s1=>r = none∧Inv X pins σ H s1) E s
 self:∀ (A:Around) (i:Nat) (s:Shared) (Q:Value→Shared→Prop) (E:Value→Shared→Prop),tn i s.heap→Q (.ref it) s→wpAny (model P w) A (pyIter (.ref it)) Q E s
noncomputable abbrev TI:=St→Hp→(It→Hp→Prop)→Prop
noncomputable def PIE (X:Cx) (pins:List (Addr × Obj)) (σ:St) (tg:Expr) (R:It→Hp→Prop) (itv:Value) (s2:Shared):Prop :=
 ∃ (it:Addr) (fp:List Addr) (tn:Nat→Heap→Prop) (J:It) (H':Hp),itv = .ref it∧Inv X pins σ H' s2∧Turn X.prog X.w X.K tg J fp it tn∧tn 0 s2.heap∧(∀ b ∈ fp,Zc0 X pins H' b)∧R J H'
noncomputable def PI (X:Cx) (tg iter:Expr) (wi:TI):Prop :=
 ∀ (pins:List (Addr × Obj)) (s:Shared) (σ:St) (H:Hp) (R:It→Hp→Prop),Inv X pins σ H s→wi σ H R →
  wpAny (model X.prog X.w) X.A (eval iter X.env) (fun v s1=>wpAny (model X.prog X.w) X.A (pyIter v) (PIE X pins σ tg R) X.xe s1) X.xe s
theorem Zwe {M:Model} {A:Around} {E:Value→Shared→Prop} {s:Shared} {tg:Expr} {it:Addr} {u:Value} {o:Obj} {n:String} {vs:Array Value} {Q:Unit→Shared→Prop} (ho:s.heap.get? it = some o) (hc:o.cls = .type n) (hd:o.data = .fields vs)
  (hn:["enumerate", "zip", "dict_itemiterator", "dict_reverseitemiterator", "odict_iterator", "itertools.zip_longest", "itertools.pairwise"].contains n = false) (hQ:Q () s):wpAny M A (letOwnedTupleGo tg (.ref it) u) Q E s:=by
 unfold letOwnedTupleGo
 cases tg <;> first
  | exact wpAny_pure hQ
  | (cases u <;> first
    | exact wpAny_pure hQ
    | (refine wpAny_bind (wpAny_load ho ?_)
       rw [hc,hd]
       show wpAny M A (if (["enumerate", "zip", "dict_itemiterator", "dict_reverseitemiterator", "odict_iterator", "itertools.zip_longest", "itertools.pairwise"].contains n && vs[0]? == some (rawInt _)) = true then _ else _) Q E s
       rw [if_neg (by intro h; rw [hn,Bool.false_and] at h; cases h)]
       exact wpAny_pure hQ))
noncomputable def Itl (K:PySem.W.Frag) (a:Addr):It :=
 ⟨fun i H=>∃ xs x,SqL K H a xs∧xs[i]? = some x,fun i H x H'=>H' = H∧∀ xs,SqL K H a xs→xs[i]? = some x,fun i H=>∃ xs,SqL K H a xs∧xs.length ≤ i⟩
noncomputable def Itt (K:PySem.W.Frag) (a:Addr):It :=
 ⟨fun i H=>∃ xs x,SqT K H a xs∧xs[i]? = some x,fun i H x H'=>H' = H∧∀ xs,SqT K H a xs→xs[i]? = some x,fun i H=>∃ xs,SqT K H a xs∧xs.length ≤ i⟩
noncomputable def Itr (lo:Int) (n:Nat):It:=⟨fun i _=>i < n,fun i H x H'=>H' = H∧x = .int (lo + i),fun i _=>n ≤ i⟩
theorem Zn5 {P:Program} {w:World} {K:PySem.W.Frag} {tg:Expr} (a it:Addr):Turn P w K tg (Itl K a) [it] it (fun i h=>h.IsListIter it a i) where
 mem:=by simp
 obj:=fun i h st b hb=>by
  have e:b = it:=by simpa using hb
  subst e
  obtain ⟨o,e,c,d⟩:=st
  exact ⟨o,e,fun v z=>by rw [d] at z; cases z⟩
 keep:=fun i h h' st k=>st.at fun o e=>k it (by simp) o e
 item:=by
  intro X hP hw hK hc i pins s σ H E I hf st hg
  subst hP hw hK
  obtain ⟨xs,x,hq,hx⟩:=hg
  obtain ⟨its,rv,p,hz⟩:=I.list hq
  obtain ⟨u,hu,ru⟩:=rv.get hx
  obtain ⟨f0,f1,f2,f3,f4,f5⟩:=hf it (by simp)
  refine wpAny_pyNext_list_item st p.isList (x:=u) (by simpa using hu) fun h' st' sb=>?_
  have I1:Inv X pins σ H { s with heap:=h' }:=I.turned (t':=s.toks) (fun b o hb e=>(sb.2 b hb).trans e) f0 f1 f3 f4 f5
  obtain ⟨o,e,c,d⟩:=id st'
  exact ⟨u,rfl,Zwe (s:={ s with heap:=h' }) e c d (by decide) ⟨x,H,I1,ru,⟨rfl,fun ys hy=>by rw [I.list_inj hy hq]; exact hx⟩,st',fun b hb=>(hf b hb).1⟩⟩
 done:=by
  intro X hP hw hK hc i pins s σ H E I hf st hg
  subst hP hw hK
  obtain ⟨xs,hq,hx⟩:=hg
  obtain ⟨its,rv,p,hz⟩:=I.list hq
  obtain ⟨f0,f1,f2,f3,f4,f5⟩:=hf it (by simp)
  have hl:=rv.length
  exact wpAny_pyNext_list_end (I.ok.hd hc) st p.isList (by simp; omega) fun h' eb=>⟨rfl,I.turned (t':=s.toks) (fun b o hb e=>eb b o hb e) f0 f1 f3 f4 f5⟩
 self:=fun _ _ _ _ _ st h=>wpAny_pyIter_listiter st h
theorem Zl8 {P:Program} {w:World} {K:PySem.W.Frag} {tg:Expr} (a it:Addr):Turn P w K tg (Itt K a) [it] it (fun i h=>h.IsTupleIter it a i) where
 mem:=by simp
 obj:=fun i h st b hb=>by
  have e:b = it:=by simpa using hb
  subst e
  obtain ⟨o,e,c,d⟩:=st
  exact ⟨o,e,fun v z=>by rw [d] at z; cases z⟩
 keep:=fun i h h' st k=>st.at fun o e=>k it (by simp) o e
 item:=by
  intro X hP hw hK hc i pins s σ H E I hf st hg
  subst hP hw hK
  obtain ⟨xs,x,hq,hx⟩:=hg
  obtain ⟨its,rv,p,hz⟩:=I.tuple hq
  obtain ⟨u,hu,ru⟩:=rv.get hx
  obtain ⟨f0,f1,f2,f3,f4,f5⟩:=hf it (by simp)
  refine wpAny_pyNext_tuple_item st (show s.heap.IsTuple a its.toArray from p) (x:=u) (by simpa using hu) fun h' st' sb=>?_
  have I1:Inv X pins σ H { s with heap:=h' }:=I.turned (t':=s.toks) (fun b o hb e=>(sb.2 b hb).trans e) f0 f1 f3 f4 f5
  obtain ⟨o,e,c,d⟩:=id st'
  exact ⟨u,rfl,Zwe (s:={ s with heap:=h' }) e c d (by decide) ⟨x,H,I1,ru,⟨rfl,fun ys hy=>by rw [I.tuple_inj hy hq]; exact hx⟩,st',fun b hb=>(hf b hb).1⟩⟩
 done:=by
  intro X hP hw hK hc i pins s σ H E I hf st hg
  subst hP hw hK
  obtain ⟨xs,hq,hx⟩:=hg
  obtain ⟨its,rv,p,hz⟩:=I.tuple hq
  obtain ⟨f0,f1,f2,f3,f4,f5⟩:=hf it (by simp)
  have hl:=rv.length
  exact wpAny_pyNext_tuple_end (I.ok.hd hc) st (show s.heap.IsTuple a its.toArray from p) (by simp; omega) fun h' eb=>⟨rfl,I.turned (t':=s.toks) (fun b o hb e=>eb b o hb e) f0 f1 f3 f4 f5⟩
 self:=fun _ _ _ _ _ st h=>wpAny_pyIter_tupleiter st h
theorem Zlr {P:Program} {w:World} {K:PySem.W.Frag} {tg:Expr} (it:Addr) (lo:Int) (n:Nat):Turn P w K tg (Itr lo n) [it] it (fun i h=>IsRangeIter h it (lo + (i:Nat) * 1) ((n:Int) - (i:Nat)) 1) where
 mem:=by simp
 obj:=fun i h st b hb=>by
  have e:b = it:=by simpa using hb
  subst e
  exact ⟨_,st,fun v z=>by
   have z':Data.fields _ = Data.cell v:=z
   cases z'⟩
 keep:=fun i h h' st k=>k it (by simp) _ st
 item:=by
  intro X hP hw hK hc i pins s σ H E I hf st hg
  subst hP hw hK
  obtain ⟨f0,f1,f2,f3,f4,f5⟩:=hf it (by simp)
  have W:=Walks.range (prog:=X.prog) (w:=X.w) (I.ok.hd hc) it lo 1 n
  refine W.item i s _ _ hg st fun v h' tk hv st' kk=>?_
  obtain ⟨t,rfl⟩:=hv
  have I1:Inv X pins σ H { s with heap:=h',toks:=tk }:=I.turned (fun b o hb e=>kk b o (by simpa using hb) e) f0 f1 f3 f4 f5
  refine ⟨_,rfl,Zwe (s:={ s with heap:=h',toks:=tk }) (n := "range_iterator") st' rfl rfl (by decide) ⟨.int (lo + i),H,I1,⟨t,?_⟩,⟨rfl,rfl⟩,st',fun b hb=>(hf b hb).1⟩⟩
  rw [Int.mul_one]
 done:=by
  intro X hP hw hK hc i pins s σ H E I hf st hg
  subst hP hw hK
  obtain ⟨f0,f1,f2,f3,f4,f5⟩:=hf it (by simp)
  exact wpAny_pyNext_range_end (I.ok.hd hc) st (by have:n ≤ i:=hg; omega) fun h' eb=>⟨rfl,I.turned (t':=s.toks) (fun b o hb e=>eb b o hb e) f0 f1 f3 f4 f5⟩
 self:=fun _ _ _ _ _ st h=>wpAny_pyIter_rangeiter st h
end L2
namespace L2
open PySem PySem.Spec PyProof.Rows
section
variable {X:Cx} {tg:Expr}
noncomputable def Zyn (K:PySem.W.Frag) (tl:TE):TI:=fun σ H R=>tl σ H fun x H1=>∃ a,x = .ref a∧(∃ xs,SqL K H1 a xs)∧R (Itl K a) H1
noncomputable def Z8x (K:PySem.W.Frag) (tl:TE):TI:=fun σ H R=>tl σ H fun x H1=>∃ a,x = .ref a∧(∃ xs,SqT K H1 a xs)∧R (Itt K a) H1
theorem Zun {l:Expr} {tl:TE} (hl:PE X l tl):PI X tg l (Zyn X.K tl):=by
 intro pins s σ H R I h
 refine thn (hl pins s σ H _ I h) fun v s1 qz9=>?_
 obtain ⟨x,H1,I1,r1,q1⟩:=qz9
 obtain ⟨a,e,⟨xs,hq⟩,q⟩:=q1
 subst e
 cases r1
 obtain ⟨its,rv,p,hz⟩:=I1.list hq
 refine wpAny_pyIter_list p.isList ?_
 refine ⟨s1.heap.objs.size,[s1.heap.objs.size],_,_,H1,rfl,I1.kept (t':=s1.toks) fun b o e=>Heap.get?_push_of_some _ e,Zn5 a _,⟨_,Heap.get?_push_size _ rfl,rfl,rfl⟩,fun b hb=>?_,q⟩
 have e:b = s1.heap.objs.size:=by simpa using hb
 subst e
 exact I1.fpOk (Nat.le_refl _) (I1.hok.fresh (Nat.le_refl _))
theorem Z1w {l:Expr} {tl:TE} (hl:PE X l tl):PI X tg l (Z8x X.K tl):=by
 intro pins s σ H R I h
 refine thn (hl pins s σ H _ I h) fun v s1 qz9=>?_
 obtain ⟨x,H1,I1,r1,q1⟩:=qz9
 obtain ⟨a,e,⟨xs,hq⟩,q⟩:=q1
 subst e
 cases r1
 obtain ⟨its,rv,p,hz⟩:=I1.tuple hq
 refine wpAny_pyIter_tuple (show s1.heap.IsTuple a its.toArray from p) ?_
 refine ⟨s1.heap.objs.size,[s1.heap.objs.size],_,_,H1,rfl,I1.kept (t':=s1.toks) fun b o e=>Heap.get?_push_of_some _ e,Zl8 a _,⟨_,Heap.get?_push_size _ rfl,rfl,rfl⟩,fun b hb=>?_,q⟩
 have e:b = s1.heap.objs.size:=by simpa using hb
 subst e
 exact I1.fpOk (Nat.le_refl _) (I1.hok.fresh (Nat.le_refl _))
theorem Zke {pins:List (Addr × Obj)} {σ:St} {H:Hp} {s:Shared} {R:It→Hp→Prop} {E:Value→Shared→Prop} {lo hi:Int} {t u v:Tok} {tk:Nat} (I:Inv X pins σ H s) (h1:-(2 ^ 62) ≤ lo) (h2:lo < 2 ^ 62) (h3:-(2 ^ 62) ≤ hi) (h4:hi < 2 ^ 62)
  (q:R (Itr lo (hi - lo).toNat) H):wpAny (model X.prog X.w) X.A (pyIter (.ref s.heap.objs.size)) (PIE X pins σ tg R) E { s with heap:=s.heap.push { cls:=.type "range", data:=.fields #[.int lo t,.int hi u,.int 1 v] },toks:=tk }:=by
 refine wpAny_pyIter_range (IsRange.new ..) (small_one h1 h2 h3 h4) ?_
 have I1:Inv X pins σ H { s with heap:=s.heap.push { cls:=.type "range", data:=.fields #[.int lo t,.int hi u,.int 1 v] },toks:=tk }:=I.kept fun b o e=>Heap.get?_push_of_some _ e
 refine ⟨(s.heap.push { cls:=.type "range", data:=.fields #[.int lo t,.int hi u,.int 1 v] }).objs.size,[(s.heap.push { cls:=.type "range", data:=.fields #[.int lo t,.int hi u,.int 1 v] }).objs.size],_,_,H,rfl,
  I1.kept (t':=tk) fun b o e=>Heap.get?_push_of_some _ e,Zlr _ lo (hi - lo).toNat,?_,fun b hb=>?_,q⟩
 ·have e1:lo + ((0:Nat):Int) * 1 = lo:=by simp
  have e2:(((hi - lo).toNat:Nat):Int) - ((0:Nat):Int) = Builtin.Range.rangeSize lo hi 1:=by rw [rangeSize_one]; split <;> omega
  show IsRangeIter _ _ (lo + ((0:Nat):Int) * 1) ((((hi - lo).toNat:Nat):Int) - ((0:Nat):Int)) 1
  rw [e1,e2]
  exact Heap.get?_push_size _ rfl
 ·have e:b = (s.heap.push { cls:=.type "range", data:=.fields #[.int lo t,.int hi u,.int 1 v] }).objs.size:=by simpa using hb
  subst e
  exact I1.fpOk (Nat.le_refl _) (I1.hok.fresh (Nat.le_refl _))
noncomputable def Z5o (ta:TA):TI:=fun σ H R=>ta σ H fun vs H1=>∃ j:Int,vs = [.int j]∧-(2 ^ 62) ≤ j∧j < 2 ^ 62∧R (Itr 0 j.toNat) H1
noncomputable def Z6q (ta:TA):TI:=fun σ H R=>ta σ H fun vs H1=>∃ i j:Int,vs = [.int i,.int j]∧(-(2 ^ 62) ≤ i∧i < 2 ^ 62∧-(2 ^ 62) ≤ j∧j < 2 ^ 62)∧R (Itr i (j - i).toNat) H1
theorem Znk {a:Expr} {ta:TA} {p pos:Pos} (hg:Gl X "range") (hm:X.mg "range" = none) (ha:PA X [a] ta) (hs:starEach [a] X.env = [(false,eval a X.env)]:=by rfl):PI X tg (.Call (.Name "range" p) [a] [] pos) (Z5o ta):=by
 intro pins s σ H R I h
 refine Call_ (Zcj I hg hm boot_range (PyProof.Rows.callWith_type1 (thn (ha pos pins s σ H _ I h) fun us s1 qz9=>?_) hs rfl))
 obtain ⟨vs,H1,I1,r1,q1⟩:=qz9
 obtain ⟨j,e,q1,q2,q⟩:=q1
 subst e
 cases r1 with
 | cons r rr =>
  cases rr
  obtain ⟨t,rfl⟩:=r
  exact call_range_1 (Zke I1 (by omega) (by omega) q1 q2 (by simpa using q))
theorem Znp {a b:Expr} {ta:TA} {p pos:Pos} (hg:Gl X "range") (hm:X.mg "range" = none) (ha:PA X [a,b] ta) (hs:starEach [a,b] X.env = [(false,eval a X.env),(false,eval b X.env)]:=by rfl) (hs2:starEach [b] X.env = [(false,eval b X.env)]:=by rfl) :
  PI X tg (.Call (.Name "range" p) [a,b] [] pos) (Z6q ta):=by
 intro pins s σ H R I h
 refine Call_ (Zcj I hg hm boot_range (PyProof.Rows.callWith_type1 (thn (ha pos pins s σ H _ I h) fun us s1 ⟨vs,H1,I1,r1,q1⟩=>?_) (by rw [hs,hs2]) (by rw [hs2]; rfl)))
 obtain ⟨i,j,e,⟨q1,q2,q3,q4⟩,q⟩:=q1
 subst e
 cases r1 with
 | cons r rr =>
  cases rr with
  | cons r' rr =>
   cases rr
   obtain ⟨t,rfl⟩:=r
   obtain ⟨t',rfl⟩:=r'
   exact call_range_2 (Zke I1 q1 q2 q3 q4 q)
noncomputable def Z9n (wi:TI) (g:TG) (tb:TS):TS:=fun D σ H=>wi σ H fun J H1=>∃ W:Nat→Nat→St→Hp→Prop,(∃ m,W 0 m σ H1)∧∀ i m σ H,W i m σ H →
 (J.stop i H∧D.nx σ H)∨(J.go i H∧∃ N:St→Hp→Prop,(∀ σ' H',N σ' H'→∃ m',m' < m∧W (i + 1) m' σ' H')∧∀ x H',J.yld i H x H'→g x σ H' fun σ2 H2=>tb { D with nx:=N,ct:=N,bk:=D.nx } σ2 H2)
noncomputable def Zf3 (fp:List Addr) (h:Heap):List (Addr × Obj):=fp.filterMap fun b=>(h.get? b).map fun o=>(b,o)
theorem Jr {fp:List Addr} {h:Heap} {b:Addr} {o:Obj} (hb:b ∈ fp) (e:h.get? b = some o):(b,o) ∈ Zf3 fp h:=List.mem_filterMap.mpr ⟨b,hb,by rw [e]; rfl⟩
theorem Zn0 {fp:List Addr} {h:Heap} {p:Addr × Obj} (hp:p ∈ Zf3 fp h):p.1 ∈ fp∧h.get? p.1 = some p.2:=by
 obtain ⟨b,hb,e⟩:=List.mem_filterMap.mp hp
 cases q:h.get? b with
 | none=>rw [q] at e; cases e
 | some o =>
  rw [q] at e
  have e':(b,o) = p:=Option.some.inj e
  subst e'
  exact ⟨hb,q⟩
theorem Inv.pinned {pins:List (Addr × Obj)} {σ:St} {H:Hp} {s:Shared} {fp:List Addr} (I:Inv X pins σ H s) (hf:∀ b ∈ fp,Zc0 X pins H b) (ho:∀ b ∈ fp,∃ o,s.heap.get? b = some o∧∀ v,o.data ≠ .cell v):Inv X (pins ++ Zf3 fp s.heap) σ H s :=
 I.pins_of fun p hp=>(List.mem_append.mp hp).elim (fun z=>I.pin p (List.mem_append_right _ z)) fun z=>by
  obtain ⟨hb,e⟩:=Zn0 z
  obtain ⟨f0,f1,f2,_⟩:=hf p.1 hb
  obtain ⟨o,e',d⟩:=ho p.1 hb
  rw [e] at e'; cases e'
  exact ⟨e,f0,f1,f2,d⟩
theorem Inv.unpinned {pins pl:List (Addr × Obj)} {σ:St} {H:Hp} {s:Shared} (I:Inv X (pins ++ pl) σ H s):Inv X pins σ H s:=I.pins_of fun p hp=>I.pin p (List.mem_append_right _ (List.mem_append_left _ hp))
theorem Zsf {iter:Expr} {body:List Stmt} {wi:TI} {g:TG} {tb:TS} {pos:Pos} (hp:PassesOwn (model X.prog X.w) X.A X.env X.xe) (hc:X.calm = true) (hi:PI X tg iter wi) (hg:PG X tg g) (hb:PSs X body tb)
  (hs:∀ x,foldedSetIterable iter X.env x = pure x:=by intro _; rfl):PS X (.For tg iter body [] pos) (Z9n wi g tb):=by
 intro pins s σ H D I h
 refine wpAny_For (thn (hi pins s σ H _ I h) fun v s1 h1=>thn h1 fun itv s2 h2=>?_) hs
 obtain ⟨it,fp,tn,J,H2,e,I2,T,st2,f2,W,⟨m0,w0⟩,turn⟩:=h2
 subst e
 -- what stays true of the iterator's objects through the loop
 have stat:∀ {H':Hp},(∀ b ∈ fp,H' b = none)→∀ b ∈ fp,Zc0 X pins H' b:=fun hn b hb=>⟨hn b hb,(f2 b hb).2⟩
 refine codeAny_forLoop_any (fun n s'=>∃ i σ' H',Inv X pins σ' H' s'∧tn i s'.heap∧(∀ b ∈ fp,H' b = none)∧W i n σ' H') ?_ m0 ⟨0,σ,H2,I2,st2,fun b hb=>(f2 b hb).1,w0⟩
 rintro n s3 ⟨i,σ3,H3,I3,st3,fr3,w3⟩
 rcases turn i n σ3 H3 w3 with ⟨stop,qn⟩ | ⟨go,N,hN,step⟩
 ·refine wpAny_passesOwn hp (thn (T.done X rfl rfl rfl hc i pins s3 σ3 H3 X.xe I3 (stat fr3) st3 stop) fun r s4 qz9=>?_)
  obtain ⟨hr,I4⟩:=qz9
  subst hr
  exact wpAny_execs_nil ⟨σ3,H3,I4,qn⟩
 ·refine wpAny_passesOwn hp (thn (T.item X rfl rfl rfl hc i pins s3 σ3 H3 X.xe I3 (stat fr3) st3 go) fun r s4 qz9=>?_)
  obtain ⟨u,hr,h4⟩:=qz9
  subst hr
  refine wpAny_passesOwn hp (thn h4 fun _ s5 qz9=>?_)
  obtain ⟨x,H5,I5,r5,y5,st5,fr5⟩:=qz9
  have I5':=I5.pinned (stat fr5) (T.obj _ _ st5)
  refine wpAny_passesOwn hp (thn (hg _ s5 σ3 H5 x u _ I5' r5 (step x H5 y5)) fun _ s6 qz9=>?_)
  obtain ⟨σ6,H6,I6,q6⟩:=qz9
  refine wpAny_passesOwn hp (thn (hb _ s6 σ6 H6 _ I6 q6) fun f s7 q7=>?_)
  have again:∀ {σ7:St} {H7:Hp},Inv X (pins ++ Zf3 fp s5.heap) σ7 H7 s7→N σ7 H7→∃ m,m < n∧∃ i σ' H',Inv X pins σ' H' s7∧tn i s7.heap∧(∀ b ∈ fp,H' b = none)∧W i m σ' H':=fun {σ7 H7} I7 n7=>by
   obtain ⟨m',hm,w7⟩:=hN σ7 H7 n7
   refine ⟨m',hm,i + 1,σ7,H7,I7.unpinned,T.keep _ _ _ st5 fun b hb o e=>(I7.pin (b,o) (List.mem_append_right _ (List.mem_append_right _ (Jr hb e)))).1,fun b hb=>?_,w7⟩
   obtain ⟨o,e,d⟩:=T.obj _ _ st5 b hb
   exact (I7.pin (b,o) (List.mem_append_right _ (List.mem_append_right _ (Jr hb e)))).2.1
  cases f with
  | next=>obtain ⟨σ7,H7,I7,n7⟩:=q7; exact again I7 n7
  | cont=>obtain ⟨σ7,H7,I7,n7⟩:=q7; exact again I7 n7
  | brk=>obtain ⟨σ7,H7,I7,q7⟩:=q7; exact ⟨σ7,H7,I7.unpinned,q7⟩
  | ret v=>obtain ⟨x7,σ7,H7,I7,r7,q7⟩:=q7; exact ⟨x7,σ7,H7,I7.unpinned,r7,q7⟩
end
end L2
namespace L2
open PySem PySem.Spec PyProof.Rows
noncomputable abbrev R2:=V→V→Hp→VK→Prop
noncomputable def OpR (X:Cx) (f:Value→Value→Sem Value) (r:R2):Prop :=
 ∀ (pins:List (Addr × Obj)) (s:Shared) (σ:St) (H:Hp) (x y:V) (v u:Value) (Q:VK),Inv X pins σ H s→RelV x v→RelV y u→r x y H Q →
  wpAny (model X.prog X.w) X.A (f v u) (EP X pins σ Q) X.xe s
noncomputable def UnR (X:Cx) (f:Value→Sem Value) (r:V→Hp→VK→Prop):Prop :=
 ∀ (pins:List (Addr × Obj)) (s:Shared) (σ:St) (H:Hp) (x:V) (v:Value) (Q:VK),Inv X pins σ H s→RelV x v→r x H Q →
  wpAny (model X.prog X.w) X.A (f v) (EP X pins σ Q) X.xe s
noncomputable def Zcn (X:Cx) (f:Value) (r:List V→Hp→VK→Prop):Prop :=
 ∀ (pins:List (Addr × Obj)) (s:Shared) (σ:St) (H:Hp) (xs:List V) (us:List Value) (Q:VK),Inv X pins σ H s→Vals xs us→r xs H Q →
  wpAny (model X.prog X.w) X.A (call f us) (EP X pins σ Q) X.xe s
noncomputable def Z9o (X:Cx) (r:V→Hp→(Bool→Hp→Prop)→Prop):Prop :=
 ∀ (pins:List (Addr × Obj)) (s:Shared) (σ:St) (H:Hp) (x:V) (v:Value) (Q:Bool→Hp→Prop),Inv X pins σ H s→RelV x v→r x H Q →
  wpAny (model X.prog X.w) X.A (truthy v) (TP X pins σ Q) X.xe s
noncomputable def tOp (r:R2) (ta tb:TE):TE:=fun σ H Q=>ta σ H fun x H1=>tb σ H1 fun y H2=>r x y H2 Q
noncomputable def tUn (r:V→Hp→VK→Prop) (ta:TE):TE:=fun σ H Q=>ta σ H fun x H1=>r x H1 Q
noncomputable def rI (C:Int→Int→Prop) (g:Int→Int→V):R2:=fun x y H Q=>∃ i j,x = .int i∧y = .int j∧C i j∧Q (g i j) H
noncomputable def rI0 (g:Int→Int→V):R2:=fun x y H Q=>∃ i j,x = .int i∧y = .int j∧Q (g i j) H
noncomputable def rU (g:Int→V):V→Hp→VK→Prop:=fun x H Q=>∃ i,x = .int i∧Q (g i) H
section
variable {X:Cx} {a b c:Expr} {ta tb tc:TE} {pos:Pos}
theorem Z5k (ha:PE X a ta) (hb:PE X b tb) {pins:List (Addr × Obj)} {s:Shared} {σ:St} {H:Hp} {R:V→V→Hp→Prop} (I:Inv X pins σ H s)
  (h:ta σ H fun x H1=>tb σ H1 fun y H2=>R x y H2) {Q:Value→Shared→Prop} {f:Value→Value→Sem Value}
  (hf:∀ v u s2 x y H2,Inv X pins σ H2 s2→RelV x v→RelV y u→R x y H2→wpAny (model X.prog X.w) X.A (f v u) Q X.xe s2) :
  wpAny (model X.prog X.w) X.A (eval a X.env) (fun v s₁=>wpAny (model X.prog X.w) X.A (eval b X.env) (fun u s₂=>wpAny (model X.prog X.w) X.A (f v u) Q X.xe s₂) X.xe s₁) X.xe s:=by
 refine thn (ha pins s σ H _ I h) fun v s1 qz9=>?_
 obtain ⟨x,H1,I1,r1,q1⟩:=qz9
 refine thn (hb pins s1 σ H1 _ I1 q1) fun u s2 qz9=>?_
 obtain ⟨y,H2,I2,r2,q2⟩:=qz9
 exact hf v u s2 x y H2 I2 r1 r2 q2
theorem Zzs {op:Operator} {r:R2} (ho:OpR X (binaryOp op) r) (ha:PE X a ta) (hb:PE X b tb):PE X (.BinOp a op b pos) (tOp r ta tb):=by
 intro pins s σ H Q I h
 exact wpAny_BinOp (Z5k ha hb I h fun v u s2 x y H2 I2 rx ry q=>ho pins s2 σ H2 x y v u Q I2 rx ry q)
theorem Z3t {op:UnaryOp} {r:V→Hp→VK→Prop} (ho:UnR X (unaryOp op) r) (ha:PE X a ta):PE X (.UnaryOp op a pos) (tUn r ta):=by
 intro pins s σ H Q I h
 refine UnaryOp_ (thn (ha pins s σ H _ I h) fun v s1 qz9=>?_)
 obtain ⟨x,H1,I1,r1,q1⟩:=qz9
 exact ho pins s1 σ H1 x v Q I1 r1 q1
theorem opI {f:Value→Value→Sem Value} {C:Int→Int→Prop} {g:Int→Int→Int}
  (rule:∀ (i j:Int) (t u:Tok) (s:Shared) (Q:Value→Shared→Prop) (E:Value→Shared→Prop),C i j→Q (.int (g i j) s.toks) { s with toks:=s.toks + 1 }→wpAny (model X.prog X.w) X.A (f (.int i t) (.int j u)) Q E s) :
  OpR X f (rI C fun i j=>.int (g i j)):=by
 intro pins s σ H x y v u Q I rx ry h
 obtain ⟨i,j,rfl,rfl,hc,q⟩:=h
 obtain ⟨t,rfl⟩:=rx
 obtain ⟨t',rfl⟩:=ry
 exact rule i j t t' s _ _ hc ⟨.int (g i j),H,I.tok _,⟨_,rfl⟩,q⟩
theorem Z8h {f:Value→Value→Sem Value} {g:Int→Int→Int}
  (rule:∀ (i j:Int) (t u:Tok) (s:Shared) (Q:Value→Shared→Prop) (E:Value→Shared→Prop),Q (.int (g i j) s.toks) { s with toks:=s.toks + 1 }→wpAny (model X.prog X.w) X.A (f (.int i t) (.int j u)) Q E s) :
  OpR X f (rI0 fun i j=>.int (g i j)):=by
 intro pins s σ H x y v u Q I rx ry h
 obtain ⟨i,j,rfl,rfl,q⟩:=h
 obtain ⟨t,rfl⟩:=rx
 obtain ⟨t',rfl⟩:=ry
 exact rule i j t t' s _ _ ⟨.int (g i j),H,I.tok _,⟨_,rfl⟩,q⟩
theorem Z3q {f:Value→Value→Sem Value} {g:Int→Int→Bool}
  (rule:∀ (i j:Int) (t u:Tok) (s:Shared) (Q:Value→Shared→Prop) (E:Value→Shared→Prop),Q (.bool (g i j)) s→wpAny (model X.prog X.w) X.A (f (.int i t) (.int j u)) Q E s) :
  OpR X f (rI0 fun i j=>.bl (g i j)):=by
 intro pins s σ H x y v u Q I rx ry h
 obtain ⟨i,j,rfl,rfl,q⟩:=h
 obtain ⟨t,rfl⟩:=rx
 obtain ⟨t',rfl⟩:=ry
 exact rule i j t t' s _ _ ⟨.bl (g i j),H,I,rfl,q⟩
noncomputable def Z3a (i j:Int):Prop:=0 ≤ j∧j ≤ 1000000∧i.natAbs < 2 ^ 64
noncomputable def CMul (i j:Int):Prop:=(-(2 ^ 64) < i∧i < 2 ^ 64)∨(-(2 ^ 64) < j∧j < 2 ^ 64)
theorem CMul.ok {i j:Int} (h:CMul i j):IntMulOk i j:=by
 rcases h with ⟨h1,h2⟩ | ⟨h1,h2⟩
 ·exact .of_left (intBits_le_64 h1 h2)
 ·exact .of_right (intBits_le_64 h1 h2)
theorem Z0i:OpR X (binaryOp .Add) (rI0 fun i j=>.int (i + j)):=Z8h fun _ _ _ _ _ _ _ q=>add_int q
theorem Z0x:OpR X (binaryOp .Sub) (rI0 fun i j=>.int (i - j)):=Z8h fun _ _ _ _ _ _ _ q=>sub_int q
theorem Zwk:OpR X (binaryOp .Mod) (rI (fun _ j=>j ≠ 0) fun i j=>.int (i.fmod j)):=opI fun _ _ _ _ _ _ _ hc q=>mod_int' hc q
theorem Z2d:OpR X (binaryOp .Pow) (rI Z3a fun i j=>.int (i ^ j.toNat)):=opI fun _ _ _ _ _ _ _ hc q=>pow_int_small hc.1 hc.2.1 hc.2.2 q
theorem unI {f:Value→Sem Value} {g:Int→Int}
  (rule:∀ (i:Int) (t:Tok) (s:Shared) (Q:Value→Shared→Prop) (E:Value→Shared→Prop),Q (.int (g i) s.toks) { s with toks:=s.toks + 1 }→wpAny (model X.prog X.w) X.A (f (.int i t)) Q E s) :
  UnR X f (rU fun i=>.int (g i)):=by
 intro pins s σ H x v Q I rx h
 obtain ⟨i,rfl,q⟩:=h
 obtain ⟨t,rfl⟩:=rx
 exact rule i t s _ _ ⟨.int (g i),H,I.tok _,⟨_,rfl⟩,q⟩
theorem Zye:UnR X (unaryOp .USub) (rU fun i=>.int (-i)):=unI fun _ _ _ _ _ q=>neg_int q
end
section
variable {X:Cx} {a b c:Expr} {ta tb tc:TE} {pos:Pos}
theorem Zhi:OpR X (compareOp .Lt) (rI0 fun i j=>.bl (decide (i < j))):=Z3q fun _ _ _ _ _ _ _ q=>lt_int q
theorem Zl4:OpR X (compareOp .LtE) (rI0 fun i j=>.bl (decide (i ≤ j))):=Z3q fun _ _ _ _ _ _ _ q=>le_int q
theorem Z57:OpR X (compareOp .Gt) (rI0 fun i j=>.bl (decide (j < i))):=Z3q fun _ _ _ _ _ _ _ q=>gt_int q
theorem Z5b:OpR X (compareOp .GtE) (rI0 fun i j=>.bl (decide (j ≤ i))):=Z3q fun _ _ _ _ _ _ _ q=>ge_int q
theorem Zbf (b:Expr) {op:CmpOp} (h:op ≠ .In:=by decide) (h2:op ≠ .NotIn:=by decide):behindInMarks op b = false:=by
 have e1:(op == CmpOp.In) = false:=by cases op <;> first | rfl | exact absurd rfl h
 have e2:(op == CmpOp.NotIn) = false:=by cases op <;> first | rfl | exact absurd rfl h2
 cases b <;> simp [behindInMarks,e1,e2]
theorem Zvx {op:CmpOp} {r:R2} (ho:OpR X (compareOp op) r) (ha:PE X a ta) (hb:PE X b tb) (hm:behindInMarks op b = false):PE X (.Compare a [op] [b] pos) (tOp r ta tb):=by
 intro pins s σ H Q I h
 exact wpAny_Compare1 (Z5k ha hb I h fun v u s2 x y H2 I2 rx ry q=>ho pins s2 σ H2 x y v u Q I2 rx ry q) hm
noncomputable def Zws (t:TE):TT:=fun σ H Q=>t σ H fun x H'=>∃ k,x = .bl k∧Q k H'
theorem Zww {op:CmpOp} {r:R2} (ho:OpR X (compareOp op) r) (ha:PE X a ta) (hb:PE X b tb) (hm:behindInMarks op b = false):PT X (.Compare a [op] [b] pos) (Zws (tOp r ta tb)):=by
 intro pins s σ H Q I h
 refine wpAny_isTrue_Compare1 (thn (ha pins s σ H _ I h) fun v s1 ⟨x,H1,I1,r1,q1⟩=>thn (hb pins s1 σ H1 _ I1 q1) fun u s2 ⟨y,H2,I2,r2,q2⟩ =>
  thn (ho pins s2 σ H2 x y v u _ I2 r1 r2 q2) fun c s3 ⟨z,H3,I3,r3,k,e,q3⟩=>?_) hm
 subst e
 cases r3
 exact wpAny_truthy_bool ⟨H3,I3,q3⟩
noncomputable def Zsz (r r':R2) (ta tb tc:TE):TE:=fun σ H Q=>ta σ H fun x H1=>tb σ H1 fun y H2=>r x y H2 fun z H3=>∃ k,z = .bl k ∧
 (if k = true then tc σ H3 fun w' H4=>r' y w' H4 Q else Q (.bl false) H3)
theorem Zq9 {op op':CmpOp} {r r':R2} (ho:OpR X (compareOp op) r) (ho':OpR X (compareOp op') r') (ha:PE X a ta) (hb:PE X b tb) (hc:PE X c tc)
  (hm:lastMarks [op,op'] [b,c] = false:=by with_unfolding_all rfl):PE X (.Compare a [op,op'] [b,c] pos) (Zsz r r' ta tb tc):=by
 intro pins s σ H Q I h
 refine Compare_chain (thn (ha pins s σ H _ I h) fun v s1 ⟨x,H1,I1,r1,q1⟩=>chain_link (thn (hb pins s1 σ H1 _ I1 q1) fun u s2 ⟨y,H2,I2,r2,q2⟩ =>
  thn (ho pins s2 σ H2 x y v u _ I2 r1 r2 q2) fun d s3 ⟨z,H3,I3,r3,k,e,q3⟩=>?_)) hm
 subst e
 cases r3
 refine wpAny_truthy_bool ?_
 cases k with
 | false=>exact ite_ff ⟨.bl false,H3,I3,rfl,q3⟩
 | true=>exact ite_tt (chain_last (thn (hc pins s3 σ H3 _ I3 q3) fun w' s4 ⟨z',H4,I4,r4,q4⟩=>ho' pins s4 σ H4 y z' u w' Q I4 r2 r4 q4))
noncomputable def Z5p (K:PySem.W.Frag) (x:V) (H:Hp) (k:Bool):Prop :=
 match x with
 | .non=>k = false
 | .bl b=>k = b
 | .int i=>k = (i != 0)
 | .str y=>y.length ≤ sizeLine∧k = ((y.length:Int) != 0)
 | .byt y=>y.size ≤ sizeLine∧k = ((y.size:Int) != 0)
 | .ref p=>(∃ xs,SqL K H p xs∧k = !xs.isEmpty)∨(∃ xs,SqT K H p xs∧k = !xs.isEmpty)∨∃ kvs,H p = some (.dK kvs)∧k = !kvs.isEmpty
 | _=>False
theorem Zma {κ:Type} {kvs:List (κ × V)} {vs:List (κ × Value)} (r:KV kvs vs):(!vs.isEmpty) = !kvs.isEmpty:=by
 cases r <;> rfl
theorem Zf5 {xs:List V} {its:List Value} (r:Vals xs its):(!its.toArray.isEmpty) = !xs.isEmpty:=by
 cases r <;> simp
theorem Zfs:(sizeLine:Nat) < 2 ^ 63:=by rw [sizeLine_eq]; decide
theorem Z2s:Z9o X (fun x H Q=>∃ k,Z5p X.K x H k∧Q k H):=by
 intro pins s σ H x v Q I rx h
 obtain ⟨k,e,q⟩:=h
 have hl:=Zfs
 have hs:sizeLine = 16777216:=sizeLine_eq
 cases x with
 | non =>
  cases rx
  have e':k = false:=e
  subst e'
  exact truthy_none ⟨H,I,q⟩
 | bl b =>
  cases rx
  have e':k = b:=e
  subst e'
  exact wpAny_truthy_bool ⟨H,I,q⟩
 | int i =>
  obtain ⟨t,rfl⟩:=rx
  have e':k = (i != 0):=e
  subst e'
  exact PySem.P.truthy_int ⟨H,I,q⟩
 | str y =>
  obtain ⟨t,rfl⟩:=rx
  obtain ⟨hy,e'⟩:y.length ≤ sizeLine∧k = ((y.length:Int) != 0):=e
  subst e'
  exact PySem.P.truthy_str (by omega) ⟨H,I.tok _,q⟩
 | byt y =>
  obtain ⟨t,rfl⟩:=rx
  obtain ⟨hy,e'⟩:y.size ≤ sizeLine∧k = ((y.size:Int) != 0):=e
  subst e'
  exact PySem.W.truthy_bytes (by omega) ⟨H,I.tok _,q⟩
 | ref p =>
  cases rx
  have e':(∃ xs,SqL X.K H p xs∧k = !xs.isEmpty)∨(∃ xs,SqT X.K H p xs∧k = !xs.isEmpty)∨∃ kvs,H p = some (.dK kvs)∧k = !kvs.isEmpty:=e
  rcases e' with ⟨xs,hx,e'⟩ | ⟨xs,hx,e'⟩ | ⟨kvs,hx,e'⟩
  ·subst e'
   obtain ⟨its,r,pl,hz⟩:=I.list hx
   have hlen:=r.length
   exact wpAny_truthy_list pl.isList (by simp only [List.size_toArray]; omega) ⟨H,I.tok _,by rw [Zf5 r]; exact q⟩
  ·subst e'
   obtain ⟨its,r,pl,hz⟩:=I.tuple hx
   have hlen:=r.length
   exact truthy_tuple pl (by simp only [List.size_toArray]; omega) ⟨H,I.tok _,by rw [Zf5 r]; exact q⟩
  ·subst e'
   obtain ⟨hz,hS,vs,r,m⟩:kvs.length ≤ sizeLine∧(p == sysModules) = false∧∃ vs,KV kvs vs∧s.heap.DictOf (Wd X.prog X.w) p vs:=I.hok p _ hx
   have hlen:kvs.length = vs.length:=Paired.length r
   exact wpAny_truthy_dict hS m (by omega) ⟨H,I.tok _,by rw [Zma r]; exact q⟩
 | _=>exact (show False from e).elim
theorem Zq6 (ha:PE X a ta) (he:∀ whole,isTrue a X.env whole = (do let v ← whole; standAt a.pos; holding [v] (truthy v))) :
  PT X a (fun σ H Q=>ta σ H fun x H'=>∃ k,Z5p X.K x H' k∧Q k H'):=by
 intro pins s σ H Q I h
 refine isTrue_plain (thn (ha pins s σ H _ I h) fun v s1 qz9=>?_) (he _)
 obtain ⟨x,H1,I1,r1,q1⟩:=qz9
 exact Z2s pins s1 σ H1 x v Q I1 r1 q1
theorem Zf8:OpR X (binaryOp .Add) (fun x y H Q=>∃ i j,x = .str i∧y = .str j∧i.length + j.length ≤ sizeLine∧Q (.str (i ++ j)) H):=by
 intro pins s σ H x y v u Q I rx ry h
 obtain ⟨i,j,rfl,rfl,hz,q⟩:=h
 obtain ⟨t,rfl⟩:=rx
 obtain ⟨t',rfl⟩:=ry
 exact add_str (fun t' tk=>⟨.str (i ++ j),H,I.tok _,⟨_,rfl⟩,q⟩) hz
theorem vals1 {x:V} {us:List Value} (r:Vals [x] us):∃ u,us = [u]∧RelV x u:=by
 cases r with
 | cons r1 r2=>cases r2; exact ⟨_,rfl,r1⟩
theorem vals2 {x y:V} {us:List Value} (r:Vals [x,y] us):∃ u w',us = [u,w']∧RelV x u∧RelV y w':=by
 cases r with
 | cons r1 r2 =>
  cases r2 with
  | cons r3 r4=>cases r4; exact ⟨_,_,rfl,r1,r3⟩
end
end L2
namespace L2
open PySem PySem.Spec PyProof.Rows
structure ObjM (h:Heap) (x dx C:Addr) (mA:Str→Option Value):Prop where
 obj:h.get? x = some (PySem.W.instObj C dx)
 ns:h.Ns1 dx mA
 ne:dx ≠ x
theorem Zon {h:Heap} {dx:Addr} {mA:Str→Option Value} (n:h.Ns1 dx mA):∃ od,h.get? dx = some od∧∀ name,PySem.W.lookIn name od = some (mA name):=by
 obtain ⟨o,es,ep,ho,hd,hk,_,hm⟩:=n
 refine ⟨o,ho,fun name=>?_⟩
 have e:=hm name
 unfold nsFind findBy at e
 rw [← Array.find?_toList] at e
 unfold PySem.W.lookIn
 rw [hd]
 dsimp only
 split
 ·rename_i y q
  rw [q] at e
  exact congrArg some e
 ·rename_i q
  rw [q] at e
  have a:es.toList.any (·.refKey) = false:=by
   rw [List.any_eq_false]
   intro y hy
   obtain ⟨z,t,hkey⟩:=hk y (Array.mem_toList_iff.mp hy)
   simp [DictEntry.refKey,hkey]
  have a':¬ es.toList.any (·.refKey) = true:=by rw [a]; exact Bool.false_ne_true
  rw [if_neg a']
  exact congrArg some e
theorem ObjM.look {h:Heap} {x dx C:Addr} {mA:Str→Option Value} (I:ObjM h x dx C mA):∃ od,PySem.W.InstAt h x (PySem.W.instObj C dx) C (some od)∧∀ name,PySem.W.lookIn name od = some (mA name) :=
 let ⟨od,ho,hl⟩:=Zon I.ns
 ⟨od,⟨I.obj,rfl,rfl,ho⟩,hl⟩
section
variable {prog:Program} {w:World} {A:Around} {E:Value→Shared→Prop} {s:Shared} {K:PySem.W.Frag} {x dx C f:Addr} {mA:Str→Option Value} {name:Str} {v:Value}
end
theorem RelO.some_of {v:V} {o:Option Value} (r:RelO (some v) o):∃ u,o = some u∧RelV v u:=by
 cases o with
 | none=>exact (show False from r).elim
 | some u=>exact ⟨u,rfl,r⟩
section
variable {P:Program} {w:World} {H H':Hp} {h h':Heap} {a C dx:Addr} {fs fs':List (Str × V)}
theorem Zvs (hok:HOk P w H h) (e:H a = some (.ins C dx fs)):∃ mA,ObjM h a dx C mA∧(∀ f,RelO (fs.lookup f) (mA f))∧PySem.Within mA (fs.map (·.1))∧fs.length ≤ 1000∧H dx = some (.own a):=by
 obtain ⟨d,z,ne,ob,mA,n,r,q⟩:=(show ObjOk P w H h a (.ins C dx fs) from hok a _ e)
 exact ⟨mA,⟨ob,n,ne⟩,r,q,z,d⟩
end
structure Cls (K:PySem.W.Frag) (C:Addr):Prop where
 pg:PySem.W.plainGet K C Str.empty = true
 hd:PySem.W.hasDictIn K C = true
 po:PySem.W.plainOver K C = true
 sa:PySem.W.findIn K (.ref C) "__setattr__" = some (some (.builtin "object.__setattr__"))
theorem Cls.get {K:PySem.W.Frag} {C:Addr} (c:Cls K C) (f:Str):PySem.W.plainGet K C f = true:=c.pg
structure Con (K:PySem.W.Frag) (C:Addr) (f:Str) (v:V) (u:Value):Prop where
 at_:PySem.W.findIn K (.ref C) f = some (some u)
 rel:RelV v u
 get:PySem.W.specialIn K u "__get__" = some none
 cp:PySem.W.copiedNames.contains f = false
structure Meth (K:PySem.W.Frag) (C:Addr) (m:Str) (f:Addr):Prop where
 at_:PySem.W.findIn K (.ref C) m = some (some (.ref f))
 fn:PySem.W.isFn K (.ref f) = true
 kp:PySem.W.keepIn K (.ref f) = true
section
variable {X:Cx} {pins:List (Addr × Obj)} {σ:St} {H:Hp} {s:Shared} {a C dx:Addr} {fs:List (Str × V)} {f:Str} {v:V} {A:Around} {E:Value→Shared→Prop}
end
section
variable {X:Cx} {o e value:Expr} {f:Str} {pos pos' tpos:Pos} {ta tv:TE}
end
section
variable {X:Cx} {pins:List (Addr × Obj)} {σ:St} {H:Hp} {s:Shared} {A:Around} {E:Value→Shared→Prop} {Q:Value→Shared→Prop} {c:Value} {b:Bool}
inductive Zmd (K:PySem.W.Frag) (H:Hp):V→Value→Prop where
 | non:Zmd K H .non (.type "NoneType")
 | bl (x:Bool):Zmd K H (.bl x) (.type "bool")
 | int (i:Int):Zmd K H (.int i) (.type "int")
 | str (x:Str):Zmd K H (.str x) (.type "str")
 | flt (x:UInt64):Zmd K H (.flt x) (.type "float")
 | lst {a:Addr} {xs:List V} (e:H a = some (.lst xs)):Zmd K H (.ref a) (.type "list")
 | frz {a:Addr} {o:Obj} {xs:List V} (e:H a = some (.frz o (.lst xs))):Zmd K H (.ref a) (.type "list")
 | tup {a:Addr} {xs:List V} (e:H a = some (.tup xs)):Zmd K H (.ref a) (.type "tuple")
 | dK {a:Addr} {kvs:List (Key × V)} (e:H a = some (.dK kvs)):Zmd K H (.ref a) (.type "dict")
 | dT {a:Addr} {kvs:List (List Key × V)} (e:H a = some (.dT kvs)):Zmd K H (.ref a) (.type "dict")
 | ins {a C dx:Addr} {fs:List (Str × V)} (e:H a = some (.ins C dx fs)) (cl:Cls K C) (ha:PySem.W.findIn K (.ref C) "__class__" = some (some (.builtin "object.__class__")))
   (hn:PySem.W.specialIn K (.builtin "object.__class__") "__get__" = some (some (.builtin "getset_descriptor.__get__"))) (htk:PySem.W.takesIn K (.builtin "object.__class__") = some true)
   (hm:PySem.W.mroIn K C (.type "object") = some true):Zmd K H (.ref a) (.ref C)
theorem J3 {x:V} {u t:Value} (I:Inv X pins σ H s) (rx:RelV x u) (ty:Zmd X.K H x t) (e:PySem.W.kitOne X.K t c = some b) (h:∀ tk,Q (.bool b) { s with toks:=tk }) :
  wpAny (model X.prog X.w) A (call (.builtin "isinstance") [u,c]) Q E s:=by
 cases ty with
 | non=>cases (show u = Value.none from rx); exact PySem.W.kia_one PySem.W.kitx_none I.kIn True.intro e (fun z=>nomatch z) h
 | bl y=>cases (show u = Value.bool y from rx); exact PySem.W.kia_one PySem.W.kitx_bool I.kIn True.intro e (fun z=>nomatch z) h
 | int i=>obtain ⟨t,q⟩:=(show ∃ t,u = Value.int i t from rx); cases q; exact PySem.W.kia_one PySem.W.kitx_int I.kIn True.intro e (fun z=>nomatch z) h
 | str y=>obtain ⟨t,q⟩:=(show ∃ t,u = Value.str y t from rx); cases q; exact PySem.W.kia_one PySem.W.kitx_str I.kIn True.intro e (fun z=>nomatch z) h
 | flt y=>obtain ⟨t,q⟩:=(show ∃ t,u = Value.float y t from rx); cases q; exact PySem.W.kia_one PySem.W.kitx_float I.kIn True.intro e (fun z=>nomatch z) h
 | @lst a xs ea =>
  cases (show u = Value.ref a from rx)
  obtain ⟨_,_,n,_,h1⟩:=(show ObjOk X.prog X.w H s.heap a (.lst xs) from I.hok a _ ea)
  exact PySem.W.kia_one PySem.W.kitx_list I.kIn ⟨_,h1,rfl⟩ e (fun z=>nomatch z) h
 | @frz a ob xs ea =>
  cases (show u = Value.ref a from rx)
  obtain ⟨_,_,_,n,_,h1⟩:=(show ObjOk X.prog X.w H s.heap a (.frz ob (.lst xs)) from I.hok a _ ea)
  exact PySem.W.kia_one PySem.W.kitx_list I.kIn ⟨_,h1,rfl⟩ e (fun z=>nomatch z) h
 | @tup a xs ea =>
  cases (show u = Value.ref a from rx)
  obtain ⟨_,_,_,p⟩:=(show ObjOk X.prog X.w H s.heap a (.tup xs) from I.hok a _ ea)
  obtain ⟨o,h1,h2,_⟩:=p
  exact PySem.W.kia_one PySem.W.kitx_tuple I.kIn ⟨o,h1,h2⟩ e (fun z=>nomatch z) h
 | @dK a kvs ea =>
  cases (show u = Value.ref a from rx)
  obtain ⟨_,_,vs,_,p⟩:=(show ObjOk X.prog X.w H s.heap a (.dK kvs) from I.hok a _ ea)
  obtain ⟨o,es,ep,h1,h2,_⟩:=p
  exact PySem.W.kia_one PySem.W.kitx_dict I.kIn ⟨o,h1,h2.1⟩ e (fun z=>nomatch z) h
 | @dT a kvs ea =>
  cases (show u = Value.ref a from rx)
  obtain ⟨_,_,xs,_,o,es,ep,h1,h2,_⟩:=(show ObjOk X.prog X.w H s.heap a (.dT kvs) from I.hok a _ ea)
  exact PySem.W.kia_one PySem.W.kitx_dict I.kIn ⟨o,h1,h2.1⟩ e (fun z=>nomatch z) h
 | @ins a C dx fs ea cl ha hn htk hm =>
  cases (show u = Value.ref a from rx)
  obtain ⟨mA,O,_⟩:=Zvs I.hok ea
  obtain ⟨od,J,_⟩:=O.look
  exact PySem.W.kia_one (PySem.W.kitx_own (cl.get _) cl.hd ha hn htk hm) I.kIn J e (fun z=>nomatch z) h
end
end L2
namespace L2
open PySem PySem.Spec PyProof.Rows
structure Room (k:Nat) (A:Around):Prop where
 hd:A.handled = none
 dp:A.depth + 3 * k + 5 < recursionLimit
 un:A.units + 16 * k + 200 < cLine
theorem Room.mono {j k:Nat} {A:Around} (r:Room k A) (h:j ≤ k):Room j A:=⟨r.hd,by have:=r.dp; omega,by have:=r.un; omega⟩
theorem Room.deeper {k:Nat} {A:Around} (r:Room (k + 1) A) (env:Env):Room k (A.deeper env) :=
 ⟨r.hd,by have:=r.dp; show A.depth + 1 + 3 * k + 5 < _; omega,by have:=r.un; show A.units + 3 + 16 * k + 200 < _; omega⟩
theorem Room.depth {k:Nat} {A:Around} (r:Room k A):A.depth < recursionLimit:=by have:=r.dp; omega
theorem Room.units {k:Nat} {A:Around} (r:Room k A):A.units + 64 < cLine:=by have:=r.un; omega
noncomputable def Z88:TA:=fun _ H Q=>Q [] H
noncomputable def Z5y (ta:TE) (tr:TA):TA:=fun σ H Q=>ta σ H fun x H1=>tr σ H1 fun xs H2=>Q (x :: xs) H2
section
variable {X:Cx} {e:Expr} {es:List Expr} {te:TE} {t:TA} {pos:Pos}
theorem Zdn:PA X [] Z88:=fun _ _ _ _ H Q I h=>Calls.spliced_nil ⟨[],H,I,.nil,h⟩
theorem Jx (ha:PE X e te) (hr:PA X es t) (hs:starEach (e :: es) X.env = (false,eval e X.env) :: starEach es X.env:=by rfl):PA X (e :: es) (Z5y te t):=by
 intro pos pins s σ H Q I h
 rw [hs]
 show wpAny _ _ (spliced ((false,eval e X.env) :: backTo pos (starEach es X.env))) _ _ s
 refine Calls.spliced_cons (thn (ha pins s σ H _ I h) fun u s1 qz9=>?_)
 obtain ⟨x,H1,I1,r1,q1⟩:=qz9
 refine thn (hr pos pins s1 σ H1 _ I1 q1) fun us s2 qz9=>?_
 obtain ⟨xs,H2,I2,r2,q2⟩:=qz9
 exact ⟨x :: xs,H2,I2,.cons r1 r2,q2⟩
noncomputable def Z9x (t:TA):TE:=fun σ H Q=>t σ H fun xs H1=>xs.length ≤ sizeLine∧∀ p,H1 p = none→Q (.ref p) (upd H1 p (.tup xs))
noncomputable def Z82 (t:TA):TE:=fun σ H Q=>t σ H fun xs H1=>xs.length ≤ sizeLine∧∀ p,H1 p = none→Q (.ref p) (upd H1 p (.lst xs))
theorem Zs3 {x1} (h:PA X es t):PE X (.Tuple es x1 pos) (Z9x t):=by
 intro pins s σ H Q I hq
 refine wpAny_Tuple_spliced (thn (h pos pins s σ H _ I hq) fun us s1 ⟨xs,H1,I1,r,z,q⟩=>⟨by rw [← r.length]; exact z,?_⟩)
 have hf:H1 s1.heap.objs.size = none:=I1.hok.fresh (Nat.le_refl _)
 refine ⟨.ref s1.heap.objs.size,upd H1 s1.heap.objs.size (.tup xs),I1.laid (t':=s1.toks) (fun b u e=>Heap.get?_push_of_some _ e) (Nat.le_refl _) ?_,rfl,q _ hf⟩
 exact ⟨z,us,r,⟨_,Heap.get?_push_size _ rfl,rfl,_,rfl⟩⟩
theorem Zz1 (h:PA X es t):PE X (.List es pos) (Z82 t):=by
 intro pins s σ H Q I hq
 refine wpAny_List_spliced (thn (h pos pins s σ H _ I hq) fun us s1 ⟨xs,H1,I1,r,z,q⟩=>⟨by rw [← r.length]; exact z,?_⟩)
 have hf:H1 s1.heap.objs.size = none:=I1.hok.fresh (Nat.le_refl _)
 refine ⟨.ref s1.heap.objs.size,upd H1 s1.heap.objs.size (.lst xs),I1.laid (t':=s1.toks) (fun b u e=>Heap.get?_push_of_some _ e) (Nat.le_refl _) ?_,rfl,q _ hf⟩
 exact ⟨z,us,0,r,Heap.get?_push_size _ rfl⟩
end
noncomputable abbrev Sp:=List V→Hp→VK→XK→Prop
noncomputable abbrev CXT:=List Env→Hp→Shared→XK→Value→Shared→Prop
structure Z3l (P:Program) (w:World) (K:PySem.W.Frag) (mg:Str→Option Value) (base:Heap) (A:Around) (outer:List Env) (s:Shared) (H:Hp):Prop where
 frames:A.frames = some outer
 mod:Mod K mg base
 bs:∀ b o,base.get? b = some o→s.heap.get? b = some o∧H b = none
 bsz:base.objs.size ≤ s.heap.objs.size
 funs:s.heap.FunFrames base outer
 frf:∀ b ∈ frs outer,H b = none
 hok:HOk P w H s.heap
 bare:AllBare s.gens
noncomputable def CE (outer:List Env) (P:Program) (w:World) (H:Hp) (s:Shared) (Q:VK) (u:Value) (s':Shared):Prop :=
 ∃ v H',s'.os = s.os∧AllBare s'.gens∧Un (frs outer) [] H H' s.heap s'.heap∧HOk P w H' s'.heap∧RelV v u∧Q v H'
noncomputable def CR (CX:CXT) (outer:List Env) (P:Program) (w:World) (H:Hp) (s:Shared) (Q:VK) (E:XK) (r:Result) (s':Shared):Prop :=
 match r with
 | .ok (.ret u)=>CE outer P w H s Q u s'
 | .ok _=>False
 | .error e=>CX outer H s E e s'
structure FnOk (P:Program) (w:World) (K:PySem.W.Frag) (mg:Str→Option Value) (base:Heap) (CX:CXT) (k:Nat) (f:Addr) (fd:FuncData) (ps:List Str) (sp:Sp):Prop where
 len:∀ vs H Q E,sp vs H Q E→vs.length = ps.length
 run:∀ (A:Around) (outer:List Env) (s:Shared) (H:Hp) (args:Args) (us:List Value) (vs:List V) (Q:VK) (E:XK),Room k A→Z3l P w K mg base A outer s H→BindsTo s fd args (ps.zip us)→Vals vs us→sp vs H Q E →
  codeAny (model P w) A (.call (.ref f) args) (CR CX outer P w H s Q E) s
theorem FnOk.imp {P:Program} {w:World} {K:PySem.W.Frag} {mg:Str→Option Value} {base:Heap} {CX:CXT} {k:Nat} {f:Addr} {fd:FuncData} {ps:List Str} {sp sp':Sp} (F:FnOk P w K mg base CX k f fd ps sp)
  (h:∀ vs H Q E,sp' vs H Q E→sp vs H Q E):FnOk P w K mg base CX k f fd ps sp' :=
 ⟨fun vs H Q E q=>F.len vs H Q E (h _ _ _ _ q),fun A outer s H args us vs Q E hr he hb hv hs=>F.run A outer s H args us vs Q E hr he hb hv (h _ _ _ _ hs)⟩
section
variable {X:Cx} {pins:List (Addr × Obj)} {σ:St} {H:Hp} {s s':Shared}
theorem Inv.env0 (I:Inv X pins σ H s):Z3l X.prog X.w X.K X.mg X.base X.A X.stack s H :=
 ⟨I.ok.frames,I.ok.mod,I.bs,Nat.le_trans I.ok.bsz I.sz,I.stack,I.stkFree,I.hok,I.bare⟩
theorem Inv.after {Q:VK} {u:Value} (I:Inv X pins σ H s) (h:CE X.stack X.prog X.w H s Q u s'):EP X pins σ Q u s':=by
 obtain ⟨v,H',os,bare,un,hok,r,q⟩:=h
 obtain ⟨hh,g,d,t,os'⟩:=s'
 obtain rfl:os' = s.os:=os
 exact ⟨v,H',I.call (h':=hh) (g':=g) (d':=d) (t':=t) (ch:=[]) un hok bare (fun b z=>absurd z (by simp)),r,q⟩
end
noncomputable def Zyy (sp:Sp) (dvs:List V) (E:XK) (t:TA):TE:=fun σ H Q=>t σ H fun vs H1=>sp (vs ++ dvs) H1 Q E
noncomputable def Binds (K:PySem.W.Frag) (fd:FuncData) (ps:List Str) (ds:List Value):Prop :=
 ∀ (s:Shared) (us:List Value),K.In s.heap→(us ++ ds).length = ps.length→BindsTo s fd ⟨us,[]⟩ (ps.zip (us ++ ds))
theorem Binds.all {K:PySem.W.Frag} {fd:FuncData} {ps:List Str} (h:∀ us:List Value,us.length = ps.length→bindArgs fd ⟨us,[]⟩ = pure (ps.zip us)):Binds K fd ps []:=fun s us _ hl=>by
 rw [List.append_nil] at hl ⊢
 exact .of_eq (h us hl)
noncomputable def Zka (CX:CXT) (X:Cx) (E:XK):Prop:=∀ (pins:List (Addr × Obj)) (σ:St) (H:Hp) (s:Shared) (e:Value) (s':Shared),Inv X pins σ H s→CX X.stack H s E e s'→X.xe e s'
section
variable {X:Cx} {CX:CXT} {k:Nat} {f C:Addr} {fd:FuncData} {ps:List Str} {sp:Sp} {dvs:List V} {ds:List Value} {E:XK} {x m:Str} {p pos apos:Pos} {e o:Expr} {es:List Expr} {ta:TE} {t:TA}
theorem Z21 {pins:List (Addr × Obj)} {σ:St} {H:Hp} {s:Shared} {Q:VK} {us:List Value} {vs:List V} (F:FnOk X.prog X.w X.K X.mg X.base CX k f fd ps sp) (hr:Room k X.A) (hb:Binds X.K fd ps ds) (hd:Vals dvs ds) (hx:Zka CX X E)
  (I:Inv X pins σ H s) (r:Vals vs us) (h:sp (vs ++ dvs) H Q E):wpAny (model X.prog X.w) X.A (call (.ref f) us) (EP X pins σ Q) X.xe s:=by
 have r2:Vals (vs ++ dvs) (us ++ ds):=r.append hd
 have hl:(us ++ ds).length = ps.length:=by rw [← r2.length]; exact F.len _ _ _ _ h
 refine wpAny_call (codeAny_mono (F.run X.A X.stack s H ⟨us,[]⟩ (us ++ ds) (vs ++ dvs) Q E hr I.env0 (hb s us I.kIn hl) r2 h) fun r s' hq=>?_)
 cases r with
 | error e=>exact hx pins σ H s e s' I hq
 | ok fl =>
  cases fl with
  | ret u=>exact I.after hq
  | next=>exact False.elim hq
  | brk=>exact False.elim hq
  | cont=>exact False.elim hq
theorem Zty (F:FnOk X.prog X.w X.K X.mg X.base CX k f fd ps sp) (hr:Room k X.A) (hg:Gl X x) (hm:X.mg x = some (.ref f)) (hk:PySem.W.keepIn X.K (.ref f) = true) (hb:Binds X.K fd ps ds) (hd:Vals dvs ds) (hx:Zka CX X E)
  (ha:PA X (e :: es) t) (hdb:(x == ("__debug__" : Str)) = false:=by decide) (he:starEach (e :: es) X.env = (false,eval e X.env) :: starEach es X.env:=by rfl) (hpl:(backTo pos (starEach es X.env)).any (·.1) = false:=by rfl) :
  PE X (.Call (.Name x p) (e :: es) [] pos) (Zyy sp dvs E t):=by
 intro pins s σ H Q I h
 refine wpAny_Call_Name_kw (Ze3 I hg hm ?_ hdb)
 refine PySem.W.callWith_K (h₀:=X.base) I.ok.mod.kin hk (thn (ha pos pins s σ H _ I h) fun us s1 qz9=>?_) he hpl
 obtain ⟨vs,H1,I1,r,q⟩:=qz9
 refine ⟨I1.kIn,?_⟩
 exact Z21 F hr hb hd hx I1 r q
structure Mk (K:PySem.W.Frag) (C f:Addr):Prop where
 makes:PySem.W.makesIn K C = true
 init:PySem.W.findIn K (.ref C) "__init__" = some (some (.ref f))
 fn:PySem.W.isFn K (.ref f) = true
 kp:PySem.W.keepIn K (.ref C) = true
end
section
variable {X:Cx} {CX:CXT} {k:Nat} {f C:Addr} {fd:FuncData} {ps ks:List Str} {sp:Sp} {E:XK} {x m:Str} {p pos apos kpos:Pos} {e o:Expr} {es:List Expr} {kws:List Keyword} {te ta:TE} {t tk:TA} {nm:Option Str}
structure Z62 (K:PySem.W.Frag) (fd:FuncData) (ps ks:List Str) (g:List Value→List Value→List Value) (gV:List V→List V→List V):Prop where
 to:∀ (s:Shared) (us ws:List Value),K.In s.heap→(g us ws).length = ps.length→BindsTo s fd ⟨us,ks.zip ws⟩ (ps.zip (g us ws))
 rel:∀ {vs:List V} {us:List Value} {zs:List V} {ws:List Value},Vals vs us→Vals zs ws→Vals (gV vs zs) (g us ws)
variable {g:List Value→List Value→List Value} {gV:List V→List V→List V}
end
structure Zw (N P:List Str) (sc:Scope):Prop where
 kind:sc.kind = .function
 co:sc.isCoroutine = false
 gen:sc.isGenerator = false
 nd:N.Nodup
 pre:N.take P.length = P
 par:∀ x ∈ P,sc.names.lookup x = some .local∨sc.names.lookup x = some .cell
 nofree:∀ y ∈ sc.names,y.2 ≠ .free
theorem Zhx {kindOf:Str→Option NameKind} {x:Str}:∀ {binds:List (Str × Value)} {m:Str→Option Value},(∀ v,(x,v) ∉ binds)→bindL kindOf binds m x = m x
 | [],_,_=>rfl
 | (n,v) :: r,m,h=>by
  unfold bindL
  rw [Zhx fun w hw=>h w (List.mem_cons_of_mem _ hw)]
  split
  ·have:x ≠ n:=by rintro rfl; exact h v List.mem_cons_self
   simp [this]
  ·rfl
theorem Zim {kindOf:Str→Option NameKind} {x:Str}:∀ {binds:List (Str × Value)} {m:Str→Option Value},(∀ v,(x,v) ∉ binds)→bindC kindOf binds m x = m x
 | [],_,_=>rfl
 | (n,v) :: r,m,h=>by
  unfold bindC
  rw [Zim fun w hw=>h w (List.mem_cons_of_mem _ hw)]
  split
  ·rfl
  ·have:x ≠ n:=by rintro rfl; exact h v List.mem_cons_self
   simp [this]
theorem Zh2 {kindOf:Str→Option NameKind} {x:Str} {v:Value}:∀ {P:List Str} {vs:List Value} {i:Nat} {m:Str→Option Value},P.Nodup→P[i]? = some x→vs[i]? = some v→kindOf x = some .local →
  bindL kindOf (P.zip vs) m x = some v
 | [],_,_,_,_,h,_,_=>by simp at h
 | _ :: _,[],_,_,_,_,h,_=>by simp at h
 | p :: P,w :: vs,0,m,nd,h1,h2,hk=>by
  simp at h1 h2; subst h1; subst h2
  show bindL kindOf ((p,w) :: P.zip vs) m p = _
  unfold bindL
  rw [Zhx fun v hv=>(List.nodup_cons.mp nd).1 (List.of_mem_zip hv).1,if_pos hk]
  simp
 | p :: P,w :: vs,i + 1,m,nd,h1,h2,hk=>by
  show bindL kindOf ((p,w) :: P.zip vs) m x = _
  unfold bindL
  exact Zh2 (i:=i) (List.nodup_cons.mp nd).2 (by simpa using h1) (by simpa using h2) hk
theorem Ziu {kindOf:Str→Option NameKind} {x:Str} {v:Value}:∀ {P:List Str} {vs:List Value} {i:Nat} {m:Str→Option Value},P.Nodup→P[i]? = some x→vs[i]? = some v→kindOf x ≠ some .local →
  bindC kindOf (P.zip vs) m x = some v
 | [],_,_,_,_,h,_,_=>by simp at h
 | _ :: _,[],_,_,_,_,h,_=>by simp at h
 | p :: P,w :: vs,0,m,nd,h1,h2,hk=>by
  simp at h1 h2; subst h1; subst h2
  show bindC kindOf ((p,w) :: P.zip vs) m p = _
  unfold bindC
  rw [Zim fun v hv=>(List.nodup_cons.mp nd).1 (List.of_mem_zip hv).1,if_neg hk]
  simp
 | p :: P,w :: vs,i + 1,m,nd,h1,h2,hk=>by
  show bindC kindOf ((p,w) :: P.zip vs) m x = _
  unfold bindC
  exact Ziu (i:=i) (List.nodup_cons.mp nd).2 (by simpa using h1) (by simpa using h2) hk
noncomputable def start (N:List Str) (vs:List V):St:=vs.map some ++ List.replicate (N.length - vs.length) none
noncomputable def Zp6 (CX:CXT) (P:Program) (w:World) (K:PySem.W.Frag) (mg:Str→Option Value) (base:Heap) (N:List Str) (qual:Str) (scope:Scope) (f:Addr) (cd:Value) (A:Around) (outer:List Env) (s:Shared) (H:Hp) (E:XK):Cx where
 prog:=P
 w:=w
 K:=K
 mg:=mg
 base:=base
 A:=A.deeper (envOfC qual scope s.heap.objs.size f cd)
 N:=N
 s₀:=s
 H₀:=H
 env:=envOfC qual scope s.heap.objs.size f cd
 outer:=outer
 stack:=envOfC qual scope s.heap.objs.size f cd :: outer
 ex:=[]
 calm:=true
 fn:=fun _=>true
 pn:=[]
 xe:=fun e s'=>wpAny (model P w) (A.deeper (envOfC qual scope s.heap.objs.size f cd)) (leaving (envOfC qual scope s.heap.objs.size f cd) e) (fun _ s''=>CX outer H s E e s'') (fun e' s''=>CX outer H s E e' s'') s'
theorem Zky {sc:Scope} {n:Nat} {x:Str} (h:sc.names.lookup x = some .cell):∃ c,(cellsFrom n sc.names []).lookup x = some c:=by
 have q:=PySem.W.cellsFrom_some sc.names n [] (.inl h)
 exact Option.isSome_iff_exists.mp q
theorem Zoh {CX:CXT} {P:Program} {w:World} {K:PySem.W.Frag} {mg:Str→Option Value} {base:Heap} {N ps:List Str} {qual:Str} {scope:Scope} {f:Addr} {cd:Value} {A:Around} {outer:List Env} {s s1:Shared} {H:Hp} {E:XK} {us:List Value} {vs:List V}
  (S:Zw N ps scope) (hd:A.handled = none) (e0:Z3l P w K mg base A outer s H) (hl:vs.length = ps.length) (r:Vals vs us)
  (x:InCallC s s.heap.objs.size (bindL (envOfC qual scope s.heap.objs.size f cd).kindOf (ps.zip us) fun _=>none) (cellsFrom (s.heap.objs.size + 1) scope.names []) (bindC (envOfC qual scope s.heap.objs.size f cd).kindOf (ps.zip us) fun _=>none) s1) :
  Inv (Zp6 CX P w K mg base N qual scope f cd A outer s H E) [] (start N vs) H s1:=by
 have hpl:ps.length ≤ N.length:=by have:=congrArg List.length S.pre; rw [List.length_take] at this; omega
 obtain ⟨h1,tk,rfl,hk⟩:=x.done
 have noA:∀ b:Addr,b ∉ (Zp6 CX P w K mg base N qual scope f cd A outer s H E).ex:=fun b z=>absurd (show b ∈ ([]:List Addr) from z) (by simp)
 refine ⟨⟨e0.mod,S.kind,rfl,rfl,Nat.le_refl _,fun y z c h1 h2=>?_,fun y hy=>?_,fun y c _ h=>?_,fun _=>hd,Around.frames_deeper e0.frames,.inr ⟨rfl,rfl⟩,fun b z=>absurd z (noA b),e0.bs,e0.bsz,fun b _ _=>noA b,fun b z=>absurd z (noA b),e0.funs,e0.frf⟩,
  rfl,e0.bare,Un.kept hk,⟨_,x.toInCall.ns,fun i y v h1 h2 h3=>?_⟩,fun y c h=>⟨_,x.cell y c h⟩,e0.hok.fresh (Nat.le_refl _),fun y c h=>?_,fun p hp=>absurd (show p ∈ ([]:List (Addr × Obj)) from hp) (by simp),e0.hok.kept hk,?_⟩
 ·exact name_of_addr x.apart (PySem.mem_of_lookup h1) (PySem.mem_of_lookup h2)
 ·have hy:scope.names.lookup y = some .cell∨scope.names.lookup y = some .free:=hy
  rcases hy with hy | hy
  ·exact Zky hy
  ·exact absurd rfl (S.nofree _ (PySem.mem_of_lookup hy))
 ·exact Nat.le_of_lt (x.above y c (PySem.mem_of_lookup h))
 ·have hi:i < vs.length:=by
   unfold start at h2
   by_cases hi:i < vs.length
   ·exact hi
   ·rw [List.getElem?_append_right (by simpa using hi)] at h2
    rw [List.getElem?_replicate] at h2
    split at h2 <;> cases h2
  have ha:vs[i]? = some v:=by
   unfold start at h2
   rw [List.getElem?_append_left (by simpa using hi),List.getElem?_map] at h2
   cases e:vs[i]? with
   | none=>rw [e] at h2; cases h2
   | some a=>rw [e] at h2; cases h2; rfl
  obtain ⟨u,hu,rv⟩:=r.get ha
  have hp:ps[i]? = some y:=by
   rw [← S.pre,List.getElem?_take_of_lt (by omega)]; exact h1
  have ndP:ps.Nodup:=by rw [← S.pre]; exact S.nd.sublist (List.take_sublist _ _)
  refine ⟨u,rv,?_⟩
  rcases S.par y (List.mem_of_getElem? hp) with k | k
  ·exact .inl ⟨k,Zh2 ndP hp hu k⟩
  ·obtain ⟨c,e⟩:=Zky (n:=s.heap.objs.size + 1) k
   refine .inr ⟨.inl k,c,e,?_⟩
   have q:=x.cell y c e
   rw [Ziu ndP hp hu (by show scope.names.lookup y ≠ _; rw [k]; decide)] at q
   exact q
 ·exact e0.hok.fresh (Nat.le_of_lt (x.above y c (PySem.mem_of_lookup h)))
 ·unfold start
  show _ = N.length
  rw [List.length_append,List.length_map,List.length_replicate]
  omega
theorem Zzu {CX:CXT} {P:Program} {w:World} {K:PySem.W.Frag} {mg:Str→Option Value} {base:Heap} {k:Nat} {f:Addr} {name qual:Str} {params:Arguments} {body:List Stmt} {scope:Scope} {dV kV doc pm cdv ct oc:Value} {an od:Option Addr}
  {osl:Array (Option Value)} {N ps:List Str} {sp:Sp} (lk:K.lookup f = some ⟨oc,od,.func (PySem.W.fnOf name qual params body scope dV kV doc pm an cdv ct),osl⟩) (hcd:PySem.W.codeIn K cdv qual = true) (S:Zw N ps scope)
  (len:∀ vs H Q E,sp vs H Q E→vs.length = ps.length)
  (hbody:∀ (A:Around) (outer:List Env) (s:Shared) (H:Hp) (vs:List V) (Q:VK) (E:XK),Room k (A.deeper (envOfC qual scope s.heap.objs.size f cdv))→sp vs H Q E →
   ∃ t,PSs (Zp6 CX P w K mg base N qual scope f cdv A outer s H E) body t∧t { nx:=fun _ H'=>Q .non H',rt:=Q } (start N vs) H) :
  FnOk P w K mg base CX (k + 1) f (PySem.W.fnOf name qual params body scope dV kV doc pm an cdv ct) ps sp:=by
 refine ⟨len,fun A outer s H args us vs Q E hr e0 hb r hsp=>?_⟩
 have hl:=len _ _ _ _ hsp
 have KX:K.In s.heap:=e0.mod.kin.keeps fun b o e=>(e0.bs b o e).1
 have lim:s.heap.NoLimit:=e0.mod.nolimit.keeps fun b o e=>(e0.bs b o e).1
 have hkind:∀ y ∈ ps.zip us,scope.names.lookup y.1 = some .local∨(scope.names.lookup y.1 = some .cell∧((cellsFrom (s.heap.objs.size + 1) scope.names []).lookup y.1).isSome = true):=fun ⟨n,v⟩ hy=>by
  rcases S.par n (List.of_mem_zip hy).1 with q | q
  ·exact .inl q
  ·exact .inr ⟨q,PySem.W.cellsFrom_some _ _ _ (.inl q)⟩
 refine codeAny_call_function hr.depth (KX _ _ lk) rfl S.co S.gen rfl (PySem.W.codeRec_of KX hcd) (hb _ _ _ _ ?_)
 refine wpAny_newFunctionEnv_cells S.kind hkind fun env he s1 x=>?_
 subst he
 refine ⟨lim.keeps x.toInCall.keep,codeAny_func ?_⟩
 obtain ⟨t,ht,hq⟩:=hbody A outer s H vs Q E (hr.deeper _) hsp
 have I:Inv (Zp6 CX P w K mg base N qual scope f cdv A outer s H E) [] (start N vs) H s1:=Zoh S hr.hd e0 hl r x
 refine wpAny_mono (ht [] s1 (start N vs) H _ I hq) (fun fl s' hs=>?_) fun e s' hs=>hs
 have fin:∀ {σ':St} {H':Hp} {v:V} {u:Value},Inv (Zp6 CX P w K mg base N qual scope f cdv A outer s H E) [] σ' H' s'→RelV v u→Q v H'→CE outer P w H s Q u s' :=
  fun {σ' H' v u} J rv q=>⟨v,H',J.os,J.bare,J.base,J.hok,rv,q⟩
 cases fl with
 | ret u =>
  obtain ⟨v,σ',H',J,rv,q⟩:=hs
  exact fin J rv q
 | next =>
  obtain ⟨σ',H',J,q⟩:=hs
  exact fin (v:=V.non) (u:=Value.none) J rfl q
 | brk =>
  obtain ⟨_,_,_,q⟩:=hs
  exact False.elim q
 | cont =>
  obtain ⟨_,_,_,q⟩:=hs
  exact False.elim q
end L2
namespace L2
open PySem PySem.Spec PyProof.Rows
section
variable {X:Cx} {x:Str} {p pos:Pos} {e:Expr} {es:List Expr} {t:TA} {id T:String} {r:List V→Hp→VK→Prop}
noncomputable def tCB (r:List V→Hp→VK→Prop) (t:TA):TE:=fun σ H Q=>t σ H fun vs H1=>r vs H1 Q
theorem Zgh (hc:Zcn X (.builtin id) r) (hg:Gl X x) (hm:X.mg x = none) (hv:bootBuiltins x = some (.builtin id)) (ha:PA X (e :: es) t) (hn:x ≠ "__name__" := by decide) (hdb:(x == ("__debug__" : Str)) = false:=by decide)
  (he:starEach (e :: es) X.env = (false,eval e X.env) :: starEach es X.env:=by rfl) (hpl:(backTo pos (starEach es X.env)).any (·.1) = false:=by rfl):PE X (.Call (.Name x p) (e :: es) [] pos) (tCB r t):=by
 intro pins s σ H Q I h
 refine wpAny_Call_Name_kw (Zcj I hg hm hv ?_ hn hdb)
 refine PyProof.Rows.callWith_builtin1 (thn (ha pos pins s σ H _ I h) fun us s1 qz9=>?_) he hpl
 obtain ⟨vs,H1,I1,r1,q1⟩:=qz9
 exact hc pins s1 σ H1 vs us Q I1 r1 q1
theorem Ziw (hc:Zcn X (.type T) r) (hg:Gl X x) (hm:X.mg x = none) (hv:bootBuiltins x = some (.type T)) (ha:PA X (e :: es) t) (hn:x ≠ "__name__" := by decide) (hdb:(x == ("__debug__" : Str)) = false:=by decide)
  (he:starEach (e :: es) X.env = (false,eval e X.env) :: starEach es X.env:=by rfl) (hpl:(backTo pos (starEach es X.env)).any (·.1) = false:=by rfl):PE X (.Call (.Name x p) (e :: es) [] pos) (tCB r t):=by
 intro pins s σ H Q I h
 refine wpAny_Call_Name_kw (Zcj I hg hm hv ?_ hn hdb)
 refine PyProof.Rows.callWith_type1 (thn (ha pos pins s σ H _ I h) fun us s1 qz9=>?_) he hpl
 obtain ⟨vs,H1,I1,r1,q1⟩:=qz9
 exact hc pins s1 σ H1 vs us Q I1 r1 q1
end
end L2
namespace HT
open PySem PyProof.Rows
section
open PySem.SeqAt
open PySem.AutoSeq1 (wpAny_loadPart')
open PySem.MeetsSeq PySem.MeetsSeq2 PySem.MeetsSeq3
end
section
variable {prog:Program} {w:World} {A:Around} {E:Value→Shared→Prop} {s:Shared}
noncomputable def sIx (n d:Nat):Option Int→Nat
 | none=>d
 | some v=>if v < 0 then (v + (n:Int)).toNat else min v.toNat n
theorem sIx_none (n d:Nat):sIx n d none = d:=rfl
theorem sIx_nat (n d k:Nat):sIx n d (some (k:Int)) = min k n:=by
 show (if (k:Int) < 0 then ((k:Int) + (n:Int)).toNat else min (k:Int).toNat n) = min k n
 rw [if_neg (by omega),Int.toNat_natCast]
end
end HT
namespace L2
open PySem PySem.Spec PyProof.Rows
noncomputable abbrev TO:=St→Hp→(Option Int→Hp→Prop)→Prop
noncomputable def PO (X:Cx) (e:Option Expr) (t:TO):Prop :=
 ∀ (pins:List (Addr × Obj)) (s:Shared) (σ:St) (H:Hp) (Q:Option Int→Hp→Prop),Inv X pins σ H s→t σ H Q →
  wpAny (model X.prog X.w) X.A (evalPart e X.env) (fun u s'=>∃ o H',Inv X pins σ H' s'∧IsPart u o∧Q o H') X.xe s
noncomputable def Zum:TO:=fun _ H Q=>Q none H
noncomputable def Z4z (t:TE):TO:=fun σ H Q=>t σ H fun x H1=>∃ i,x = .int i∧Q (some i) H1
section
variable {X:Cx} {e:Expr} {te:TE} {lo hi:Option Expr} {tl th:TO} {pos p2:Pos}
theorem Zwr:PO X none Zum:=by
 intro pins s σ H Q I h
 rw [evalPart_none]
 exact wpAny_pure ⟨none,H,I,.none,h⟩
theorem Zu7 (h:PE X e te):PO X (some e) (Z4z te):=by
 intro pins s σ H Q I hw
 rw [evalPart_some]
 refine thn (h pins s σ H _ I hw) fun u s1 qz9=>?_
 obtain ⟨x,H1,I1,r1,q1⟩:=qz9
 obtain ⟨i,rfl,q⟩:=q1
 obtain ⟨t,rfl⟩:=r1
 exact ⟨some i,H1,I1,.int i t,q⟩
noncomputable def SlR (X:Cx) (r:V→Option Int→Option Int→Hp→VK→Prop):Prop :=
 ∀ (pins:List (Addr × Obj)) (s:Shared) (σ:St) (H:Hp) (x:V) (v vl vu:Value) (lo hi:Option Int) (sl:Addr) (Q:VK),Inv X pins σ H s→RelV x v→s.heap.IsSliceOf sl vl vu .none→IsPart vl lo→IsPart vu hi→r x lo hi H Q →
  ∃ T id,typeLookup (.type T) "__getitem__" = pure (some (.builtin id))∧s.TypeIs v T∧wpAny (model X.prog X.w) X.A (getItem v (.ref sl)) (EP X pins σ Q) X.xe s
noncomputable def tSl (r:V→Option Int→Option Int→Hp→VK→Prop) (te:TE) (tl th:TO):TE:=fun σ H Q=>te σ H fun x H1=>tl σ H1 fun l H2=>th σ H2 fun u H3=>r x l u H3 Q
theorem Zku {r:V→Option Int→Option Int→Hp→VK→Prop} (hr:SlR X r) (he:PE X e te) (hl:PO X lo tl) (hu:PO X hi th):PE X (.Subscript e (.Slice lo hi none p2) pos) (tSl r te tl th):=by
 intro pins s σ H Q I h
 refine Subscript_ (thn (he pins s σ H _ I h) fun v s1 qz9=>?_)
 obtain ⟨x,H1,I1,r1,q1⟩:=qz9
 refine wpAny_Slice (thn (hl pins s1 σ H1 _ I1 q1) fun vl s2 qz9=>?_)
 obtain ⟨l,H2,I2,pl,q2⟩:=qz9
 refine thn (hu pins s2 σ H2 _ I2 q2) fun vu s3 qz9=>?_
 obtain ⟨u,H3,I3,pu,q3⟩:=qz9
 rw [evalPart_none]
 refine wpAny_pure ?_
 have I4:Inv X pins σ H3 { s3 with heap:=s3.heap.push { cls:=.type "slice", data:=.fields #[vl,vu,.none] } }:=I3.kept (t':=s3.toks) fun b ob q=>Heap.get?_push_of_some _ q
 obtain ⟨T,id,hT,ht,hg⟩:=hr pins { s3 with heap:=s3.heap.push { cls:=.type "slice", data:=.fields #[vl,vu,.none] } } σ H3 x v vl vu l u s3.heap.objs.size Q I4 r1 (Heap.IsSliceOf.new ..) pl pu q3
 show wpAny (model X.prog X.w) X.A (subscriptTail e (.Slice lo hi none p2) v (.ref s3.heap.objs.size)) (EP X pins σ Q) X.xe { s3 with heap:=s3.heap.push { cls:=.type "slice", data:=.fields #[vl,vu,.none] } }
 exact tail_any (ops:=[.ref s3.heap.objs.size,v]) ht hT hg (by with_unfolding_all rfl)
noncomputable def Zxt (xs:List V) (lo hi:Option Int):List V:=(xs.drop (HT.sIx xs.length 0 lo)).take (HT.sIx xs.length xs.length hi - HT.sIx xs.length 0 lo)
theorem Zje (xs:List V) (lo hi:Option Int):(Zxt xs lo hi).length ≤ xs.length:=by
 unfold Zxt
 rw [List.length_take,List.length_drop]
 omega
end
end L2
namespace L2
open PySem PySem.Spec PyProof.Rows
noncomputable def ixN (n:Nat) (i:Int):Option Nat:=if 0 ≤ i then (if i < n then some i.toNat else none) else if -(n:Int) ≤ i then some (i + n).toNat else none
noncomputable def atI {α:Type} (xs:List α) (i:Int):Option α:=(ixN xs.length i).bind fun j=>xs[j]?
theorem Zvr {n:Nat} {i:Int} {j:Nat} (h:ixN n i = some j):seqIndex? i n = some j∧j < n∧-(n:Int) ≤ i∧i < n:=by
 unfold ixN at h
 by_cases h0:0 ≤ i
 ·rw [if_pos h0] at h
  by_cases h1:i < n
  ·rw [if_pos h1] at h
   have e:i.toNat = j:=Option.some.inj h
   exact ⟨by rw [seqIndex_of h0 h1,e],by omega,by omega,h1⟩
  ·rw [if_neg h1] at h; cases h
 ·rw [if_neg h0] at h
  by_cases h1:-(n:Int) ≤ i
  ·rw [if_pos h1] at h
   have e:(i + n).toNat = j:=Option.some.inj h
   exact ⟨by rw [seqIndex_neg (by omega) h1,e],by omega,h1,by omega⟩
  ·rw [if_neg h1] at h; cases h
theorem Zjs {α:Type} {xs:List α} {i:Int} {v:α} (h:atI xs i = some v):∃ j,seqIndex? i xs.length = some j∧xs[j]? = some v∧j < xs.length∧-(xs.length:Int) ≤ i∧i < xs.length:=by
 unfold atI at h
 cases e:ixN xs.length i with
 | none=>rw [e] at h; cases h
 | some j =>
  rw [e] at h
  obtain ⟨h1,h2,h3,h4⟩:=Zvr e
  exact ⟨j,h1,h,h2,h3,h4⟩
theorem Zg5 {α:Type} {xs:List α} {j:Nat} {v:α} (h:xs[j]? = some v):atI xs (j:Int) = some v:=by
 have hj:j < xs.length:=(List.getElem?_eq_some_iff.mp h).1
 have e:ixN xs.length (j:Int) = some j:=by
  unfold ixN
  rw [if_pos (by omega),if_pos (by omega)]; simp
 unfold atI; rw [e]; exact h
noncomputable def Zgp (b:Expr):Prop:=∀ o i,subscripted b false o i = operate [o,i] (getItem o i)
noncomputable def IxR (X:Cx) (r:R2):Prop :=
 ∀ (value slice:Expr) (pins:List (Addr × Obj)) (s:Shared) (σ:St) (H:Hp) (x y:V) (v u:Value) (Q:VK),Inv X pins σ H s→RelV x v→RelV y u→r x y H Q →
  subscripted slice false v u = operate [v,u] (getItem v u)→wpAny (model X.prog X.w) X.A (subscriptTail value slice v u) (EP X pins σ Q) X.xe s
noncomputable def MtR (X:Cx) (id:String) (r:V→List V→Hp→VK→Prop):Prop :=
 ∀ (pins:List (Addr × Obj)) (s:Shared) (σ:St) (H:Hp) (x:V) (xs:List V) (v:Value) (us:List Value) (Q:VK),Inv X pins σ H s→RelV x v→Vals xs us→r x xs H Q →
  wpAny (model X.prog X.w) X.A (call (.builtin id) (v :: us)) (EP X pins σ Q) X.xe s
section
variable {X:Cx} {a b:Expr} {ta tb:TE} {pos:Pos}
theorem IxR.or {r r':R2} (h:IxR X r) (h':IxR X r'):IxR X (fun x y H Q=>r x y H Q∨r' x y H Q):=by
 intro value slice pins s σ H x y v u Q I rx ry q hs
 rcases q with q | q
 ·exact h value slice pins s σ H x y v u Q I rx ry q hs
 ·exact h' value slice pins s σ H x y v u Q I rx ry q hs
theorem Zwb {r:R2} (hr:IxR X r) (ha:PE X a ta) (hb:PE X b tb) (hs:Zgp b):PE X (.Subscript a b pos) (tOp r ta tb):=by
 intro pins s σ H Q I h
 exact Subscript_ (Z5k ha hb I h fun v u s2 x y H2 I2 rx ry q=>hr a b pins s2 σ H2 x y v u Q I2 rx ry q (hs _ _))
noncomputable def Z4h (K:PySem.W.Frag):R2:=fun x y H Q=>∃ p xs i v,x = .ref p∧y = .int i∧SqL K H p xs∧atI xs i = some v∧Q v H
noncomputable def Z76 (K:PySem.W.Frag):R2:=fun x y H Q=>∃ p xs i v,x = .ref p∧y = .int i∧SqT K H p xs∧atI xs i = some v∧Q v H
noncomputable def Z7m:R2:=fun x y H Q=>∃ z i c,x = .str z∧y = .int i∧z.length ≤ sizeLine∧atI z.cps.toList i = some c∧Q (.str ⟨#[c]⟩) H
theorem Zoc:IxR X (Z4h X.K):=by
 intro value slice pins s σ H x y v u Q I rx ry h hs
 obtain ⟨p,xs,i,z,rfl,rfl,hq,he,q⟩:=h
 cases rx
 obtain ⟨t,rfl⟩:=ry
 obtain ⟨its,r,pl,hz⟩:=I.list hq
 obtain ⟨j,h1,h2,h3,h4,h5⟩:=Zjs he
 obtain ⟨w,ew,rw'⟩:=r.get h2
 have hl:=r.length
 have hn:=Zfs
 have fin:EP X pins σ Q w s:=⟨z,H,I,rw',q⟩
 by_cases h0:0 ≤ i
 ·have hj:i.toNat = j:=by
   rw [seqIndex_of h0 h5] at h1
   exact Option.some.inj h1
  exact item_listR pl.isList h0 (by omega) (by rw [hj]; simpa using ew) fin hs
 ·have hj:(i + (its.toArray.size:Int)).toNat = j:=by
   rw [seqIndex_neg (by omega) h4] at h1
   rw [List.size_toArray,← hl]
   exact Option.some.inj h1
  exact subscriptTail_builtinR (x:=w) pl.isList.typeIs slot_list_getitem.lookup
   (wpAny_getItem_list_neg (Q:=fun r s'=>r = w∧EP X pins σ Q r s') pl.isList (by omega) (by rw [List.size_toArray] <;> omega) (by omega) (by rw [hj]; simpa using ew) ⟨rfl,fin⟩) hs
theorem Z13:IxR X (Z76 X.K):=by
 intro value slice pins s σ H x y v u Q I rx ry h hs
 obtain ⟨p,xs,i,z,rfl,rfl,hq,he,q⟩:=h
 cases rx
 obtain ⟨t,rfl⟩:=ry
 obtain ⟨its,r,pl,hz⟩:=I.tuple hq
 obtain ⟨j,h1,h2,h3,h4,h5⟩:=Zjs he
 obtain ⟨w,ew,rw'⟩:=r.get h2
 have hl:=r.length
 have hn:=Zfs
 have fin:EP X pins σ Q w s:=⟨z,H,I,rw',q⟩
 exact subscriptTail_builtinR (x:=w) pl.typeIs slot_tuple_getitem.lookup
  (getItem_tuple (j:=j) (Q:=fun r s'=>r = w∧EP X pins σ Q r s') pl (by omega) (by omega) (by rw [List.size_toArray,← hl]; exact h1) (by simpa using ew) ⟨rfl,fin⟩) hs
theorem Z2e:IxR X Z7m:=by
 intro value slice pins s σ H x y v u Q I rx ry h hs
 obtain ⟨z,i,c,rfl,rfl,hz,he,q⟩:=h
 obtain ⟨t,rfl⟩:=rx
 obtain ⟨t',rfl⟩:=ry
 obtain ⟨j,h1,h2,h3,h4,h5⟩:=Zjs he
 have hl:z.cps.toList.length = z.length:=by simp [Str.length]
 rw [hl] at h1 h4 h5
 have hn:=Zfs
 exact tail_any (typeIs_str s z t) slot_str_getitem.lookup (getItem_str (c:=c) (by
  have e1:decide (i < -(2 ^ 63:Int)) = false:=decide_eq_false (by omega)
  have e2:decide (i ≥ 2 ^ 63) = false:=decide_eq_false (by omega)
  rw [e1,e2,Bool.or_false]) (by rw [h1]; simpa using h2) ⟨.str ⟨#[c]⟩,H,I.tok _,⟨_,rfl⟩,q⟩) hs
noncomputable def rIx (K:PySem.W.Frag):R2:=fun x y H Q=>Z4h K x y H Q∨Z76 K x y H Q∨Z7m x y H Q
theorem Zym:IxR X (rIx X.K):=Zoc.or (Z13.or Z2e)
theorem Inv.lst {pins:List (Addr × Obj)} {σ:St} {H:Hp} {s:Shared} {p:Addr} {xs:List V} (I:Inv X pins σ H s) (h:H p = some (.lst xs)) :
  ∃ (its:List Value) (n:Nat),Vals xs its∧s.heap.get? p = some { cls:=.type "list", data:=.seq its.toArray n }∧xs.length ≤ sizeLine:=by
 obtain ⟨z,its,n,r,e⟩:=I.hok p _ h
 exact ⟨its,n,r,e,z⟩
theorem Zin (lo hi:Option Int) (n:Nat):(sliceBounds lo hi none n).1 = ((HT.sIx n 0 lo:Nat):Int)∧(sliceBounds lo hi none n).2.1 = ((HT.sIx n n hi:Nat):Int)∧(sliceBounds lo hi none n).2.2 = 1:=by
 refine ⟨?_,?_,rfl⟩
 ·cases lo with
  | none=>simp [sliceBounds,HT.sIx]
  | some i =>
   simp only [sliceBounds,HT.sIx,Option.getD_none,show (1:Int) > 0 by decide,if_true]
   by_cases h:i < 0
   ·simp only [h,if_true] <;> omega
   ·simp only [h,if_false] <;> omega
 ·cases hi with
  | none=>simp [sliceBounds,HT.sIx]
  | some i =>
   simp only [sliceBounds,HT.sIx,Option.getD_none,show (1:Int) > 0 by decide,if_true]
   by_cases h:i < 0
   ·simp only [h,if_true] <;> omega
   ·simp only [h,if_false] <;> omega
theorem Zhc (its:List Value) (lo hi:Option Int):slicePick its.toArray lo hi none = ((its.drop (HT.sIx its.length 0 lo)).take (HT.sIx its.length its.length hi - HT.sIx its.length 0 lo)).toArray:=by
 obtain ⟨h1,h2,h3⟩:=Zin lo hi its.toArray.size
 unfold slicePick
 rw [h1,h2,h3]
 simp only [sliceRange_one,pick_run,List.size_toArray] <;> rfl
noncomputable def Z8u (K:PySem.W.Frag):V→Option Int→Option Int→Hp→VK→Prop:=fun x lo hi H Q=>∃ a xs,x = .ref a∧SqL K H a xs∧∀ p,H p = none→Q (.ref p) (upd H p (.lst (Zxt xs lo hi)))
theorem Zul:SlR X (Z8u X.K):=by
 intro pins s σ H x v vl vu lo hi sl Q I rx hs pl pu h
 obtain ⟨a,xs,rfl,hx,q⟩:=h
 cases rx
 obtain ⟨its,r,ht,hz⟩:=I.list hx
 have hlen:=r.length
 refine ⟨"list", _,slot_list_getitem.lookup,ht.isList.typeIs,?_⟩
 refine wpAny_getItem_list_slice ht.isList hs pl pu .none (by simp) ?_ (by rw [List.size_toArray] <;> omega)
 rw [Zhc,← hlen]
 refine ⟨.ref s.heap.objs.size,_,I.laid (t':=s.toks) (o:=.lst (Zxt xs lo hi)) (fun b ob q=>Heap.get?_push_of_some _ q) (Nat.le_refl _) ?_,rfl,q _ (I.hok.fresh (Nat.le_refl _))⟩
 exact ⟨Nat.le_trans (Zje xs lo hi) hz,_,0,(r.drop (HT.sIx xs.length 0 lo)).take (HT.sIx xs.length xs.length hi - HT.sIx xs.length 0 lo),Heap.get?_push_size _ rfl⟩
noncomputable def Zer:V→Bool
 | .non=>true
 | .bl _=>true
 | .int _=>true
 | .str _=>true
 | _=>false
noncomputable def eqV:V→V→Bool
 | .non,.non=>true
 | .bl a,.bl b=>a == b
 | .bl a,.int b=>(if a then 1 else 0) == b
 | .int a,.bl b=>a == (if b then 1 else 0)
 | .int a,.int b=>a == b
 | .str a,.str b=>a == b
 | _,_=>false
theorem Z1b {A:Around} {s:Shared} {y x:V} {u v:Value} (ry:RelV y u) (rx:RelV x v) (fy:Zer y = true) (fx:Zer x = true):SeqAt.EqAt A s u v (eqV y x):=by
 cases y with
 | non =>
  cases ry
  cases x with
  | non=>cases rx; exact SeqAt.EqAt.same _
  | bl b=>cases rx; exact SeqAt.EqAt.none_bool b
  | int b=>obtain ⟨t,rfl⟩:=rx; exact SeqAt.EqAt.none_int b t
  | str b=>obtain ⟨t,rfl⟩:=rx; exact SeqAt.EqAt.none_str b t
  | _=>exact absurd (show false = true from fx) Bool.false_ne_true
 | bl a =>
  cases ry
  cases x with
  | non=>cases rx; exact SeqAt.EqAt.bool_none a
  | bl b=>cases rx; exact SeqAt.EqAt.bool_bool a b
  | int b=>obtain ⟨t,rfl⟩:=rx; exact SeqAt.EqAt.bool_int a b t
  | str b=>obtain ⟨t,rfl⟩:=rx; exact SeqAt.EqAt.bool_str a b t
  | _=>exact absurd (show false = true from fx) Bool.false_ne_true
 | int a =>
  obtain ⟨t',rfl⟩:=ry
  cases x with
  | non=>cases rx; exact SeqAt.EqAt.int_none a t'
  | bl b=>cases rx; exact SeqAt.EqAt.int_bool a t' b
  | int b=>obtain ⟨t,rfl⟩:=rx; exact SeqAt.EqAt.int_int a t' b t
  | str b=>obtain ⟨t,rfl⟩:=rx; exact SeqAt.EqAt.int_str a t' b t
  | _=>exact absurd (show false = true from fx) Bool.false_ne_true
 | str a =>
  obtain ⟨t',rfl⟩:=ry
  cases x with
  | non=>cases rx; exact SeqAt.EqAt.str_none a t'
  | bl b=>cases rx; exact SeqAt.EqAt.str_bool a t' b
  | int b=>obtain ⟨t,rfl⟩:=rx; exact SeqAt.EqAt.str_int a t' b t
  | str b=>obtain ⟨t,rfl⟩:=rx; exact SeqAt.EqAt.str_str a t' b t
  | _=>exact absurd (show false = true from fx) Bool.false_ne_true
 | _=>exact absurd (show false = true from fy) Bool.false_ne_true
noncomputable def eqU (x:V) (u:Value):Bool:=match u with
 | .none=>eqV .non x
 | .bool b=>eqV (.bl b) x
 | .int i _=>eqV (.int i) x
 | .str z _=>eqV (.str z) x
 | _=>false
theorem Zte {x y:V} {u:Value} (r:RelV y u) (f:Zer y = true):eqU x u = eqV y x:=by
 cases y with
 | non=>cases r; rfl
 | bl b=>cases r; rfl
 | int i=>obtain ⟨t,rfl⟩:=r; rfl
 | str z=>obtain ⟨t,rfl⟩:=r; rfl
 | _=>exact absurd (show false = true from f) Bool.false_ne_true
theorem Zgk {x:V} {xs:List V} {us:List Value} (h:Vals xs us) (f:xs.all Zer = true):us.any (eqU x) = xs.any fun y=>eqV y x:=by
 induction h with
 | nil=>rfl
 | cons r t ih =>
  rw [List.all_cons,Bool.and_eq_true] at f
  rw [List.any_cons,List.any_cons,Zte r f.1,ih f.2]
theorem Zd4 {A:Around} {s:Shared} {x:V} {v:Value} (rx:RelV x v) (fx:Zer x = true) {xs:List V} {us:List Value} (h:Vals xs us) (f:xs.all Zer = true):∀ u ∈ us,SeqAt.EqAt A s u v (eqU x u):=by
 induction h with
 | nil=>intro u hu; cases hu
 | cons r t ih =>
  intro u' hu
  rw [List.all_cons,Bool.and_eq_true] at f
  rcases List.mem_cons.mp hu with rfl | hu
  ·rw [Zte r f.1]; exact Z1b r rx f.1 fx
  ·exact ih f.2 u' hu
noncomputable def inV (x:V) (xs:List V):Bool:=xs.any fun y=>eqV y x
noncomputable def rIn (K:PySem.W.Frag) (neg:Bool):R2:=fun x y H Q=>∃ p xs,y = .ref p∧(SqL K H p xs∨SqT K H p xs)∧Zer x = true∧xs.all Zer = true∧Q (.bl (if neg then !inV x xs else inV x xs)) H
theorem Zoy:OpR X (compareOp .In) (rIn X.K false):=by
 intro pins s σ H x y v u Q I rx ry h
 obtain ⟨p,xs,rfl,hq,fx,fs,q⟩:=h
 cases ry
 rcases hq with hq | hq
 ·obtain ⟨its,r,pl,hz⟩:=I.list hq
  refine SeqAt.in_listAt (eqU x) pl.isList (fun w hw=>Zd4 rx fx r fs w (by simpa using hw)) ⟨.bl _,H,I,rfl,?_⟩
  rw [show its.toArray.any (eqU x) = its.any (eqU x) by simp,Zgk r fs]
  exact q
 ·obtain ⟨its,r,pl,hz⟩:=I.tuple hq
  refine SeqAt.in_tupleAt (eqU x) pl (fun w hw=>Zd4 rx fx r fs w (by simpa using hw)) ⟨.bl _,H,I,rfl,?_⟩
  rw [show its.toArray.any (eqU x) = its.any (eqU x) by simp,Zgk r fs]
  exact q
theorem Zih:OpR X (compareOp .NotIn) (rIn X.K true):=by
 intro pins s σ H x y v u Q I rx ry h
 obtain ⟨p,xs,rfl,hq,fx,fs,q⟩:=h
 cases ry
 rcases hq with hq | hq
 ·obtain ⟨its,r,pl,hz⟩:=I.list hq
  refine SeqAt.notIn_listAt (eqU x) pl.isList (fun w hw=>Zd4 rx fx r fs w (by simpa using hw)) ⟨.bl _,H,I,rfl,?_⟩
  rw [show its.toArray.any (eqU x) = its.any (eqU x) by simp,Zgk r fs]
  exact q
 ·obtain ⟨its,r,pl,hz⟩:=I.tuple hq
  refine SeqAt.notIn_tupleAt (eqU x) pl (fun w hw=>Zd4 rx fx r fs w (by simpa using hw)) ⟨.bl _,H,I,rfl,?_⟩
  rw [show its.toArray.any (eqU x) = its.any (eqU x) by simp,Zgk r fs]
  exact q
theorem Zhv:Zcn X (.builtin "len") (fun xs H Q=>∃ p ys,xs = [.ref p]∧(SqL X.K H p ys∨SqT X.K H p ys)∧Q (.int ys.length) H):=by
 intro pins s σ H xs us Q I r h
 obtain ⟨p,ys,rfl,hq,q⟩:=h
 obtain ⟨u,rfl,rx⟩:=vals1 r
 cases rx
 have hn:=Zfs
 rcases hq with hq | hq
 ·obtain ⟨its,r',pl,hz⟩:=I.list hq
  have hlen:=r'.length
  exact Calls.call_len_list pl.isList (by simp only [List.size_toArray] <;> omega) ⟨.int ys.length,H,I.tok _,⟨s.toks + 1,by rw [List.size_toArray,hlen]⟩,q⟩
 ·obtain ⟨its,r',pl,hz⟩:=I.tuple hq
  have hlen:=r'.length
  exact len_tuple pl (by simp only [List.size_toArray] <;> omega) ⟨.int ys.length,H,I.tok _,⟨s.toks + 1,by rw [List.size_toArray,hlen]⟩,q⟩
theorem Jc:Zcn X (.builtin "len") (fun xs H Q=>∃ z,xs = [.str z]∧z.length ≤ sizeLine∧Q (.int z.length) H):=by
 intro pins s σ H xs us Q I r h
 obtain ⟨z,rfl,hz,q⟩:=h
 obtain ⟨u,rfl,t,rfl⟩:=vals1 r
 have hn:=Zfs
 exact len_str (by omega) ⟨.int z.length,H,I.tok _,⟨_,rfl⟩,q⟩
theorem Zhn:Zcn X (.type "list") (fun xs H Q=>∃ p ys,xs = [.ref p]∧(SqL X.K H p ys∨SqT X.K H p ys)∧∀ l,H l = none→Q (.ref l) (upd H l (.lst ys))):=by
 intro pins s σ H xs us Q I r h
 obtain ⟨p,ys,rfl,hq,q⟩:=h
 obtain ⟨u,rfl,rx⟩:=vals1 r
 cases rx
 have fin:∀ (its:List Value),Vals ys its→ys.length ≤ sizeLine→∀ (h':Heap) (c':Nat),(∀ b o',s.heap.get? b = some o'→h'.get? b = some o') →
   h'.get? s.heap.objs.size = some { cls:=.type "list", dict:=none,data:=.seq its.toArray c',slots:=#[] }→EP X pins σ Q (.ref s.heap.objs.size) { s with heap:=h' }:=fun its r' hz h' c' kp e =>
  ⟨.ref s.heap.objs.size,_,I.laid (t':=s.toks) kp (Nat.le_refl _) (show ObjOk X.prog X.w _ h' _ (.lst ys) from ⟨hz,its,c',r',e⟩),rfl,q _ (I.hok.fresh (Nat.le_refl _))⟩
 rcases hq with hq | hq
 ·obtain ⟨its,r',pl,hz⟩:=I.list hq
  have hlen:=r'.length
  obtain ⟨o,ho,hc,n,hd⟩:=pl.isList
  exact call_list_seq p (.inl rfl) ho hc hd (fun h' c' kp e=>fin its r' hz h' c' kp e) (by simp only [List.size_toArray] <;> omega)
 ·obtain ⟨its,r',pl,hz⟩:=I.tuple hq
  have hlen:=r'.length
  obtain ⟨o,ho,hc,n,hd⟩:=pl
  exact call_list_seq p (.inr rfl) ho hc hd (fun h' c' kp e=>fin its r' hz h' c' kp e) (by simp only [List.size_toArray] <;> omega)
noncomputable def tyV (K:PySem.W.Frag) (T:String) (x:V) (H:Hp):Prop:=match x with
 | .str _=>T = "str"
 | .int _=>T = "int"
 | .ref p=>(T = "list" ∧ ∃ xs,SqL K H p xs)∨(T = "tuple" ∧ ∃ o,K.lookup p = some o∧o.cls = .type "tuple" ∧ o.dict = none) ∨
   (T = "dict" ∧ ((∃ kvs,H p = some (.dK kvs))∨∃ kvs,H p = some (.dT kvs)))∨(T = "set" ∧ ∃ S n,H p = some (.set S n))
 | _=>False
theorem Z2w {pins:List (Addr × Obj)} {σ:St} {H:Hp} {s:Shared} {T:String} {x:V} {v:Value} (I:Inv X pins σ H s) (r:RelV x v) (ty:tyV X.K T x H) :
  s.TypeIs v T∧∀ a,v = .ref a→∃ ob,s.heap.get? a = some ob∧ob.dict = none:=by
 cases x with
 | str z =>
  obtain ⟨t,rfl⟩:=r
  cases (show T = "str" from ty)
  exact ⟨typeIs_str s z t,fun _ e=>nomatch e⟩
 | int i =>
  obtain ⟨t,rfl⟩:=r
  cases (show T = "int" from ty)
  exact ⟨typeIs_int s i t,fun _ e=>nomatch e⟩
 | ref p =>
  cases r
  rcases ty with ⟨rfl,xs,hq⟩ | ⟨rfl,o,hk,hc,hd⟩ | ⟨rfl,hk⟩ | ⟨rfl,S,n,hk⟩
  ·obtain ⟨its,_,pl,_⟩:=I.list hq
   refine ⟨pl.isList.typeIs,fun a e=>?_⟩
   cases e
   obtain ⟨o,n,e,c,hd,_⟩:=pl
   exact ⟨o,e,hd⟩
  ·refine ⟨⟨o,I.kIn p o hk,hc⟩,fun a e=>?_⟩
   cases e
   exact ⟨o,I.kIn _ o hk,hd⟩
  ·have z:∃ o,s.heap.get? p = some o∧o.ExactDict:=by
    rcases hk with ⟨kvs,hk⟩ | ⟨kvs,hk⟩
    ·obtain ⟨_,_,_,_,o,_,_,e,ex,_⟩:=I.hok p _ hk
     exact ⟨o,e,ex⟩
    ·obtain ⟨_,_,_,_,o,_,_,e,ex,_⟩:=I.hok p _ hk
     exact ⟨o,e,ex⟩
   obtain ⟨o,e,ex⟩:=z
   refine ⟨⟨o,e,ex.1⟩,fun a e2=>?_⟩
   cases e2
   exact ⟨o,e,ex.2.1⟩
  ·obtain ⟨o,_,_,_,e,ex,_⟩:=I.hok p _ hk
   refine ⟨⟨o,e,ex.1⟩,fun a e2=>?_⟩
   cases e2
   exact ⟨o,e,ex.2.1⟩
 | _=>exact False.elim ty
noncomputable def tBM (K:PySem.W.Frag) (T:String) (r:V→List V→Hp→VK→Prop) (to:TE) (t:TA):TE:=fun σ H Q=>to σ H fun x H1=>tyV K T x H1∧t σ H1 fun xs H2=>r x xs H2 Q
variable {o e:Expr} {es:List Expr} {to:TE} {t:TA} {name:Str} {apos cpos:Pos} {T id:String} {r:V→List V→Hp→VK→Prop}
theorem Zmb (pa:PlainAttrs T) (slot:Slot T name id) (hty:typeOf (.builtin id) = pure (.type "method_descriptor")) (hm:MtR X id r) (ho:PE X o to) (ha:PA X (e :: es) t)
  (hbase:attributeBase o name X.env (eval o X.env) = eval o X.env:=by rfl)
  (hfew:((backTo cpos (starEach (e :: es) X.env)).all (fun x=>!x.1) && (backToKw cpos (keywordEach [] X.env)).all (fun x=>x.1.isSome)
   && decide ((e :: es).length + ([]:List Keyword).length + (if ([]:List Keyword).isEmpty then 0 else 1) < 30)) = true:=by rfl)
  (hline:(apos.endLine == cpos.line) = true:=by rfl) (hs:starEach (e :: es) X.env = (false,eval e X.env) :: starEach es X.env:=by rfl) (hplain:(backTo cpos (starEach es X.env)).any (·.1) = false:=by rfl) :
  PE X (.Call (.Attribute o name apos) (e :: es) [] cpos) (tBM X.K T r to t):=by
 intro pins s σ H Q I h
 refine wpAny_Call_method_late hbase hfew hline rfl (thn (ho pins s σ H _ I h) fun v s1 qz9=>?_)
 obtain ⟨x,H1,I1,r1,ty,q1⟩:=qz9
 obtain ⟨h1,h2⟩:=Z2w I1 r1 ty
 refine ⟨T,id,pa,slot,hty,h1,h2,?_⟩
 have hA:=ha cpos pins s1 σ H1 _ I1 q1
 rw [hs] at hA ⊢
 refine Calls.callWith_builtin (by show (false || (backTo cpos (starEach es X.env)).any (·.1)) = false; rw [hplain] <;> rfl) (Calls.evalArgs_plain ?_)
 refine thn hA fun us s2 qz9=>?_
 obtain ⟨vs,H2,I2,r2,q2⟩:=qz9
 exact hm pins s2 σ H2 x vs v us Q I2 r1 r2 q2
end
end L2
namespace L2
open PySem PySem.Spec PyProof.Rows
noncomputable def MtM (X:Cx) (id:String) (r:V→List V→Hp→VK→Prop):Prop :=
 ∀ (pins:List (Addr × Obj)) (s:Shared) (σ:St) (H:Hp) (x:V) (xs:List V) (v:Value) (us:List Value) (Q:VK),Inv X pins σ H s→RelV x v→Vals xs us→r x xs H Q →
  wpAny (model X.prog X.w) X.A (call (.builtin id) (v :: us)) (EP X pins σ Q) X.xe s
theorem Vals.one {x:V} {us:List Value} (h:Vals [x] us):∃ u,us = [u]∧RelV x u:=by
 cases h with
 | cons r t=>cases t; exact ⟨_,rfl,r⟩
theorem Vals.zero:∀ {us:List Value},Vals [] us→us = []
 | _,.nil=>rfl
section
variable {X:Cx} {pins:List (Addr × Obj)} {σ:St} {H:Hp} {s:Shared} {l b:Addr} {xs ys zs:List V}
theorem Inv.lset {its its':List Value} {n:Nat} {f:Array Value→Array Value} {t':Nat} (I:Inv X pins σ H s) (hH:H l = some (.lst xs))
  (e:s.heap.get? l = some { cls:=.type "list", data:=.seq its.toArray n }) (hf:f its.toArray = its'.toArray) (hv:Vals ys its') (hz:ys.length ≤ sizeLine) :
  Inv X pins σ (upd H l (.lst ys)) { s with heap:=s.heap.update l (Obj.mapSeq f),toks:=t' }:=by
 have q:=PySem.IsL.update e f
 rw [hf] at q
 refine I.write (x:=l) (e:=l) (by rw [hH]; exact trivial) (.inl rfl) (fun b' u hb hu=>(Heap.get?_update_other s.heap (Obj.mapSeq f) (Ne.symm hb)).trans hu) ⟨_,q⟩ ?_
 exact ⟨hz,its',_,hv,q⟩
theorem Inv.lnew {its:List Value} {t':Nat} (I:Inv X pins σ H s) (hv:Vals ys its) (hz:ys.length ≤ sizeLine) :
  Inv X pins σ (upd H s.heap.objs.size (.lst ys)) { s with heap:=s.heap.push { cls:=.type "list", data:=.seq its.toArray },toks:=t' } :=
 I.laid (fun _ _ q=>Heap.get?_push_of_some _ q) (Nat.le_refl _) ⟨hz,its,0,hv,Heap.get?_push_size _ rfl⟩
theorem Inv.fresh (I:Inv X pins σ H s):H s.heap.objs.size = none:=I.hok.fresh (Nat.le_refl _)
theorem Inv.lstM (I:Inv X pins σ H s) (hH:H l = some (.lst xs)):xs.length ≤ sizeLine∧∃ (its:List Value) (n:Nat),Vals xs its∧xs.length = its.length∧s.heap.get? l = some { cls:=.type "list", data:=.seq its.toArray n }:=by
 obtain ⟨z,its,n,r,e⟩:=I.hok l _ hH
 exact ⟨z,its,n,r,r.length,e⟩
theorem Zr3 {n:Nat} (h:n ≤ sizeLine):Builtin.List.listTooLong n = false:=by
 unfold Builtin.List.listTooLong
 exact decide_eq_false (by omega)
end
section
variable {X:Cx}
noncomputable def Zwi:V→List V→Hp→VK→Prop:=fun x vs H Q=>∃ l xs y,x = .ref l∧vs = [y]∧H l = some (.lst xs)∧xs.length < sizeLine∧Q .non (upd H l (.lst (xs ++ [y])))
theorem Zck:MtM X "list.append" Zwi:=by
 intro pins s σ H x vs v us Q I rx rv h
 obtain ⟨l,xs,y,rfl,rfl,hH,hz,q⟩:=h
 cases rx
 obtain ⟨u,rfl,ru⟩:=rv.one
 obtain ⟨z,its,n,r,hl,e⟩:=I.lstM hH
 refine call_meets F.slot_list_append ⟨_,e,rfl⟩ F.entry_list_append (F.args_list_append_2 _ _) (PySem.list_append l its.toArray n u (by rw [List.size_toArray]; omega)) ⟨e,?_⟩
 refine ⟨.non,_,I.lset (its':=its ++ [u]) hH e (by simp) (r.append (.cons ru .nil)) ?_,rfl,q⟩
 rw [List.length_append,List.length_singleton]
 omega
noncomputable def Zxo:V→List V→Hp→VK→Prop:=fun x vs H Q=>∃ l b xs zs,x = .ref l∧vs = [.ref b]∧H l = some (.lst xs)∧H b = some (.lst zs)∧xs.length + zs.length ≤ sizeLine∧Q .non (upd H l (.lst (xs ++ zs)))
theorem Zph:MtM X "list.extend" Zxo:=by
 intro pins s σ H x vs v us Q I rx rv h
 obtain ⟨l,b,xs,zs,rfl,rfl,hH,hB,hz,q⟩:=h
 cases rx
 obtain ⟨u,rfl,ru⟩:=rv.one
 cases ru
 obtain ⟨z,its,n,r,hl,e⟩:=I.lstM hH
 obtain ⟨z2,its2,n2,r2,hl2,e2⟩:=I.lstM hB
 have hsz:its.toArray.size + its2.toArray.size ≤ sizeLine:=by rw [List.size_toArray,List.size_toArray]; omega
 have hlong:¬ (!its.toArray.isEmpty && Builtin.List.listTooLong (its.toArray.size + its2.toArray.size)) = true:=by
  rw [Zr3 hsz,Bool.and_false]
  exact Bool.false_ne_true
 refine call_meets F.slot_list_extend ⟨_,e,rfl⟩ F.entry_list_extend (F.args_list_extend_2 _ _)
  (AutoSeq1.list_extend_list_list_0 l its.toArray n b its2.toArray n2 hlong (by rw [List.size_toArray]; omega) (by omega)) ⟨e,e2,?_⟩
 refine ⟨.non,_,I.lset (its':=its ++ its2) hH e (by simp) (r.append r2) ?_,rfl,q⟩
 rw [List.length_append]
 omega
end
section
variable {prog:Program} {w:World} {A:Around} {E:Value→Shared→Prop} {s:Shared}
end
section
variable {X:Cx}
end
end L2
namespace Att
open PySem PySem.W PySem.Calls PyProof.Rows
theorem Zew {P:Params} {h:Heap}:∀ (ns:List Int) (vs:List Value),WellAll P h vs (ns.map WData.int)→IntsAre vs ns:=by
 intro ns
 induction ns with
 | nil =>
  intro vs w
  rw [List.map_nil] at w
  cases w
  exact .nil
 | cons n ns ih =>
  intro vs w
  rw [List.map_cons] at w
  cases w with
  | cons a b =>
   cases a
   exact .cons _ _ (ih _ b)
theorem Znr {l:OpenLaw} {n:Nat} (hn:l.most = some n) {P:Params} {h:Heap} {args:List WData} {vals:List Value}
  (hpre:l.row.toRowW.claim.pre args = true) (hwl:WellAll P h vals args) :
  ∃ a vs ns,vals = [Value.ref a]∧args = [WData.list (ns.map WData.int)]∧h.get? a = some { cls:=.type "list", data:=.seq vs.toArray }∧IntsAre vs ns∧ns.length ≤ n:=by
 have hsh:WShape.hasAll [] args [.list .int] = true:=(pre_splitW hpre).1
 have hc:l.pre.holds [] { args:=args } = true:=(pre_splitW hpre).2
 obtain ⟨d,r,rfl,h1,h2⟩:=hasAllW_cons hsh
 obtain rfl:=hasAllW_nil h2
 obtain ⟨xs,rfl,h3⟩:=hasW_list h1
 obtain ⟨ns,rfl⟩:=items_int h3
 have hlen:ns.length ≤ n:=by
  unfold OpenLaw.pre at hc
  have h4:(WTm.not (.lt (.lit (.int (n:Int))) (.len (.arg 0)))).holds [] { args:=[.list (ns.map .int)] } = true:=by
   have h4:=(holds_andW hc).1
   rw [hn] at h4
   exact h4
  have h5:=condW_of h4 (w_not (w_lt w_lit (w_len_list (w_arg rfl))))
  rw [List.length_map] at h5
  refine Nat.le_of_not_lt fun q=>?_
  have q':(n:Int) < ((ns.length:Nat):Int):=by omega
  first
   | (rw [decide_eq_true q'] at h5; exact absurd h5 (by decide))
   | (simp at h5; omega)
 cases hwl with
 | cons w1 w2 =>
  cases w2
  cases w1 with
  | list ho hall=>exact ⟨_,_,ns,rfl,rfl,ho,Zew ns _ hall,hlen⟩
theorem Zpb (l:OpenLaw) (args:List WData):l.row.toRowW.claim.post args (.bool true) args = true :=
 postW_of (r:=l.row.toRowW) (X:=(true == true))
  (show WShape.has [] (.bool true) .bool = true by first | rfl | decide | simp [WShape.has,WShape.arms,WShape.armsAll])
  (show (WTm.eq .res (.lit (.bool true))).value [] { args:=args,res:=some (.bool true),after:=args } = some (.bool (true == true)) from w_eq_bool (w_res rfl) w_lit) rfl
theorem attach_call {l:OpenLaw} {n:Nat} {q:Program} {loose:List Str} {XP:(Str→Option Value)→Heap→Prop} {YP:World→Heap→Prop} {d:DefRec}
  (hn:l.most = some n) (hdf:d.params.defaults = [])
  (call:∀ (w:World) (s₀ s₁:Shared) (mg mb:Str→Option Value) (fa:Addr) (o:Obj) (pm cd doc:Value) (a:Addr) (vs:List Value) (ns:List Int),
   Ground q loose [] XP w s₀ mg mb s₁.heap→YP w s₁.heap →
   s₁.heap.get? fa = some o→o.data = .func (docDef d.name d.params d.body d.scope pm cd doc)→s₁.heap.CodeRec cd d.name→mg d.name = some (.ref fa) →
   s₁.heap.get? a = some { cls:=.type "list", data:=.seq vs.toArray }→IntsAre vs ns→ns.length ≤ n→s₁.gens = #[] →
   codeAny (model l.prog w) callerA (.call (.ref fa) ⟨[.ref a],[]⟩) (fun r s'=>r = .ok (.ret (.bool true))∧OldK s₁.heap s'.heap∧s'.os = s₁.os∧AllBare s'.gens) s₁) :
  WalkO q loose XP YP l.row.toRowW d [] (fun f vs=>PySem.call f vs):=by
 intro w s₀ s₁ mg mb G Y fa o pm cd doc dV kV ho hd hcd hD hmg hg args vals as hpre hlay hrd hwl hlo
 obtain rfl:dV = .none:=Dflts.none hD hdf
 obtain rfl:kV = .none:=Dflts.noKw hD
 obtain ⟨a,vs,ns,rfl,rfl,hobj,hints,hlen⟩:=Znr hn hpre hwl
 refine enter_call (codeAny_mono (call w s₀ s₁ mg mb fa o pm cd doc a vs ns G Y ho (fd_plain hd) hcd hmg hobj hints hlen hg) fun r s' hq=>?_)
 obtain ⟨rfl,h2,h3,h4⟩:=hq
 exact ⟨.inl ⟨.bool true,.bool true,[],rfl,fun _=>rfl,.bool true,Zpb l _,fun _=>⟨List.Pairwise.nil,fun _ hm=>(nomatch hm)⟩⟩,h2,h3,h4⟩
section
variable {prog:Program} {w:World} {A:Around} {E:Value→Shared→Prop} {s:Shared} {K:Frag}
end
end Att
namespace L2
open PySem PySem.Spec PyProof.Rows
theorem Zm1 {vs:List Value} {ns:List Int} (h:IntsAre vs ns):Vals (ns.map V.int) vs:=by
 induction h with
 | nil=>exact .nil
 | cons n t h ih=>exact .cons ⟨t,rfl⟩ ih
noncomputable def Only (H:Hp):Prop:=∀ b,H b = none∨∃ o xs,H b = some (.frz o (.lst xs))
theorem Zr8 {P:Program} {w:World} {K:PySem.W.Frag} {mg mb:Str→Option Value} {CX:CXT} {k:Nat} {fa a:Addr} {fd:FuncData} {x:Str} {sp:Sp} {s₁:Shared} {vs:List Value} {ns:List Int}
  (KX:K.In s₁.heap) (hns:s₁.heap.Ns mainGlobals mg) (hb:s₁.heap.Ns builtinsNs mb) (hbb:∀ x:Str,x ≠ "__name__" → mb x = bootBuiltins x) (hlim:s₁.heap.NoLimit) (hg:s₁.gens = #[])
  (ha:s₁.heap.get? a = some { cls:=.type "list", data:=.seq vs.toArray }) (hi:IntsAre vs ns) (hl:ns.length ≤ sizeLine) (hr:Room k callerA)
  (F:∀ base:Heap,K.In base→base.Ns mainGlobals mg→FnOk P w K mg base CX k fa fd [x] sp) (hbind:∀ (s:Shared) (u:Value),BindsTo s fd ⟨[u],[]⟩ [(x,u)])
  (hsp:∀ H:Hp,Only H→SqL K H a (ns.map V.int)→sp [.ref a] H (fun v _=>v = .bl true) fun _ _ _=>False)
  (hCX:∀ H e s',CX [] H s₁ (fun _ _ _=>False) e s'→False) :
  codeAny (model P w) callerA (.call (.ref fa) ⟨[.ref a],[]⟩) (fun r s'=>r = .ok (.ret (.bool true))∧OldK s₁.heap s'.heap∧s'.os = s₁.os∧AllBare s'.gens) s₁:=by
 have rv:=Zm1 hi
 have lenV:=hi.length
 -- from an abstract heap in which nothing but the script may be tracked
 have core:∀ H:Hp,Only H→SqL K H a (ns.map V.int)→HOk P w H s₁.heap→(∀ b,H b ≠ none→b = a)→(H a ≠ none→K.lookup a = none) →
   codeAny (model P w) callerA (.call (.ref fa) ⟨[.ref a],[]⟩) (fun r s'=>r = .ok (.ret (.bool true))∧OldK s₁.heap s'.heap∧s'.os = s₁.os∧AllBare s'.gens) s₁:=by
  intro H hO hS hok hA hK
  have base_of:∀ {b:Addr} {o:Obj},s₁.heap.get? b = some o→H b = none→(Zqh s₁.heap H).get? b = some o:=fun e n=>Zrh e n
  have noA:∀ {b:Addr} {o:Obj} {es:Array DictEntry} {ep:Nat},s₁.heap.get? b = some o→o.data = .dict es ep→H b = none:=fun {b o es ep} e d=>by
   cases q:H b with
   | none=>rfl
   | some u =>
    have e':b = a:=hA b (by rw [q]; simp)
    subst e'
    rw [ha] at e; cases e
    have d':Data.seq vs.toArray _ = Data.dict es ep:=d
    cases d'
  have nsK:∀ {b:Addr} {m:Str→Option Value},s₁.heap.Ns b m→(Zqh s₁.heap H).Ns b m:=fun {b m} ⟨o,es,ep,e,d,r⟩=>⟨o,es,ep,base_of e (noA e d),d,r⟩
  have hKb:K.In (Zqh s₁.heap H):=fun b o e=>base_of (KX b o e) (by
   cases q:H b with
   | none=>rfl
   | some u =>
    have e':b = a:=hA b (by rw [q]; simp)
    subst e'
    rw [hK (by rw [q]; simp)] at e; cases e)
  have hM:Mod K mg (Zqh s₁.heap H):=⟨hKb,nsK hns,⟨mb,nsK hb,hbb⟩,let ⟨mc,h1,h2⟩:=hlim; ⟨mc,nsK h1,h2⟩⟩
  have e0:Z3l P w K mg (Zqh s₁.heap H) callerA [] s₁ H:=⟨rfl,hM,fun b o e=>Zuf e,Nat.le_of_eq (Zm6 _ _),trivial,fun b hb=>absurd (show b ∈ ([]:List Addr) from hb) (by simp),hok,.of_eq hg⟩
  refine codeAny_mono ((F _ hKb (nsK hns)).run callerA [] s₁ H ⟨[.ref a],[]⟩ [.ref a] [.ref a] _ _ hr e0 (hbind s₁ (.ref a)) (.cons rfl .nil) (hsp H hO hS)) fun r s' h=>?_
  cases r with
  | error e=>exact (hCX H e s' h).elim
  | ok fl =>
   cases fl with
   | next=>exact False.elim h
   | brk=>exact False.elim h
   | cont=>exact False.elim h
   | ret u =>
    obtain ⟨v,H',os,bare,un,hok',r',q⟩:=h
    have q':v = .bl true:=q
    subst q'
    obtain rfl:u = Value.bool true:=r'
    refine ⟨rfl,OldK.of_keep fun b o e=>?_,os,bare⟩
    cases q:H b with
    | none=>exact un.keep b o e q (by intro z; exact absurd (show b ∈ ([]:List Addr) from z) (by simp)) (by simp)
    | some u =>
     rcases hO b with z | ⟨ob,xs,z⟩
     ·rw [q] at z; cases z
     ·have z2:=un.frzs b ob _ z
      obtain ⟨e1,_⟩:=hok b _ z
      obtain ⟨e2,_⟩:=hok' b _ z2
      rw [e] at e1; cases e1
      exact e2
 cases hk:K.lookup a with
 | some o =>
  -- the script is one of the module's own objects
  have e:=KX a o hk
  rw [ha] at e
  cases e
  refine core (fun _=>none) (fun _=>.inl rfl) (.inr ⟨_,vs.toArray,_,hk,rfl,rfl,rfl,by rw [List.size_toArray,lenV]; exact hl,by simpa using rv⟩) (fun b u z=>by have z':(none:Option HO) = some u:=z; cases z') (fun b z=>absurd rfl z) fun z=>absurd rfl z
 | none =>
  refine core (fun b=>if b = a then some (.frz { cls:=.type "list", data:=.seq vs.toArray } (.lst (ns.map V.int))) else none) (fun b=>?_) (.inl (.inr ⟨{ cls:=.type "list", data:=.seq vs.toArray },if_pos rfl⟩)) (fun b u z=>?_) (fun b z=>?_) fun _=>hk
  ·by_cases hb:b = a
   ·exact .inr ⟨_,_,if_pos hb⟩
   ·exact .inl (if_neg hb)
  ·by_cases hb:b = a
   ·have z':=(if_pos hb).symm.trans z
    cases z'
    subst hb
    exact ⟨ha,by rw [List.length_map]; exact hl,vs,_,rv,ha⟩
   ·have z':=(if_neg hb).symm.trans z
    cases z'
  ·by_cases hb:b = a
   ·exact hb
   ·exact absurd (if_neg hb) z
end L2
namespace L2
open PySem PySem.Spec PyProof.Rows
noncomputable abbrev KOf {K:PySem.W.Frag} {h:Heap} (_:K.In h):PySem.W.Frag:=K
theorem Zur {l:PySem.W.OpenLaw} {n k:Nat} {q:Program} {loose:List Str} {XP:(Str→Option Value)→Heap→Prop} {YP:World→Heap→Prop} {d:DefRec} {K:Params→PySem.W.Frag} {CX:World→CXT} {sp:World→Sp} {x:Str}
  (hn:l.most = some n) (hn2:n ≤ sizeLine) (hdf:d.params.defaults = []) (hr:Room k callerA)
  (hY:∀ (w:World) (h:Heap),YP w h→(K w.params).In h)
  (F:∀ (w:World) (mg:Str→Option Value) (fa:Addr) (h:Heap),(K w.params).In h→h.Ns mainGlobals mg→mg d.name = some (.ref fa) →
   ∃ fd:FuncData,(∀ (s:Shared) (u:Value),BindsTo s fd ⟨[u],[]⟩ [(x,u)]) ∧
    ∀ base:Heap,(K w.params).In base→base.Ns mainGlobals mg→FnOk l.prog w (K w.params) mg base (CX w) k fa fd [x] (sp w))
  (hsp:∀ (w:World) (H:Hp) (a:Addr) (ns:List Int),ns.length ≤ n→Only H→SqL (K w.params) H a (ns.map V.int)→sp w [.ref a] H (fun v _=>v = .bl true) fun _ _ _=>False)
  (hCX:∀ (w:World) (H:Hp) (s:Shared) (e:Value) (s':Shared),CX w [] H s (fun _ _ _=>False) e s'→False) :
  PySem.W.WalkO q loose XP YP l.row.toRowW d [] (fun f vs=>PySem.call f vs):=by
 refine Att.attach_call hn hdf fun w s₀ s₁ mg mb fa o pm cd doc a vs ns G Y ho hd hcd hmg hobj hints hlen hg=>?_
 have KX:=hY w _ Y
 obtain ⟨fd,hb,hF⟩:=F w mg fa _ KX G.T.g hmg
 exact Zr8 KX G.T.g G.T.b G.T.builtins G.T.nolimit hg hobj hints (Nat.le_trans hlen hn2) hr hF hb (fun H hO hS=>hsp w H a ns hlen hO hS) fun H e s'=>hCX w H s₁ e s'
end L2
namespace L2
open PySem PySem.Spec PyProof.Rows
noncomputable def Zx (s:Stmt):Arguments:=match s with
 | .FunctionDef _ a _ _ _ _ _ _ _ _=>a
 | _=>{ posonlyargs:=[],args:=[],vararg:=none,kwonlyargs:=[],kw_defaults:=[],kwarg:=none,defaults:=[] }
noncomputable def Zo (s:Stmt):List Stmt:=match s with
 | .FunctionDef _ _ b _ _ _ _ _ _ _=>b
 | _=>[]
noncomputable def Zg (s:Stmt):Scope:=match s with
 | .FunctionDef _ _ _ _ _ _ sc _ _ _=>sc
 | _=>{ kind:=.function,names:=[],isGenerator:=false,isCoroutine:=false }
noncomputable abbrev CX0:CXT:=fun _ _ _ _ _ _=>False
noncomputable abbrev E0:XK:=fun _ _ _=>False
theorem Z46 {X:Cx}:Zka CX0 X E0:=fun _ _ _ _ _ _ _ h=>h.elim
structure Fun (K:PySem.W.Frag) (x qual:Str) (st:Stmt) (f:Addr) (fd:FuncData):Prop where
 ex:∃ (oc:Value) (od:Option Addr) (kV doc pm:Value) (an:Option Addr) (cdv ct:Value) (osl:Array (Option Value)),
  fd = PySem.W.fnOf x qual (Zx st) (Zo st) (Zg st) .none kV doc pm an cdv ct∧K.lookup f = some ⟨oc,od,.func fd,osl⟩∧PySem.W.codeIn K cdv qual = true
 kp:PySem.W.keepIn K (.ref f) = true
section
variable {P:Program} {w:World} {K:PySem.W.Frag} {mg:Str→Option Value} {base:Heap}
theorem Fun.ok {x qual:Str} {st:Stmt} {f:Addr} {fd:FuncData} {N ps:List Str} {k:Nat} {sp:Sp} (F:Fun K x qual st f fd) (S:Zw N ps (Zg st)) (len:∀ vs H Q E,sp vs H Q E→vs.length = ps.length)
  (hbody:∀ (cdv:Value) (A:Around) (outer:List Env) (s:Shared) (H:Hp) (vs:List V) (Q:VK) (E:XK),Room k (A.deeper (envOfC qual (Zg st) s.heap.objs.size f cdv))→sp vs H Q E →
   ∃ t,PSs (Zp6 CX0 P w K mg base N qual (Zg st) f cdv A outer s H E).nox (Zo st) t∧t { nx:=fun _ H'=>Q .non H',rt:=Q } (start N vs) H):FnOk P w K mg base CX0 (k + 1) f fd ps sp:=by
 obtain ⟨oc,od,kV,doc,pm,an,cdv,ct,osl,rfl,lk,hcd⟩:=F.ex
 refine Zzu lk hcd S len fun A outer s H vs Q E hr hsp=>?_
 obtain ⟨t,h,q⟩:=hbody cdv A outer s H vs Q E hr hsp
 exact ⟨t,h.nox,q⟩
theorem Fun.binds {x qual:Str} {st:Stmt} {f:Addr} {fd:FuncData} {ps:List Str} (F:Fun K x qual st f fd)
  (h:∀ (kV doc pm:Value) (an:Option Addr) (cdv ct:Value) (us:List Value),us.length = ps.length→bindArgs (PySem.W.fnOf x qual (Zx st) (Zo st) (Zg st) .none kV doc pm an cdv ct) ⟨us,[]⟩ = pure (ps.zip us)):Binds K fd ps []:=by
 obtain ⟨oc,od,kV,doc,pm,an,cdv,ct,osl,rfl,lk,hcd⟩:=F.ex
 exact .all (h kV doc pm an cdv ct)
theorem Wg {x qual:Str} {st:Stmt} {f:Addr} {oc:Value} {od an:Option Addr} {osl:Array (Option Value)} {kV doc pm cdv ct:Value} (l:K.lookup f = some ⟨oc,od,.func (PySem.W.fnOf x qual (Zx st) (Zo st) (Zg st) .none kV doc pm an cdv ct),osl⟩)
  (c:PySem.W.codeIn K cdv qual = true) (k:PySem.W.keepIn K (.ref f) = true):Fun K x qual st f (PySem.W.fnOf x qual (Zx st) (Zo st) (Zg st) .none kV doc pm an cdv ct):=⟨⟨oc,od,kV,doc,pm,an,cdv,ct,osl,rfl,l,c⟩,k⟩
end
section
variable {X:Cx}
theorem pv (i:Nat) {x:Str} {pos:Pos} (hN:X.N[i]? = some x:=by rfl) (hv:Vis X.env.scope x:=by first | exact Or.inl rfl | exact Or.inr (Or.inl rfl) | exact Or.inr (Or.inr rfl)) (hd:(x == ("__debug__" : Str)) = false:=by decide)
  (hcd:(x == ("__classdict__" : Str)) = false:=by decide):PE X (.Name x pos) (Z7k i):=Z0f hN hv hd hcd
end
noncomputable def Same (H H':Hp):Prop:=∀ b o,H b = some o→H' b = some o
theorem Same.refl (H:Hp):Same H H:=fun _ _ h=>h
theorem Same.trans {H H1 H2:Hp} (a:Same H H1) (b:Same H1 H2):Same H H2:=fun c o h=>b c o (a c o h)
theorem Same.free {H H':Hp} (e:Same H H') {l:Addr} (h:H' l = Option.none):H l = Option.none:=by
 cases q:H l with
 | none=>rfl
 | some o =>
  rw [e l o q] at h
  cases h
theorem Same.seq {K:PySem.W.Frag} {H H':Hp} {a:Addr} {xs:List V} (e:Same H H') (h:SqL K H a xs):SqL K H' a xs:=by
 rcases h with (h | ⟨o,h⟩) | h
 ·exact .inl (.inl (e _ _ h))
 ·exact .inl (.inr ⟨o,e _ _ h⟩)
 ·exact .inr h
end L2
set_option maxHeartbeats 4000000
namespace L2
open PySem PySem.Spec PyProof.Rows
noncomputable def Bt (n:Nat) (x:Int):Prop:=x.natAbs < 2 ^ n
theorem Bt.of_lt {m:Nat} {x:Int} (h1:-(2 ^ m) < x) (h2:x < 2 ^ m):Bt m x:=by
 unfold Bt
 have e:((2 ^ m:Nat):Int) = 2 ^ m:=by simp
 omega
noncomputable def DivOk (_ j:Int):Prop:=j ≠ 0∧j.natAbs.log2 < 9000
theorem DivOk.of {i j:Int} {n:Nat} (h0:j ≠ 0) (h:Bt n j) (hn:n ≤ 9000:=by decide):DivOk i j:=by
 refine ⟨h0,?_⟩
 have hp:j.natAbs ≠ 0:=by omega
 have:=(Nat.log2_lt hp).mpr h
 omega
section
variable {X:Cx}
theorem Zud:OpR X (binaryOp .Mult) (rI IntMulOk fun i j=>.int (i * j)):=opI fun _ _ _ _ _ _ _ hc q=>mul_int q hc
theorem Zrd:OpR X (binaryOp .FloorDiv) (rI DivOk fun i j=>.int (i.fdiv j)):=opI fun _ _ _ _ _ _ _ hc q=>floordiv_int hc.1 q (.inl (PyProof.noPylong_of_log2 hc.2))
theorem Zvi:OpR X (binaryOp .Pow) (rI Z3a fun i j=>.int (i ^ j.toNat)):=Z2d
end
theorem Zfn (elt target iter:Expr) (ifs:List Expr) (scope:Scope) (pos:Pos) (it acc:Value) (env:Env) :
  compTurn (.ListComp elt [⟨target,iter,ifs,0⟩] scope pos) 0 it acc env = (standAt iter.pos >>= fun _=>pyNext it >>= fun r=>match r with
   | none=>pure (.done .next)
   | some v=>letOwnedTupleGo target it v >>= fun _=>assign target env v >>= fun _ =>
    (forIn ifs true fun c r=>if r = true then do let ok ← isTrue c env (eval c env); pure (ForInStep.yield ok) else pure (ForInStep.yield r)) >>= fun ok =>
     if ok = true then ((eval elt env >>= fun x=>call (.builtin "list.append") [acc,x] >>= fun _=>pure ()) >>= fun _ =>
      again (.compLoop (.ListComp elt [⟨target,iter,ifs,0⟩] scope pos) 0 it acc env))
     else again (.compLoop (.ListComp elt [⟨target,iter,ifs,0⟩] scope pos) 0 it acc env)):=by rfl
end L2
namespace L2
open PySem PySem.Spec PyProof.Rows
theorem Ziv {prog:Program} {w:World} {A:Around} {R:Result→Shared→Prop} {s:Shared} {elt target iter:Expr} {ifs:List Expr} {scope:Scope} {pos:Pos} {it acc:Value} {env:Env} (I:Nat→Shared→Prop)
  (turn:∀ n s,I n s→wpAny (model prog w) A (pyNext it) (fun r s₁=>match r with
   | none=>R (.ok .next) s₁
   | some v=>wpAny (model prog w) A (letOwnedTupleGo target it v) (fun _ s₁=>wpAny (model prog w) A (assign target env v) (fun _ s₂ =>
     wpAny (model prog w) A (forIn ifs true fun c r=>if r = true then do let ok ← isTrue c env (eval c env); pure (ForInStep.yield ok) else pure (ForInStep.yield r)) (fun ok s₃ =>
      if ok = true then wpAny (model prog w) A (eval elt env) (fun x s₄ =>
       wpAny (model prog w) A (call (.builtin "list.append") [acc,x]) (fun _ s₅=>∃ m,m < n∧I m s₅) (notedBy (model prog w) A env fun e s'=>R (.error e) s') s₄) (notedBy (model prog w) A env fun e s'=>R (.error e) s') s₃
      else ∃ m,m < n∧I m s₃) (notedBy (model prog w) A env fun e s'=>R (.error e) s') s₂) (notedBy (model prog w) A env fun e s'=>R (.error e) s') s₁) (notedBy (model prog w) A env fun e s'=>R (.error e) s') s₁) (notedBy (model prog w) A env fun e s'=>R (.error e) s') s)
  (n:Nat) (h:I n s) :
  codeAny (model prog w) A (.compLoop (.ListComp elt [⟨target,iter,ifs,0⟩] scope pos) 0 it acc env) R s:=by
 refine codeAny_loop rfl I (fun n s hI=>?_) n h
 show wpAny _ A ((compTurn (.ListComp elt [⟨target,iter,ifs,0⟩] scope pos) 0 it acc env).onRaise (fun x=>do noteFrame x env; theTreesLotGoes x)) _ _ s
 refine wpAny_noted ?_
 rw [Zfn]
 refine wpAny_bind (wpAny_standAt (wpAny_bind (wpAny_mono (turn n s hI) (fun r s₁ h₁=>?_) fun _ _ h'=>h')))
 cases r with
 | none=>exact wpAny_pure h₁
 | some v =>
  refine wpAny_bind (wpAny_mono h₁ (fun _ s₂ h₂=>?_) fun _ _ h'=>h')
  refine wpAny_bind (wpAny_mono h₂ (fun _ s₂ h₂=>wpAny_bind (wpAny_mono h₂ (fun ok s₃ h₃=>?_) fun _ _ h'=>h')) fun _ _ h'=>h')
  cases ok with
  | false=>exact wpAny_pure ⟨rfl,h₃⟩
  | true =>
   exact wpAny_bind (wpAny_bind (wpAny_mono h₃ (fun x s₄ h₄=>wpAny_bind (wpAny_mono h₄ (fun _ s₅ h₅=>wpAny_pure (wpAny_pure ⟨rfl,h₅⟩)) fun _ _ h'=>h')) fun _ _ h'=>h'))
noncomputable def Zfc (env:Env):List (Str × NameKind)→List (Str × Addr)→List (Str × Addr)
 | [],acc=>acc
 | (n,k) :: r,acc=>if k == .free then Zfc env r ((n,(env.cells.lookup n).getD 0) :: acc) else Zfc env r acc
theorem Zg9 {env:Env}:∀ (names:List (Str × NameKind)) (acc:List (Str × Addr)),(∀ y ∈ names,y.2 = .free→∃ c,env.cells.lookup y.1 = some c) →
  (forIn names acc (fun (y:Str × NameKind) cs=>(if y.2 == .free then (cellOf env y.1 >>= fun c=>pure (ForInStep.yield ((y.1,c) :: cs))) else pure (ForInStep.yield cs):Sem (ForInStep (List (Str × Addr)))))) = pure (Zfc env names acc)
 | [],acc,_=>by rw [List.forIn_nil]; rfl
 | (n,k) :: r,acc,h=>by
  by_cases hk:k = .free
  ·subst hk
   obtain ⟨c,hc⟩:=h (n,.free) (.head _) rfl
   have hc':env.cells.lookup n = some c:=hc
   have e:=Zg9 (env:=env) r ((n,c) :: acc) fun y hy=>h y (.tail _ hy)
   have ec:cellOf env n = pure c:=by
    unfold cellOf
    rw [hc']
   rw [List.forIn_cons]
   simp only [beq_self_eq_true,if_true]
   rw [ec]
   simp only [Zfc,beq_self_eq_true,if_true,hc',Option.getD_some]
   exact e
  ·have e:=Zg9 (env:=env) r acc fun y hy=>h y (.tail _ hy)
   have hb:(k == NameKind.free) = false:=by simpa using hk
   rw [List.forIn_cons]
   simp only [Zfc,hb,Bool.false_eq_true,if_false]
   exact e
theorem Zbt {scope:Scope} {env:Env} (h:∀ y ∈ scope.names,y.2 = .free→∃ c,env.cells.lookup y.1 = some c):closureFor scope env = pure (Zfc env scope.names []):=by
 have e:=Zg9 scope.names [] h
 have e':(forIn scope.names ([]:List (Str × Addr)) (fun (y:Str × NameKind) cs=>(match y with | (name,kind)=>do
   if kind == .free then do let a ← cellOf env name; pure (ForInStep.yield ((name,a) :: cs)) else pure (ForInStep.yield cs):Sem (ForInStep (List (Str × Addr)))))) = pure (Zfc env scope.names []):=e
 exact congrArg (fun (m:Sem (List (Str × Addr)))=>m >>= fun x=>pure x) e'
theorem Zg0 {env:Env}:∀ (names:List (Str × NameKind)) (acc:List (Str × Addr)),(∀ y ∈ names,y.2 = .free→∃ c,env.cells.lookup y.1 = some c) →
  ∀ n c,(n,c) ∈ Zfc env names acc→(n,c) ∈ acc∨((n,NameKind.free) ∈ names∧env.cells.lookup n = some c)
 | [],acc,_,n,c,h=>.inl h
 | (m,k) :: r,acc,h,n,c,hm=>by
  by_cases hk:k = .free
  ·subst hk
   obtain ⟨d,hd⟩:=h (m,.free) (.head _) rfl
   have hd':env.cells.lookup m = some d:=hd
   simp only [Zfc,beq_self_eq_true,if_true,hd',Option.getD_some] at hm
   rcases Zg0 r _ (fun y hy=>h y (.tail _ hy)) n c hm with z | ⟨z1,z2⟩
   ·rcases List.mem_cons.mp z with z | z
    ·cases z; exact .inr ⟨.head _,hd'⟩
    ·exact .inl z
   ·exact .inr ⟨.tail _ z1,z2⟩
  ·have hb:(k == NameKind.free) = false:=by simpa using hk
   simp only [Zfc,hb,Bool.false_eq_true,if_false] at hm
   refine (Zg0 r _ (fun y hy=>h y (.tail _ hy)) n c hm).imp id fun qz9=>?_
   obtain ⟨z1,z2⟩:=qz9
   exact ⟨.tail _ z1,z2⟩
theorem Zgf {env:Env}:∀ (names:List (Str × NameKind)) (acc:List (Str × Addr)),∀ p ∈ acc,p ∈ Zfc env names acc
 | [],_,_,h=>h
 | (m,k) :: r,acc,p,h=>by
  unfold Zfc
  split
  ·exact Zgf r _ p (.tail _ h)
  ·exact Zgf r _ p h
theorem Zg4 {env:Env}:∀ (names:List (Str × NameKind)) (acc:List (Str × Addr)) (n:Str),(n,NameKind.free) ∈ names→∃ c,(n,c) ∈ Zfc env names acc
 | [],_,_,h=>nomatch h
 | (m,k) :: r,acc,n,h=>by
  rcases List.mem_cons.mp h with z | z
  ·cases z
   exact ⟨_,by
    simp only [Zfc,beq_self_eq_true,if_true]
    exact Zgf _ _ _ (.head _)⟩
  ·unfold Zfc
   split
   ·exact Zg4 r _ n z
   ·exact Zg4 r _ n z
theorem Zda {env:Env} (inj:∀ x y c,env.cells.lookup x = some c→env.cells.lookup y = some c→x = y):∀ (names:List (Str × NameKind)) (acc:List (Str × Addr)),
  (∀ y ∈ names,y.2 = .free→∃ c,env.cells.lookup y.1 = some c)→(names.map (·.1)).Nodup→(∀ p ∈ acc,env.cells.lookup p.1 = some p.2)→(∀ p ∈ acc,p.1 ∉ names.map (·.1))→(acc.Pairwise fun x y=>x.2 ≠ y.2) →
  (Zfc env names acc).Pairwise fun x y=>x.2 ≠ y.2
 | [],_,_,_,_,_,h=>h
 | (m,k) :: r,acc,hf,hn,ha,hd,hp=>by
  rw [List.map_cons,List.nodup_cons] at hn
  have hf':∀ y ∈ r,y.2 = .free→∃ c,env.cells.lookup y.1 = some c:=fun y hy=>hf y (.tail _ hy)
  have hd':∀ p ∈ acc,p.1 ∉ r.map (·.1):=fun p hp z=>hd p hp (by rw [List.map_cons]; exact .tail _ z)
  by_cases hk:k = .free
  ·subst hk
   obtain ⟨d,hd0⟩:=hf (m,.free) (.head _) rfl
   have hd1:env.cells.lookup m = some d:=hd0
   simp only [Zfc,beq_self_eq_true,if_true,hd1,Option.getD_some]
   refine Zda inj r _ hf' hn.2 (fun p hp'=>?_) (fun p hp'=>?_) (List.pairwise_cons.mpr ⟨fun p hp' z=>?_,hp⟩)
   ·rcases List.mem_cons.mp hp' with rfl | hp'
    ·exact hd1
    ·exact ha p hp'
   ·rcases List.mem_cons.mp hp' with rfl | hp'
    ·exact hn.1
    ·exact hd' p hp'
   ·have e:m = p.1:=inj m p.1 d hd1 (by rw [ha p hp',← z])
    exact hd p hp' (by rw [List.map_cons,← e]; exact .head _)
  ·have hb:(k == NameKind.free) = false:=by simpa using hk
   simp only [Zfc,hb,Bool.false_eq_true,if_false]
   exact Zda inj r _ hf' hn.2 ha hd' hp
structure Zlq (h:Heap) (lo:Nat) (names:List (Str × NameKind)) (acc cs:List (Str × Addr)):Prop where
 mem:∀ n c,(n,c) ∈ cs→(n,c) ∈ acc∨(h.IsCell c none∧lo ≤ c∧(n,NameKind.cell) ∈ names)
 has:∀ n,(n,NameKind.cell) ∈ names→∃ c,(n,c) ∈ cs
 old:∀ p ∈ acc,p ∈ cs
theorem Zdd:∀ (names:List (Str × NameKind)) (h:Heap) (lo:Nat) (acc:List (Str × Addr)),lo ≤ h.objs.size→Zlq (pushCells h names) lo names acc (cellsFrom h.objs.size names acc)
 | [],_,_,_,_=>⟨fun _ _ m=>.inl m,(fun _ m=>nomatch m),fun _ m=>m⟩
 | (name,kind) :: r,h,lo,acc,hlo=>by
  by_cases hk:(kind == NameKind.cell) = true
  ·have ek:kind = .cell:=by simpa using hk
   subst ek
   have ih:=Zdd r (h.push { cls:=.type "cell", data:=.cell none }) lo ((name,h.objs.size) :: acc) (by rw [Heap.size_push]; omega)
   rw [Heap.size_push] at ih
   have e1:cellsFrom h.objs.size ((name,.cell) :: r) acc = cellsFrom (h.objs.size + 1) r ((name,h.objs.size) :: acc):=by
    rw [cellsFrom,if_pos hk]
   have e2:pushCells h ((name,.cell) :: r) = pushCells (h.push { cls:=.type "cell", data:=.cell none }) r:=by
    rw [pushCells,if_pos hk]
   rw [e1,e2]
   refine ⟨fun n c m=>?_,fun n m=>?_,fun p m=>ih.old p (.tail _ m)⟩
   ·rcases ih.mem n c m with z | ⟨z1,z2,z3⟩
    ·rcases List.mem_cons.mp z with z | z
     ·cases z
      exact .inr ⟨⟨_,pushCells_keeps _ _ _ _ (Heap.get?_push_size _ rfl),rfl⟩,hlo,.head _⟩
     ·exact .inl z
    ·exact .inr ⟨z1,z2,.tail _ z3⟩
   ·rcases List.mem_cons.mp m with z | z
    ·cases z
     exact ⟨_,ih.old _ (.head _)⟩
    ·exact ih.has n z
  ·have ih:=Zdd r h lo acc hlo
   have e1:cellsFrom h.objs.size ((name,kind) :: r) acc = cellsFrom h.objs.size r acc:=by
    rw [cellsFrom,if_neg hk]
   have e2:pushCells h ((name,kind) :: r) = pushCells h r:=by
    rw [pushCells,if_neg hk]
   rw [e1,e2]
   refine ⟨fun n c m=>(ih.mem n c m).imp id fun ⟨z1,z2,z3⟩=>⟨z1,z2,.tail _ z3⟩,fun n m=>?_,ih.old⟩
   rcases List.mem_cons.mp m with z | z
   ·cases z
    exact absurd rfl hk
   ·exact ih.has n z
theorem Zek (names:List (Str × NameKind)):∀ (h:Heap) (acc:List (Str × Addr)),(acc.Pairwise fun x y=>x.2 ≠ y.2)→(∀ p ∈ acc,p.2 < h.objs.size)→(cellsFrom h.objs.size names acc).Pairwise fun x y=>x.2 ≠ y.2:=by
 induction names with
 | nil=>intro h acc ha _; exact ha
 | cons y r ih =>
  intro h acc ha hb
  obtain ⟨name,kind⟩:=y
  unfold cellsFrom
  split
  ·have:=ih (h.push { cls:=.type "cell", data:=.cell none }) ((name,h.objs.size) :: acc) (List.pairwise_cons.mpr ⟨fun p hp=>Nat.ne_of_gt (hb p hp),ha⟩) (fun p hp=>by
    rw [Heap.size_push]
    rcases List.mem_cons.mp hp with rfl | hp
    ·exact Nat.lt_succ_self _
    ·exact Nat.lt_succ_of_lt (hb p hp))
   rwa [Heap.size_push] at this
  ·exact ih h acc ha hb
theorem Zfl {M:Model} {A:Around} {E:Value→Shared→Prop} {s:Shared} {scope:Scope} {globals:Addr} {cl:List (Str × Addr)} {qual:Str} {env:Env} {Q:Env→Shared→Prop}
  (hQ:Q (newEnv scope s.heap.objs.size globals (cellsFrom (s.heap.objs.size + 1) scope.names cl) qual none .none (some env) builtinsNs)
   { s with heap:=pushCells (s.heap.push { cls:=.type "dict", data:=.dict #[] }) scope.names }) :
  wpAny M A (newFunctionEnv scope globals cl [] qual none .none (some env)) Q E s:=by
 simp only [newFunctionEnv,Option.isSome_some,if_true]
 refine wpAny_bind (wpAny_alloc ?_)
 refine wpAny_bind (wpAny_layCells _ (fun name kind cells=>by cases hkc:kind == NameKind.cell <;> simp [hkc]) _ _ _ _ ?_)
 rw [show ({ s with heap:=s.heap.push { cls:=.type "dict", data:=.dict #[] } }:Shared).heap.objs.size = s.heap.objs.size + 1 from Heap.size_push ..]
 rw [List.forIn_nil]
 exact wpAny_bind (wpAny_pure (wpAny_pure hQ))
end L2
namespace L2
open PySem PySem.Spec PyProof.Rows
noncomputable def Wc (X:Cx) (N':List Str) (sc:Scope) (C:Addr) (cells:List (Str × Addr)) (s₂:Shared) (H₂:Hp) (fp:List Addr):Cx :=
 { X with N:=N',s₀:=s₂,H₀:=H₂,env:=compEnvC sc cells C X.env,outer:=X.stack,stack:=X.stack,ex:=fp,fn:=fun x=>sc.names.lookup x == some .cell,pn:=[],xe:=fun _ _=>False }
theorem Zbv {env:Env}:∀ {names:List (Str × NameKind)} {x:Str} {k:NameKind},names.lookup x = some k →
  (names.map fun (n,k)=>if (k == NameKind.free && env.scope.kind == .function && env.kindOf n == some .cell) then (n,NameKind.cell) else (n,k)).lookup x =
   some (if (k == NameKind.free && env.scope.kind == .function && env.kindOf x == some .cell) then NameKind.cell else k)
 | [],_,_,h=>by simp at h
 | (n,k') :: r,x,k,h=>by
  have ih:=@Zbv env r x k
  show List.lookup x ((if (k' == NameKind.free && env.scope.kind == .function && env.kindOf n == some .cell) = true then (n,NameKind.cell) else (n,k')) :: _) = _
  cases hx:x == n with
  | true =>
   simp only [List.lookup_cons,hx] at h
   cases h
   have e:=beq_iff_eq.mp hx
   subst e
   split <;> simp [List.lookup_cons]
  | false =>
   simp only [List.lookup_cons,hx] at h
   split
   ·simp only [List.lookup_cons,hx]; exact ih h
   ·simp only [List.lookup_cons,hx]; exact ih h
theorem Zdu {env:Env}:∀ {names:List (Str × NameKind)} {x:Str},names.lookup x = none →
  (names.map fun (n,k)=>if (k == NameKind.free && env.scope.kind == .function && env.kindOf n == some .cell) then (n,NameKind.cell) else (n,k)).lookup x = none
 | [],_,_=>rfl
 | (n,k') :: r,x,h=>by
  have ih:=@Zdu env r x
  show List.lookup x ((if (k' == NameKind.free && env.scope.kind == .function && env.kindOf n == some .cell) = true then (n,NameKind.cell) else (n,k')) :: _) = _
  cases hx:x == n with
  | true =>
   simp only [List.lookup_cons,hx] at h
   cases h
  | false =>
   simp only [List.lookup_cons,hx] at h
   split
   ·simp only [List.lookup_cons,hx]; exact ih h
   ·simp only [List.lookup_cons,hx]; exact ih h
theorem Zcl {α:Type}:∀ {l:List (Str × α)} {n:Str} {c:α},(l.map (·.1)).Nodup→(n,c) ∈ l→l.lookup n = some c
 | (k,v) :: r,n,c,hd,h=>by
  rw [List.map_cons,List.nodup_cons] at hd
  rcases List.mem_cons.mp h with e | hr
  ·cases e
   simp [List.lookup_cons]
  ·have hne:(n == k) = false:=by
    refine Bool.eq_false_iff.mpr fun z=>hd.1 ?_
    have e:n = k:=beq_iff_eq.mp z
    rw [← e]
    exact List.mem_map.mpr ⟨(n,c),hr,rfl⟩
   rw [List.lookup_cons,hne]
   exact Zcl hd.2 hr
theorem Ye {α:Type}:∀ {l:List (Str × α)} {n:Str} {c:α},(n,c) ∈ l→∃ d,l.lookup n = some d∧(n,d) ∈ l
 | (k,v) :: r,n,c,h=>by
  by_cases e:n = k
  ·subst e
   exact ⟨v,by simp [List.lookup_cons],List.mem_cons_self⟩
  ·have hne:(n == k) = false:=by simpa using e
   rcases List.mem_cons.mp h with z | z
   ·cases z; exact absurd rfl e
   ·obtain ⟨d,h1,h2⟩:=Ye z
    exact ⟨d,by rw [List.lookup_cons,hne]; exact h1,.tail _ h2⟩
structure CompScope (X:Cx) (own:List Str) (caps:List Nat) (N':List Str) (sc:Scope):Prop where
 kind:sc.kind = .function
 nd:N'.Nodup
 names:N' = own ++ caps.map fun i=>X.N.getD i Str.empty
 nn:(sc.names.map (·.1)).Nodup
 free:(sc.names.all fun y=>y.2 != .free || (X.env.kindOf y.1 == some .cell || X.env.kindOf y.1 == some .free)) = true
 caps:(caps.all fun i=>sc.names.lookup (X.N.getD i Str.empty) == some .free) = true
noncomputable def Jo (own:List Str) (caps:List Nat) (σ:St):St:=own.map (fun _=>none) ++ caps.map fun i=>(σ[i]?).getD none
section
variable {X:Cx} {own:List Str} {caps:List Nat} {N':List Str} {sc:Scope}
theorem CompScope.lk (S:CompScope X own caps N' sc) {n:Str} {k:NameKind} (h:(n,k) ∈ sc.names):sc.names.lookup n = some k:=Zcl S.nn h
theorem CompScope.fr (S:CompScope X own caps N' sc) {n:Str} (h:(n,NameKind.free) ∈ sc.names):X.env.kindOf n = some .cell∨X.env.kindOf n = some .free:=by
 have:=List.all_eq_true.mp S.free _ h
 simpa using this
theorem Zl9 {pins:List (Addr × Obj)} {σ:St} {H:Hp} {s:Shared} {fp:List Addr} {cl:List (Str × Addr)} (S:CompScope X own caps N' sc) (I:Inv X pins σ H s)
  (f:∀ b ∈ fp,Zc0 X pins H b) (fo:∀ b ∈ fp,∃ o,s.heap.get? b = some o)
  (hcl:∀ n c,(n,c) ∈ cl→(n,NameKind.free) ∈ sc.names∧X.env.cells.lookup n = some c) (hcl2:∀ n,(n,NameKind.free) ∈ sc.names→∃ c,(n,c) ∈ cl) (hapart:cl.Pairwise fun x y=>x.2 ≠ y.2) :
  Inv (Wc X N' sc (s.heap.objs.size + 1) (cellsFrom (s.heap.objs.size + 2) sc.names cl) s H fp) [] (Jo own caps σ) (upd H s.heap.objs.size (.lst []))
   { s with heap:=pushCells ((s.heap.push { cls:=.type "list", data:=.seq #[] }).push { cls:=.type "dict", data:=.dict #[] }) sc.names }:=by
 generalize hh1:s.heap.push { cls:=.type "list", data:=.seq #[] } = h1
 have z1:h1.objs.size = s.heap.objs.size + 1:=by rw [← hh1,Heap.size_push]
 generalize hh2:h1.push { cls:=.type "dict", data:=.dict #[] } = h2
 have z2:h2.objs.size = s.heap.objs.size + 2:=by rw [← hh2,Heap.size_push,z1]
 have BC:=Zdd sc.names h2 (s.heap.objs.size + 2) cl (by omega)
 have AP:=Zek sc.names h2 cl hapart (fun p hp=>by
  obtain ⟨v,hv⟩:=I.cell p.1 p.2 (hcl p.1 p.2 hp).2
  exact Nat.lt_of_lt_of_le hv.lt (by omega))
 rw [z2] at BC AP
 have keep:∀ b o,s.heap.get? b = some o→(pushCells h2 sc.names).get? b = some o:=fun b o e=>pushCells_keeps _ _ _ _ (by
  rw [← hh2]
  refine Heap.get?_push_of_some _ ?_
  rw [← hh1]
  exact Heap.get?_push_of_some _ e)
 have hD:(pushCells h2 sc.names).get? s.heap.objs.size = some { cls:=.type "list", data:=.seq #[] }:=pushCells_keeps _ _ _ _ (by
  rw [← hh2]
  refine Heap.get?_push_of_some _ ?_
  rw [← hh1]
  exact Heap.get?_push_size _ rfl)
 have hC:(pushCells h2 sc.names).Ns (s.heap.objs.size + 1) (fun _=>none):=by
  refine Heap.Ns.keeps ?_ (pushCells_keeps _ _)
  have:=Heap.Ns.new h1 (.type "dict")
  rw [hh2,z1] at this
  exact this
 have cellOld:∀ n c,X.env.cells.lookup n = some c→c < s.heap.objs.size:=fun n c e=>by
  obtain ⟨v,hv⟩:=I.cell n c e
  exact hv.lt
 have lk':∀ n c,(cellsFrom (s.heap.objs.size + 2) sc.names cl).lookup n = some c→(n,c) ∈ cellsFrom (s.heap.objs.size + 2) sc.names cl:=fun n c e=>PySem.mem_of_lookup e
 have hnD:H s.heap.objs.size = none:=I.fresh
 have fresh:∀ c,s.heap.objs.size < c→upd H s.heap.objs.size (.lst []) c = none:=fun c hc=>by
  rw [Zj (Nat.ne_of_gt hc)]
  exact I.hok.fresh (Nat.le_of_lt hc)
 have isc:∀ n c,(n,c) ∈ cellsFrom (s.heap.objs.size + 2) sc.names cl→∃ v,(pushCells h2 sc.names).IsCell c v:=fun n c m=>by
  rcases BC.mem n c m with z | ⟨z,_⟩
  ·obtain ⟨v,hv⟩:=I.cell n c (hcl n c z).2
   exact ⟨v,hv.keeps keep⟩
  ·exact ⟨none,z⟩
 have okH:HOk X.prog X.w (upd H s.heap.objs.size (.lst [])) (pushCells h2 sc.names):=by
  refine I.hok.laid keep (Nat.le_refl _) ?_
  exact ⟨Nat.zero_le _,[],0,.nil,hD⟩
 have kinds:∀ x k,sc.names.lookup x = some k→(relabel sc X.env).names.lookup x = some (if (k == NameKind.free && X.env.scope.kind == .function && X.env.kindOf x == some .cell) then NameKind.cell else k):=fun x k e=>Zbv e
 have kindsR:∀ x k,(relabel sc X.env).names.lookup x = some k→∃ k',(x,k') ∈ sc.names∧k = (if (k' == NameKind.free && X.env.scope.kind == .function && X.env.kindOf x == some .cell) then NameKind.cell else k'):=fun x k e=>by
  cases q:sc.names.lookup x with
  | none =>
   have:=Zdu (env:=X.env) q
   rw [show (relabel sc X.env).names.lookup x = _ from this] at e
   cases e
  | some k' =>
   refine ⟨k',PySem.mem_of_lookup q,?_⟩
   rw [kinds x k' q] at e
   exact (Option.some.inj e).symm
 refine ⟨⟨I.ok.mod,S.kind,I.ok.glob,I.ok.blt,?_,?_,?_,?_,I.ok.hd,I.ok.frames,.inl rfl,?_,?_,?_,?_,?_,?_,?_⟩,rfl,I.bare,?_,?_,?_,?_,?_,(fun p hp=>nomatch hp),okH,?_⟩
 ·show s.heap.objs.size ≤ s.heap.objs.size + 1; omega
 ·intro x y c e1 e2
  exact name_of_addr AP (lk' x c e1) (lk' y c e2)
 ·intro x hx
  rcases hx with hx | hx
  ·obtain ⟨k',hm,hk'⟩:=kindsR x _ hx
   cases k' with
   | cell =>
    obtain ⟨c,hc⟩:=BC.has x hm
    obtain ⟨d,h1,_⟩:=Ye hc
    exact ⟨d,h1⟩
   | free =>
    obtain ⟨c,hc⟩:=hcl2 _ hm
    obtain ⟨d,h1,_⟩:=Ye (BC.old _ hc)
    exact ⟨d,h1⟩
   | _=>simp at hk'
  ·obtain ⟨k',hm,hk'⟩:=kindsR x _ hx
   cases k' with
   | free =>
    obtain ⟨c,hc⟩:=hcl2 _ hm
    obtain ⟨d,h1,_⟩:=Ye (BC.old _ hc)
    exact ⟨d,h1⟩
   | _=>simp at hk'
 ·intro x c hf e
  have hf':sc.names.lookup x = some .cell:=by simpa [Wc] using hf
  rcases BC.mem x c (lk' x c e) with z | ⟨_,z,_⟩
  ·-- a free one and a cell at once: the name stands once
   exfalso
   have q:=S.lk (hcl x c z).1
   rw [hf'] at q
   cases q
  ·show s.heap.objs.size ≤ c; omega
 ·intro b hb
  obtain ⟨o,ho⟩:=fo b hb
  have hlt:=Heap.lt_size ho
  refine ⟨Nat.ne_of_lt (Nat.lt_trans hlt (Nat.lt_succ_self _)),fun x c e z=>?_⟩
  rcases BC.mem x c (lk' x c e) with q | ⟨_,q,_⟩
  ·exact (f b hb).2.2.2.2.1 x c (hcl x c q).2 z
  ·subst z
   exact absurd hlt (Nat.not_lt.mpr (Nat.le_trans (Nat.le_add_right _ 2) q))
 ·exact I.bs
 ·exact Nat.le_trans I.ok.bsz I.sz
 ·intro b o e hb
  rcases (f b hb).2.2.2.1 with z | z
  ·exact I.ok.noex b o e z
  ·exact absurd (Nat.lt_of_lt_of_le (Heap.lt_size e) I.ok.bsz) (Nat.not_lt.mpr z)
 ·intro b hb z
  rcases List.mem_cons.mp (I.stkSub b z) with q | q
  ·exact (f b hb).2.1 q
  ·exact (f b hb).2.2.1 q
 ·exact I.stack
 ·exact I.stkFree
 ·exact Un.laid keep (Nat.le_refl _) hnD
 ·refine ⟨_,hC,fun i x v e1 e2 e3=>?_⟩
  have e1':(own ++ caps.map fun i=>X.N.getD i Str.empty)[i]? = some x:=by rw [← S.names]; exact e1
  have e2':(own.map (fun _=>(none:Option V)) ++ caps.map fun i=>(σ[i]?).getD none)[i]? = some (some v):=e2
  by_cases hi:i < own.length
  ·rw [List.getElem?_append_left (by simpa using hi),List.getElem?_map] at e2'
   cases q:own[i]? with
   | none=>rw [q] at e2'; cases e2'
   | some y=>rw [q] at e2'; cases e2'
  ·rw [List.getElem?_append_right (by simpa using hi),List.getElem?_map] at e2'
   rw [List.getElem?_append_right (by omega),List.getElem?_map] at e1'
   rw [List.length_map] at e2'
   cases q:caps[i - own.length]? with
   | none=>rw [q] at e2'; cases e2'
   | some j =>
    rw [q] at e1' e2'
    have e1:X.N.getD j Str.empty = x:=Option.some.inj e1'
    have e2:(σ[j]?).getD none = some v:=Option.some.inj e2'
    have e4:σ[j]? = some (some v):=by
     cases r:σ[j]? with
     | none=>rw [r] at e2; cases e2
     | some o=>rw [r] at e2; exact congrArg some e2
    have hj:j < X.N.length:=by rw [← I.len]; exact (List.getElem?_eq_some_iff.mp e4).1
    have e5:X.N[j]? = some x:=by rw [← e1]; simp [List.getD_eq_getElem?_getD,hj]
    have hc:=List.all_eq_true.mp S.caps j (List.mem_of_getElem? q)
    have e6:sc.names.lookup x = some .free:=by rw [← e1]; simpa using hc
    have hm:=PySem.mem_of_lookup e6
    have kx:=S.fr hm
    obtain ⟨m,hn,hl⟩:=I.loc
    obtain ⟨u,ru,lo⟩:=hl j x v e5 e4 (by rcases kx with z | z; exact .inr (.inl z); exact .inr (.inr z))
    refine ⟨u,ru,.inr ⟨?_,?_⟩⟩
    ·have:=kinds x _ e6
     show (relabel sc X.env).names.lookup x = _∨(relabel sc X.env).names.lookup x = _
     rw [this]
     split
     ·exact .inl rfl
     ·exact .inr rfl
    ·rcases lo with ⟨z,_⟩ | ⟨_,c,hc1,hc2⟩
     ·rcases kx with w | w <;> (rw [w] at z; cases z)
     ·obtain ⟨d,hd⟩:=hcl2 x hm
      obtain ⟨d',h1,h2⟩:=Ye (BC.old _ hd)
      refine ⟨d',h1,?_⟩
      rcases BC.mem x d' h2 with w | ⟨_,_,w⟩
      ·have w':=(hcl x d' w).2
       rw [hc1] at w'
       cases w'
       exact hc2.keeps keep
      ·have:=S.lk w
       rw [e6] at this
       cases this
 ·intro x c e
  exact isc x c (lk' x c e)
 ·exact fresh _ (Nat.lt_succ_self _)
 ·intro x c e
  rcases BC.mem x c (lk' x c e) with z | ⟨_,z,_⟩
  ·have e':=(hcl x c z).2
   have hlt:=cellOld x c e'
   rw [Zj (Nat.ne_of_lt hlt)]
   exact I.freeC x c e'
  ·exact fresh c (by omega)
 ·show (Jo own caps σ).length = N'.length
  rw [S.names]
  unfold Jo
  simp
end
end L2
namespace L2
open PySem PySem.Spec PyProof.Rows
noncomputable def Zuu (J:It) (g:TG) (tt:TT) (te:TE) (σ0:St) (D:Addr) (Q:Hp→Prop) (H1:Hp):Prop :=
 ∃ W:Nat→Nat→St→Hp→Prop,(∃ m,W 0 m σ0 (upd H1 D (.lst [])))∧∀ i m σ' H',W i m σ' H' →
  (J.stop i H'∧Q H')∨(J.go i H'∧∀ x H2,J.yld i H' x H2→g x σ' H2 fun σ2 H3=>tt σ2 H3 fun b H4 =>
   if b = true then te σ2 H4 fun y H5=>∃ ys,H5 D = some (.lst ys)∧ys.length < sizeLine∧∃ m',m' < m∧W (i + 1) m' σ2 (upd H5 D (.lst (ys ++ [y])))
   else ∃ m',m' < m∧W (i + 1) m' σ2 H4)
noncomputable def Zxa (own:List Str) (caps:List Nat) (wi:TI) (g:TG) (tt:TT) (te:TE):TE:=fun σ H Q=>wi σ H fun J H1=>∀ D,H1 D = none→Zuu J g tt te (Jo own caps σ) D (Q (.ref D)) H1
noncomputable def Z6p:TT:=fun _ H Q=>Q true H
noncomputable def Zuc (X:Cx) (ifs:List Expr) (t:TT):Prop :=
 ∀ (pins:List (Addr × Obj)) (s:Shared) (σ:St) (H:Hp) (Q:Bool→Hp→Prop),Inv X pins σ H s→t σ H Q →
  wpAny (model X.prog X.w) X.A (forIn ifs true fun c r=>if r = true then do let ok ← isTrue c X.env (eval c X.env); pure (ForInStep.yield ok) else pure (ForInStep.yield r)) (TP X pins σ Q) X.xe s
theorem Zw4 {X:Cx}:Zuc X [] Z6p:=fun pins s σ H Q I h=>by
 rw [List.forIn_nil]
 exact wpAny_pure ⟨H,I,h⟩
theorem Ztx {X:Cx} {c:Expr} {t:TT} (h:PT X c t):Zuc X [c] t:=fun pins s σ H Q I q=>wpAny_tests_one (h pins s σ H Q I q)
theorem Zw9 {M:Model} {A:Around} {α:Type} {t:Sem α} {Q Q':α→Shared→Prop} {E:Value→Shared→Prop} {s:Shared} (h:wpAny M A t Q (fun _ _=>False) s) (hQ:∀ a s,Q a s→Q' a s):wpAny M A t Q' E s :=
 wpAny_mono h hQ fun _ _ z=>z.elim
section
variable {X:Cx} {own:List Str} {caps:List Nat} {N':List Str} {sc:Scope} {tg elt iter:Expr} {ifs:List Expr} {pos:Pos} {wi:TI} {g:TG} {tt:TT} {te:TE}
theorem Zks {pins p':List (Addr × Obj)} {σ σ':St} {H H':Hp} {s s':Shared} {fp:List Addr} {C:Addr} {cells:List (Str × Addr)} {h':Heap} (I:Inv X pins σ H s) (f:∀ b ∈ fp,Zc0 X pins H b)
  (I':Inv (Wc X N' sc C cells s H fp) p' σ' H' s') (hs:Heap.SameBut C s'.heap h'):Inv X pins σ H' { s' with heap:=h' }:=by
 have hC:s.heap.objs.size ≤ C:=I'.ok.above
 have B:=I'.base
 have ne:∀ b o,s.heap.get? b = some o→b ≠ C:=fun b o e=>Nat.ne_of_lt (Nat.lt_of_lt_of_le (Heap.lt_size e) hC)
 obtain ⟨m,⟨oC,_,_,hoC,_⟩,_⟩:=I'.loc
 refine I.call' (ch:=fp) (s':={ s' with heap:=h' }) I'.os ⟨fun b o e n hb hx=>?_,fun b o e n hb hx=>?_,B.free,fun b o e hx=>?_,B.tups,B.frzs,B.tbls⟩ (fun b ob e=>?_) I'.bare fun b hb=>?_
 ·exact (hs.2 b (ne b o e)).trans (B.keep b o e n hb hx)
 ·obtain ⟨sl,q⟩:=B.slot b o e n hb hx
  exact ⟨sl,(hs.2 b (ne b o e)).trans q⟩
 ·obtain ⟨o',q⟩:=B.there b o e hx
  exact ⟨o',(hs.2 b (ne b o e)).trans q⟩
 ·have hfree:H' C = none:=I'.free
  refine (I'.hok b ob e).stay (fun c w' hc q=>(hs.2 c ?_).trans q) (fun _ q=>q) fun _ _ q=>q
  rintro rfl
  rcases hc with rfl | hc
  ·rw [hfree] at e; cases e
  ·rw [hfree] at hc; cases hc
 ·obtain ⟨_,f1,_,f3,f4,f5⟩:=f b hb
  exact ⟨f3,f1,f4,f5⟩
theorem Zfr {Qf:Result→Shared→Prop} (S:CompScope X own caps N' sc) (hc:X.calm = true)
  (hg:∀ C cells s₂ H₂ fp,PG (Wc X N' sc C cells s₂ H₂ fp) tg g) (ht:∀ C cells s₂ H₂ fp,Zuc (Wc X N' sc C cells s₂ H₂ fp) ifs tt) (he:∀ C cells s₂ H₂ fp,PE (Wc X N' sc C cells s₂ H₂ fp) elt te)
  {pins:List (Addr × Obj)} {σ:St} {H:Hp} {s:Shared} {fp:List Addr} {it:Addr} {tn:Nat→Heap→Prop} {J:It} {Q:Hp→Prop} (I:Inv X pins σ H s) (T:Turn X.prog X.w X.K tg J fp it tn) (st:tn 0 s.heap) (f:∀ b ∈ fp,Zc0 X pins H b)
  (h:Zuu J g tt te (Jo own caps σ) s.heap.objs.size Q H)
  (fin:∀ s' σ' H' p' C cells,Inv (Wc X N' sc C cells s H fp) p' σ' H' s'→C = s.heap.objs.size + 1→Q H'→Qf (.ok .next) s') :
  wpAny (model X.prog X.w) X.A (newFunctionEnv sc X.env.globals (Zfc X.env sc.names []) [] X.env.qual none .none (some X.env)) (fun cenv s₄ =>
   cenv.locals = s.heap.objs.size + 1∧codeAny (model X.prog X.w) X.A (.compStart (.ListComp elt [⟨tg,iter,ifs,0⟩] sc pos) 0 (.ref it) (.ref s.heap.objs.size) { cenv with scope:=relabel sc X.env }) Qf s₄) X.xe
    { s with heap:=s.heap.push { cls:=.type "list", data:=.seq #[] } }:=by
 have hf:∀ y ∈ sc.names,y.2 = .free→∃ c,X.env.cells.lookup y.1 = some c:=fun y hy e=>by
  obtain ⟨n,k⟩:=y
  have e':k = .free:=e
  subst e'
  exact I.ok.has n (S.fr hy)
 have hcl:∀ n c,(n,c) ∈ Zfc X.env sc.names []→(n,NameKind.free) ∈ sc.names∧X.env.cells.lookup n = some c:=fun n c m=>(Zg0 sc.names [] hf n c m).elim (fun z=>nomatch z) id
 have hap:=Zda I.ok.inj sc.names [] hf S.nn (fun _ z=>nomatch z) (fun _ z=>nomatch z) .nil
 have I0:=Zl9 (cl:=Zfc X.env sc.names []) S I f (fun b hb=>let ⟨o,e,_⟩:=T.obj _ _ st b hb; ⟨o,e⟩) hcl (fun n m=>Zg4 sc.names [] n m) hap
 refine Zfl ?_
 rw [show ({ s with heap:=s.heap.push { cls:=.type "list", data:=.seq #[] } }:Shared).heap.objs.size = s.heap.objs.size + 1 from Heap.size_push ..]
 refine ⟨rfl,?_⟩
 dsimp only
 generalize hs0:({ s with heap:=pushCells ((s.heap.push { cls:=.type "list", data:=.seq #[] }).push { cls:=.type "dict", data:=.dict #[] }) sc.names }:Shared) = s0 at I0 ⊢
 have st0:tn 0 s0.heap:=T.keep _ _ _ st fun b hb o e=>by
  rw [← hs0]
  exact pushCells_keeps _ _ _ _ (Heap.get?_push_of_some _ (Heap.get?_push_of_some _ e))
 generalize hcells:cellsFrom (s.heap.objs.size + 1 + 1) sc.names (Zfc X.env sc.names []) = cells at I0 ⊢
 -- the loop
 obtain ⟨W,⟨m0,w0⟩,turn⟩:=h
 have loop:codeAny (model X.prog X.w) X.A (.compLoop (.ListComp elt [⟨tg,iter,ifs,0⟩] sc pos) 0 (.ref it) (.ref s.heap.objs.size) (Wc X N' sc (s.heap.objs.size + 1) cells s H fp).env) Qf s0:=by
  generalize hX':Wc X N' sc (s.heap.objs.size + 1) cells s H fp = X' at I0 ⊢
  have hg':=hg (s.heap.objs.size + 1) cells s H fp
  have ht':=ht (s.heap.objs.size + 1) cells s H fp
  have he':=he (s.heap.objs.size + 1) cells s H fp
  have fin':=fun s' σ' H' p' (z:Inv (Wc X N' sc (s.heap.objs.size + 1) cells s H fp) p' σ' H' s')=>fin s' σ' H' p' _ _ z rfl
  rw [hX'] at hg' ht' he' fin'
  have hxe:X'.xe = fun _ _=>False:=by rw [← hX']; rfl
  have hpr:X'.prog = X.prog:=by rw [← hX']; rfl
  have hw:X'.w = X.w:=by rw [← hX']; rfl
  have hK:X'.K = X.K:=by rw [← hX']; rfl
  have hA:X'.A = X.A:=by rw [← hX']; rfl
  have hcm:X'.calm = true:=by rw [← hX']; exact hc
  have hex:X'.ex = fp:=by rw [← hX']; rfl
  have hpn:X'.pn = []:=by rw [← hX']; rfl
  have stat:∀ {H':Hp},(∀ b ∈ fp,H' b = none)→∀ b ∈ fp,Zc0 X' [] H' b:=fun hn b hb=>by
   have e1:=I0.ok.exf b (by rw [hex]; exact hb)
   have e2:=I0.ok.exfs b (by rw [hex]; exact hb)
   exact ⟨hn b hb,e1.1,e2,.inl (by rw [hex]; exact hb),e1.2,fun p hp=>by rw [hpn] at hp; exact nomatch hp⟩
  have frD:∀ b ∈ fp,(upd H s.heap.objs.size (.lst [])) b = none:=fun b hb=>by
   obtain ⟨o,e,_⟩:=T.obj _ _ st b hb
   rw [Zj (Nat.ne_of_lt (Heap.lt_size e))]
   exact (f b hb).1
  have T':Turn X'.prog X'.w X'.K tg J fp it tn:=by rw [hpr,hw,hK]; exact T
  rw [← hpr,← hw,← hA]
  refine Ziv (fun n s'=>∃ i σ' H',Inv X' [] σ' H' s'∧tn i s'.heap∧(∀ b ∈ fp,H' b = none)∧W i n σ' H') ?_ m0 ⟨0,_,_,I0,st0,frD,w0⟩
  rintro n s3 ⟨i,σ3,H3,I3,st3,fr3,w3⟩
  rcases turn i n σ3 H3 w3 with ⟨stop,qn⟩ | ⟨go,step⟩
  ·refine Zw9 (T'.done X' rfl rfl rfl hcm i [] s3 σ3 H3 _ I3 (stat fr3) st3 stop) fun r s4 qz9=>?_
   obtain ⟨hr,I4⟩:=qz9
   subst hr
   exact fin' s4 σ3 H3 [] I4 qn
  ·refine Zw9 (T'.item X' rfl rfl rfl hcm i [] s3 σ3 H3 _ I3 (stat fr3) st3 go) fun r s4 qz9=>?_
   obtain ⟨u,hr,h4⟩:=qz9
   subst hr
   refine Zw9 h4 fun _ s5 qz9=>?_
   obtain ⟨x,H5,I5,r5,y5,st5,fr5⟩:=qz9
   have I5':=I5.pinned (stat fr5) (T.obj _ _ st5)
   have hgg:=hg' _ s5 σ3 H5 x u _ I5' r5 (step x H5 y5)
   rw [hxe] at hgg
   refine Zw9 hgg fun _ s6 qz9=>?_
   obtain ⟨σ6,H6,I6,q6⟩:=qz9
   have htt:=ht' _ s6 σ6 H6 _ I6 q6
   rw [hxe] at htt
   refine Zw9 htt fun ok s7 qz9=>?_
   obtain ⟨H7,I7,q7⟩:=qz9
   have again:∀ {σ7:St} {H7:Hp} {s7:Shared} {m:Nat},Inv X' ([] ++ Zf3 fp s5.heap) σ7 H7 s7→W (i + 1) m σ7 H7→m < n→∃ m,m < n∧∃ i σ' H',Inv X' [] σ' H' s7∧tn i s7.heap∧(∀ b ∈ fp,H' b = none)∧W i m σ' H':=fun {σ7 H7 s7 m} I7 w7 hm=>by
    refine ⟨m,hm,i + 1,σ7,H7,I7.unpinned,T.keep _ _ _ st5 fun b hb o e=>(I7.pin (b,o) (List.mem_append_right _ (List.mem_append_right _ (Jr hb e)))).1,fun b hb=>?_,w7⟩
    obtain ⟨o,e,d⟩:=T.obj _ _ st5 b hb
    exact (I7.pin (b,o) (List.mem_append_right _ (List.mem_append_right _ (Jr hb e)))).2.1
   cases ok with
   | false =>
    obtain ⟨m',hm,w7⟩:=q7
    rw [if_neg Bool.false_ne_true]
    exact again I7 w7 hm
   | true =>
    rw [if_pos rfl]
    have hee:=he' _ s7 σ6 H7 _ I7 q7
    rw [hxe] at hee
    refine Zw9 hee fun y s8 qz9=>?_
    obtain ⟨vy,H8,I8,r8,ys,hD,hlen,m',hm,w8⟩:=qz9
    have hap:=Zck (X:=X') _ s8 σ6 H8 (.ref s.heap.objs.size) [vy] (.ref s.heap.objs.size) [y] (fun _ H'=>W (i + 1) m' σ6 H') I8 rfl (.cons r8 .nil) ⟨_,ys,vy,rfl,rfl,hD,hlen,w8⟩
    rw [hxe] at hap
    refine Zw9 hap fun z s9 qz9=>?_
    obtain ⟨_,H9,I9,_,w9⟩:=qz9
    exact again I9 w9 hm
 exact codeAny_compStart_list loop (T.self _ 0 _ _ _ st0 loop)
theorem Zxk (S:CompScope X own caps N' sc) (hc:X.calm = true) (hi:PI X tg iter wi)
  (hg:∀ C cells s₂ H₂ fp,PG (Wc X N' sc C cells s₂ H₂ fp) tg g) (ht:∀ C cells s₂ H₂ fp,Zuc (Wc X N' sc C cells s₂ H₂ fp) ifs tt) (he:∀ C cells s₂ H₂ fp,PE (Wc X N' sc C cells s₂ H₂ fp) elt te)
  (hs:∀ x,foldedSetIterable iter X.env x = pure x:=by intro _; rfl):PE X (.ListComp elt [⟨tg,iter,ifs,0⟩] sc pos) (Zxa own caps wi g tt te):=by
 intro pins s σ H Q I h
 rw [eval_ListComp]
 have hf:∀ y ∈ sc.names,y.2 = .free→∃ c,X.env.cells.lookup y.1 = some c:=fun y hy e=>by
  obtain ⟨n,k⟩:=y
  have e':k = .free:=e
  subst e'
  exact I.ok.has n (S.fr hy)
 refine wpAny_comprehension_free (use:=none) rfl hs (Zbt hf) S.kind (fun y hy e=>by obtain ⟨n,k⟩:=y; have e':k = .local:=e; subst e'; exact S.lk hy) ?_
 refine thn (hi pins s σ H _ I h) fun v s1 h1=>thn h1 fun itv s2 h2=>?_
 obtain ⟨it,fp,tn,J,H2,e,I2,T,st2,f2,q⟩:=h2
 subst e
 refine wpAny_newObj_type ?_
 refine thn (Zfr (iter:=iter) (pos:=pos) (Qf:=compPost (model X.prog X.w) X.A X.xe none (EP X pins σ Q) (.ref s2.heap.objs.size) (s2.heap.objs.size + 1)) S hc hg ht he I2 T st2 f2 (q s2.heap.objs.size I2.fresh) ?_) fun cenv s4 ⟨hl,hr⟩=>?_
 ·intro s' σ' H' p' C cells I' eC q'
  subst eC
  obtain ⟨m,hn,_⟩:=id I'.loc
  exact ⟨m,hn,fun h' hs'=>⟨.ref s2.heap.objs.size,H',Zks I2 f2 I' hs',rfl,q'⟩⟩
 ·rw [← hl] at hr
  exact hr
end
end L2
namespace L2
open PySem PySem.Spec PyProof.Rows
section
variable {X:Cx} {own:List Str} {caps:List Nat} {N':List Str} {sc:Scope} {tg elt iter:Expr} {ifs:List Expr} {pos:Pos} {wi:TI} {g:TG} {tt:TT} {te:TE}
theorem Zlg {i:Nat} {y:Str} {py spos:Pos} (hN:X.N.Nodup) (hy:X.N[i]? = some y) (hx:Loc X.env.scope y) (S:CompScope X own caps N' sc) (hc:X.calm = true) (hi:PI X tg iter wi)
  (hg:∀ C cells s₂ H₂ fp,PG (Wc X N' sc C cells s₂ H₂ fp) tg g) (ht:∀ C cells s₂ H₂ fp,Zuc (Wc X N' sc C cells s₂ H₂ fp) ifs tt) (he:∀ C cells s₂ H₂ fp,PE (Wc X N' sc C cells s₂ H₂ fp) elt te)
  (hsw:swapsWith (.ListComp elt [⟨tg,iter,ifs,0⟩] sc pos) (some (.Name y py)) spos.line X.env = pure true:=by rfl)
  (hs:∀ x,foldedSetIterable iter X.env x = pure x:=by intro _; rfl) (hf:X.fn y = true∨X.env.scope.names.lookup y = some .local:=by first | exact .inl rfl | exact .inr rfl | assumption) :
  PS X (.Assign [.Name y py] (.ListComp elt [⟨tg,iter,ifs,0⟩] sc pos) spos) (Zzw (Zxa own caps wi g tt te) (Zlc i)):=by
 intro pins s σ H D I h
 have hfr:∀ y ∈ sc.names,y.2 = .free→∃ c,X.env.cells.lookup y.1 = some c:=fun y hy e=>by
  obtain ⟨n,k⟩:=y
  have e':k = .free:=e
  subst e'
  exact I.ok.has n (S.fr hy)
 rw [exec_Assign_Name_used _ _ _ _ hsw]
 refine wpAny_bind (wpAny_standAt (wpAny_bind ?_))
 show wpAny _ X.A (do let _ ← comprehension (.ListComp elt [⟨tg,iter,ifs,0⟩] sc pos) sc X.env _ (newList []) false (eval iter X.env) (some (assign (.Name y py) X.env))) _ _ s
 refine wpAny_bind (wpAny_mono (wpAny_comprehension_free (use:=some (assign (.Name y py) X.env)) (Q:=fun _ s'=>SP X pins D .next s') rfl hs (Zbt hfr) S.kind (fun y hy e=>by obtain ⟨n,k⟩:=y; have e':k = .local:=e; subst e'; exact S.lk hy) ?_) (fun _ s' hq=>wpAny_pure (wpAny_pure hq)) fun _ _ e=>e)
 refine thn (hi pins s σ H _ I h) fun v s1 h1=>thn h1 fun itv s2 h2=>?_
 obtain ⟨it,fp,tn,J,H2,e,I2,T,st2,f2,q⟩:=h2
 subst e
 refine wpAny_newObj_type ?_
 refine thn (Zfr (iter:=iter) (pos:=pos) (Qf:=compPost (model X.prog X.w) X.A X.xe (some (assign (.Name y py) X.env)) (fun _ s'=>SP X pins D .next s') (.ref s2.heap.objs.size) (s2.heap.objs.size + 1)) S hc hg ht he I2 T st2 f2 (q s2.heap.objs.size I2.fresh) ?_) fun cenv s4 ⟨hl,hr⟩=>?_
 ·intro s' σ' H' p' C cells I' eC q'
  subst eC
  obtain ⟨m,hn,_⟩:=id I'.loc
  have I3:Inv X pins σ H' s':=Zks I2 f2 I' (.refl ..)
  show wpAny _ X.A (assign (.Name y py) X.env (.ref s2.heap.objs.size)) _ _ s'
  refine wpAny_assign_Name (Zht (v:=.ref s2.heap.objs.size) I3 hN hy hx rfl (fun s5 I5 hsb=>?_) hf)
  have hC:s2.heap.objs.size < s2.heap.objs.size + 1:=Nat.lt_succ_self _
  have ltL:X.env.locals < s2.heap.objs.size:=I2.lt
  have ltC:∀ x c,X.env.cells.lookup x = some c→c < s2.heap.objs.size:=fun x c e=>by
   obtain ⟨w',z⟩:=I2.cell x c e
   exact z.lt
  refine ⟨m,?_,fun h' hs'=>⟨σ.set i (some (.ref s2.heap.objs.size)),H',?_,q'⟩⟩
  ·obtain ⟨a,hsa,ha⟩:=hsb
   refine hn.sameBut hsa ?_
   rcases ha with ha | ha
   ·rw [ha]; exact Nat.ne_of_gt (Nat.lt_trans ltL hC)
   ·exact Nat.ne_of_gt (Nat.lt_trans (ltC _ _ ha) hC)
  ·refine I5.turned (t':=s5.toks) (it:=s2.heap.objs.size + 1) (fun b o hb e=>(hs'.2 b hb).trans e) I'.free (Nat.ne_of_gt (Nat.lt_trans ltL hC)) (.inr (Nat.le_trans I2.sz (Nat.le_of_lt hC))) (fun x c e=>Nat.ne_of_lt (Nat.lt_trans (ltC x c e) hC)) fun p hp=>?_
   obtain ⟨e,_⟩:=I2.pin p hp
   exact Nat.ne_of_lt (Nat.lt_trans (Heap.lt_size e) hC)
 ·rw [← hl] at hr
  exact hr
end
section
variable (n:Nat) (D:Addr) (Pv:Nat→List V→St→Hp→Prop)
variable {n D Pv}
end
end L2
namespace L2
open PySem PySem.Spec PyProof.Rows
mutual
inductive Is (H:Hp) (L:Addr→Prop):V→PyData→Prop where
 | non:Is H L .non .none
 | bl (b:Bool):Is H L (.bl b) (.bool b)
 | int (i:Int):Is H L (.int i) (.int i)
 | str (x:Str):Is H L (.str x) (.str x)
 | lst {a:Addr} {xs:List V} {ds:List PyData}:L a→H a = some (.lst xs)→IsAll H L xs ds→Is H L (.ref a) (.list ds)
 | tup {a:Addr} {xs:List V} {ds:List PyData}:H a = some (.tup xs)→IsAll H L xs ds→Is H L (.ref a) (.tuple ds)
inductive IsAll (H:Hp) (L:Addr→Prop):List V→List PyData→Prop where
 | nil:IsAll H L [] []
 | cons {x:V} {xs:List V} {d:PyData} {ds:List PyData}:Is H L x d→IsAll H L xs ds→IsAll H L (x :: xs) (d :: ds)
end
section
variable {H H':Hp} {L L':Addr→Prop}
theorem IsAll.ind {Q:List V→List PyData→Prop} (n:Q [] []) (c:∀ {x:V} {xs:List V} {d:PyData} {ds:List PyData},Is H L x d→IsAll H L xs ds→Q xs ds→Q (x :: xs) (d :: ds)):∀ {xs ds},IsAll H L xs ds→Q xs ds:=fun h =>
 IsAll.rec (motive_1:=fun _ _ _=>True) (motive_2:=fun xs ds _=>Q xs ds) trivial (fun _=>trivial) (fun _=>trivial) (fun _=>trivial) (fun _ _ _ _=>trivial) (fun _ _ _=>trivial) n (fun p q _ r=>c p q r) h
theorem IsAll.length {xs:List V} {ds:List PyData} (h:IsAll H L xs ds):xs.length = ds.length:=IsAll.ind (Q:=fun xs ds=>xs.length = ds.length) rfl (fun _ _ r=>congrArg (· + 1) r) h
theorem IsAll.set {xs:List V} {ds:List PyData} {x:V} {d:PyData} (i:Nat) (h:IsAll H L xs ds) (k:Is H L x d):IsAll H L (xs.set i x) (ds.set i d) :=
 IsAll.ind (Q:=fun xs ds=>∀ i,IsAll H L (xs.set i x) (ds.set i d)) (fun _=>.nil) (fun h q r i=>Nat.casesOn i (.cons k q) fun i=>.cons h (r i)) h i
end
section
variable {X:Cx} {pins:List (Addr × Obj)} {σ:St} {H:Hp} {s:Shared} {L L':Addr→Prop}
end
noncomputable abbrev Shp (d:PyData):Prop:=SeqAt.shaped d = true
section
variable {X:Cx}
end
mutual
noncomputable def Z0:PyData→Bool
 | .none=>true
 | .int _=>true
 | .str _=>true
 | .list ds=>J0 ds
 | .tuple ds=>J0 ds
 | _=>false
noncomputable def J0:List PyData→Bool
 | []=>true
 | d :: ds=>Z0 d && J0 ds
end
mutual
theorem Zjf:∀ (d e:PyData),Z0 d = true→Z0 e = true→(PyData.eqv d e = true ↔ d = e)
 | .none,e,_,he=>by cases e <;> simp_all [PyData.eqv,Z0]
 | .int i,e,_,he=>by cases e <;> simp_all [PyData.eqv,Z0]
 | .str i,e,_,he=>by cases e <;> simp_all [PyData.eqv,Z0]
 | .list ds,e,hd,he=>by
  cases e with
  | list es =>
   rw [Z0] at hd he
   rw [PyData.eqv,PyData.list.injEq]
   exact Zdc ds es hd he
  | _=>simp_all [PyData.eqv,Z0]
 | .tuple ds,e,hd,he=>by
  cases e with
  | tuple es =>
   rw [Z0] at hd he
   rw [PyData.eqv,PyData.tuple.injEq]
   exact Zdc ds es hd he
  | _=>simp_all [PyData.eqv,Z0]
 | .bool b,e,hd,_=>by simp [Z0] at hd
 | .dict b,e,hd,_=>by simp [Z0] at hd
theorem Zdc:∀ (ds es:List PyData),J0 ds = true→J0 es = true→(PyData.eqvAll ds es = true ↔ ds = es)
 | [],[],_,_=>by simp [PyData.eqvAll]
 | [],_ :: _,_,_=>by simp [PyData.eqvAll]
 | _ :: _,[],_,_=>by simp [PyData.eqvAll]
 | d :: ds,e :: es,hd,he=>by
  rw [J0,Bool.and_eq_true] at hd he
  rw [PyData.eqvAll,Bool.and_eq_true,Zjf d e hd.1 he.1,Zdc ds es hd.2 he.2,List.cons.injEq]
end
theorem Zx1 {d e:PyData} (h:Z0 d = true) (k:Z0 e = true) (q:d = e):PyData.eqv d e = true:=(Zjf d e h k).mpr q
theorem Z1y {d e:PyData} (h:Z0 d = true) (k:Z0 e = true) (q:d ≠ e):PyData.eqv d e = false:=Bool.eq_false_iff.mpr fun z=>q ((Zjf d e h k).mp z)
noncomputable def fr (a b:Int):PyData:=.tuple [.int a,.int b]
end L2
namespace L2
open PySem PySem.Spec PyProof.Rows
noncomputable def frD (q:Rat):PyData:=fr q.num (q.den:Int)
noncomputable def BQ (n:Nat) (q:Rat):Prop:=Bt n q.num∧Bt n (q.den:Int)
theorem BQ.zero:BQ 1 0:=⟨by unfold Bt; decide,by unfold Bt; decide⟩
end L2
namespace L2
open PySem PySem.Spec PyProof.Rows
section
variable {X:Cx}
end
end L2
namespace L2
open PySem PySem.Spec PyProof.Rows
section
variable {X:Cx} {K:PySem.W.Frag} {a b o e:Expr} {ta tb tl to:TE} {pos:Pos}
theorem Zr0 (hK:X.K = K):IxR X (Z4h K):=hK ▸ Zoc
theorem Zca (hK:X.K = K):IxR X (rIx K):=hK ▸ Zym
theorem Zr4 (hK:X.K = K):SlR X (Z8u K):=hK ▸ Zul
noncomputable def Z8y (K:PySem.W.Frag):List V→Hp→VK→Prop:=fun xs H Q=>∃ p ys,xs = [.ref p]∧(SqL K H p ys∨SqT K H p ys)∧Q (.int ys.length) H
theorem Zp1 (hK:X.K = K):Zcn X (.builtin "len") (Z8y K):=by subst hK; exact Zhv
noncomputable def Zok (K:PySem.W.Frag):List V→Hp→VK→Prop:=fun xs H Q=>∃ p ys,xs = [.ref p]∧(SqL K H p ys∨SqT K H p ys)∧∀ l,H l = none→Q (.ref l) (upd H l (.lst ys))
theorem Zfp (hK:X.K = K):Zcn X (.type "list") (Zok K):=by subst hK; exact Zhn
noncomputable def Yai (K:PySem.W.Frag) (ta:TE):TT:=fun σ H Q=>ta σ H fun x H'=>∃ k,Z5p K x H' k∧Q k H'
theorem Zxn (hK:X.K = K) (ha:PE X a ta) (he:∀ whole,isTrue a X.env whole = (do let v ← whole; standAt a.pos; holding [v] (truthy v))):PT X a (Yai K ta):=by subst hK; exact Zq6 ha he
theorem Zqe {tg l:Expr} (hK:X.K = K) (hl:PE X l tl):PI X tg l (Zyn K tl):=by subst hK; exact Zun hl
theorem Zt8 {tg l:Expr} (hK:X.K = K) (hl:PE X l tl):PI X tg l (Z8x K tl):=by subst hK; exact Z1w hl
theorem Zsk (hK:X.K = K):OpR X (compareOp .In) (rIn K false):=by subst hK; exact Zoy
theorem Zij (hK:X.K = K):OpR X (compareOp .NotIn) (rIn K true):=by subst hK; exact Zih
end
end L2
namespace L2
open PySem PySem.Spec PyProof.Rows
theorem Z2 {H:Hp} {p:Addr} (h:H p = none) (o:HO):Same H (upd H p o):=fun b u q=>by rw [Zj (Z7 q h)]; exact q
noncomputable def But (p:Addr) (H H':Hp):Prop:=∀ b o,b ≠ p→H b = some o→H' b = some o
theorem But.refl (p:Addr) (H:Hp):But p H H:=fun _ _ _ h=>h
theorem But.upd (p:Addr) (H:Hp) (o:HO):But p H (upd H p o):=fun b u n e=>by rw [Zj n]; exact e
noncomputable def Pl (H:Hp) (p:Addr) (n:Nat):Prop:=∃ a b c:Int,H p = some (.lst [.int a,.int b,.int c])∧0 ≤ c∧c ≤ n
theorem Pl.at {H:Hp} {p:Addr} {n:Nat} (h:Pl H p n):∃ xs,H p = some (.lst xs):=by
 obtain ⟨a,b,c,e,h1,h2⟩:=h
 exact ⟨_,e⟩
namespace B
theorem boot_len:bootBuiltins "len" = some (.builtin "len"):=by decide +kernel
theorem boot_isinstance:bootBuiltins "isinstance" = some (.builtin "isinstance"):=by decide +kernel
theorem boot_int:bootBuiltins "int" = some (.type "int"):=by decide +kernel
theorem boot_bool:bootBuiltins "bool" = some (.type "bool"):=by decide +kernel
theorem boot_list:bootBuiltins "list" = some (.type "list"):=by decide +kernel
theorem boot_tuple:bootBuiltins "tuple" = some (.type "tuple"):=by decide +kernel
theorem boot_range:bootBuiltins "range" = some (.type "range"):=by decide +kernel
theorem boot_zip:bootBuiltins "zip" = some (.type "zip"):=by decide +kernel
theorem boot_set:bootBuiltins "set" = some (.type "set"):=by decide +kernel
end B
theorem Zk7 {a b:Int} (hb:0 < b):a.fmod b = a % b:=Int.fmod_eq_emod_of_nonneg a (by omega)
theorem Zs6:(2:Nat) ≤ sizeLine:=by decide
end L2
namespace L2
open PySem PySem.Spec PyProof.Rows
section
variable {X:Cx} {K:PySem.W.Frag} {pos:Pos}
end
end L2
namespace L2
open PySem PySem.Spec PyProof.Rows
end L2
namespace L2
open PySem PySem.Spec PyProof.Rows
section
variable {X:Cx}
end
end L2
namespace L2
open PySem PySem.Spec PyProof.Rows
theorem BQ.n {n:Nat} {q:Rat} (h:BQ n q):Bt n q.num:=h.1
theorem BQ.d {n:Nat} {q:Rat} (h:BQ n q):Bt n (q.den:Int):=h.2
end L2
namespace L2
end L2
namespace L2
end L2
namespace L2
open PySem PySem.Spec PyProof.Rows
variable {G:PySem.W.Frag}
noncomputable def KS (G:PySem.W.Frag) (a:Addr) (ns:List Int):Prop:=∃ (o:Obj) (its:Array Value) (n:Nat),G.lookup a = some o∧o.cls = .type "list" ∧ o.dict = none∧o.data = .seq its n∧its.size ≤ sizeLine∧Vals (ns.map V.int) its.toList
theorem KS.sq {G:PySem.W.Frag} {H:Hp} {a:Addr} {ns:List Int} (h:KS G a ns):SqL G H a (ns.map V.int):=.inr h
noncomputable def exD (x:Str):PyData:=.dict [(.str x,.none)]
noncomputable def fnD (x:Str):PyData:=.dict [(.str x,.bool true)]
noncomputable def Zfe:PyData→Bool | .dict ((_,.bool _) :: _)=>true | _=>false
noncomputable def ClsAt (G:PySem.W.Frag) (x:Str) (C:Addr):Prop:=PySem.W.nsIn G mainGlobals x = some (some (.ref C))
structure Zcc (G:PySem.W.Frag) (C:Addr):Prop where
 ga:PySem.W.findIn G (.ref C) "__getattribute__" = some (some (.builtin "BaseException.__getattribute__"))
 gt:PySem.W.findIn G (.ref C) "__getattr__" = some none
 cl:PySem.W.findIn G (.ref C) "__class__" = some (some (.builtin "object.__class__"))
 isB:PySem.W.subIn G (.ref C) (.type "BaseException") = some true
 isO:PySem.W.subIn G (.ref C) (.type "object") = some true
 isC:(PySem.W.clsIn G C).isSome = true
 k1:PySem.W.kitOne G (.ref C) (.type "int") = some false
 k2:PySem.W.kitOne G (.ref C) (.type "bool") = some false
 k3:PySem.W.kitOne G (.ref C) (.type "str") = some false
 k4:PySem.W.kitOne G (.ref C) (.type "list") = some false
 k5:PySem.W.kitOne G (.ref C) (.type "tuple") = some false
noncomputable def ExO (C a:Addr) (h:Heap):Prop:=∃ o vs,h.get? a = some o∧o.cls = .ref C∧o.data = .fields vs
inductive ImO where
 | tup (xs:List V)
 | ext (φ:Heap→Prop)
noncomputable def ImO.ho:ImO→HO
 | .tup xs=>.tup xs
 | .ext φ=>.ext φ
inductive MuO where
 | lst (xs:List V)
 | dK (kvs:List (Key × V))
 | dT (kvs:List (List Key × V))
noncomputable def MuO.ho:MuO→HO
 | .lst xs=>.lst xs
 | .dK kvs=>.dK kvs
 | .dT kvs=>.dT kvs
noncomputable def Zyv:Key→PyData
 | .inl i=>.int i
 | .inr x=>.str x
noncomputable def keyT (ks:List Key):PyData:=.tuple (ks.map Zyv)
noncomputable abbrev KY:=Sum Key (List Key)
noncomputable def kyD:KY→PyData
 | .inl k=>Zyv k
 | .inr ks=>keyT ks
noncomputable def MuO.dic (t:Bool) (ks:List KY) (xs:List V):MuO→Prop
 | .lst _=>False
 | .dK kvs=>t = false∧ks = kvs.map (fun p=>.inl p.1)∧xs = kvs.map (·.2)
 | .dT kvs=>t = true∧ks = kvs.map (fun p=>.inr p.1)∧xs = kvs.map (·.2)
noncomputable def dcD (t:Bool) (ks:List KY) (ds:List PyData):PyData:=.dict ((.none,.bool t) :: (ks.map kyD).zip ds)
theorem ImO.nm {H:Hp} {a:Addr} {x:ImO} {y:MuO} (h:H a = some x.ho) (h':H a = some y.ho):False:=by
 rw [h] at h'
 cases x <;> cases y <;> cases h'
theorem ImO.nl {H:Hp} {a:Addr} {x:ImO} {ys:List V} (h:H a = some x.ho) (h':H a = some (.lst ys)):False:=by
 rw [h] at h'
 cases x <;> cases h'
mutual
inductive Da (G:PySem.W.Frag) (H:Hp) (L:Addr→Prop):V→PyData→Prop where
 | non:Da G H L .non .none
 | bl (b:Bool):Da G H L (.bl b) (.bool b)
 | int (i:Int):Da G H L (.int i) (.int i)
 | str (x:Str):Da G H L (.str x) (.str x)
 | lst {a:Addr} {xs:List V} {ds:List PyData}:L a→Rd H a (.lst xs)→Das G H L xs ds→Da G H L (.ref a) (.list ds)
 | tup {a:Addr} {xs:List V} {ds:List PyData}:H a = some (.tup xs)→Das G H L xs ds→Da G H L (.ref a) (.tuple ds)
 | scr {a:Addr} {ns:List Int}:KS G a ns→Da G H L (.ref a) (.list (ns.map PyData.int))
 | exc {a C:Addr} {x:Str}:Zcc G C→ClsAt G x C→H a = some (.ext (ExO C a))→Da G H L (.ref a) (exD x)
 | fn {a:Addr} {x:Str}:ClsAt G x a→Da G H L (.ref a) (fnD x)
 | dic {a:Addr} {o:MuO} {t:Bool} {ks:List KY} {xs:List V} {ds:List PyData}:L a→Rd H a o.ho→o.dic t ks xs→Das G H L xs ds→Da G H L (.ref a) (dcD t ks ds)
inductive Das (G:PySem.W.Frag) (H:Hp) (L:Addr→Prop):List V→List PyData→Prop where
 | nil:Das G H L [] []
 | cons {x:V} {xs:List V} {d:PyData} {ds:List PyData}:Da G H L x d→Das G H L xs ds→Das G H L (x :: xs) (d :: ds)
end
section
variable {H H':Hp} {L L':Addr→Prop}
theorem Da.both {P:V→PyData→Prop} {Q:List V→List PyData→Prop} (c1:P .non .none) (c2:∀ b,P (.bl b) (.bool b)) (c3:∀ i,P (.int i) (.int i)) (c4:∀ x,P (.str x) (.str x))
  (c5:∀ {a:Addr} {xs:List V} {ds:List PyData},L a→Rd H a (.lst xs)→Q xs ds→P (.ref a) (.list ds)) (c6:∀ {a:Addr} {xs:List V} {ds:List PyData},H a = some (.tup xs)→Q xs ds→P (.ref a) (.tuple ds))
  (c7:∀ {a:Addr} {ns:List Int},KS G a ns→P (.ref a) (.list (ns.map PyData.int))) (c8:∀ {a C:Addr} {x:Str},Zcc G C→ClsAt G x C→H a = some (.ext (ExO C a))→P (.ref a) (exD x)) (c9:∀ {a:Addr} {x:Str},ClsAt G x a→P (.ref a) (fnD x))
  (c10:∀ {a:Addr} {o:MuO} {t:Bool} {ks:List KY} {xs:List V} {ds:List PyData},L a→Rd H a o.ho→o.dic t ks xs→Q xs ds→P (.ref a) (dcD t ks ds)) (n:Q [] []) (c:∀ {x:V} {xs:List V} {d:PyData} {ds:List PyData},P x d→Q xs ds→Q (x :: xs) (d :: ds)):(∀ {v d},Da G H L v d→P v d)∧∀ {xs ds},Das G H L xs ds→Q xs ds :=
 ⟨fun h=>Da.rec (motive_1:=fun v d _=>P v d) (motive_2:=fun xs ds _=>Q xs ds) c1 c2 c3 c4 (fun p e _ r=>c5 p e r) (fun e _ r=>c6 e r) (fun k=>c7 k) (fun k l m=>c8 k l m) (fun k=>c9 k) (fun p e k _ r=>c10 p e k r) n (fun _ _ p q=>c p q) h,
   fun h=>Das.rec (motive_1:=fun v d _=>P v d) (motive_2:=fun xs ds _=>Q xs ds) c1 c2 c3 c4 (fun p e _ r=>c5 p e r) (fun e _ r=>c6 e r) (fun k=>c7 k) (fun k l m=>c8 k l m) (fun k=>c9 k) (fun p e k _ r=>c10 p e k r) n (fun _ _ p q=>c p q) h⟩
theorem Das.ind {Q:List V→List PyData→Prop} (n:Q [] []) (c:∀ {x:V} {xs:List V} {d:PyData} {ds:List PyData},Da G H L x d→Das G H L xs ds→Q xs ds→Q (x :: xs) (d :: ds)):∀ {xs ds},Das G H L xs ds→Q xs ds:=fun h =>
 Das.rec (motive_1:=fun _ _ _=>True) (motive_2:=fun xs ds _=>Q xs ds) trivial (fun _=>trivial) (fun _=>trivial) (fun _=>trivial) (fun _ _ _ _=>trivial) (fun _ _ _=>trivial) (fun _=>trivial) (fun _ _ _=>trivial) (fun _=>trivial) (fun _ _ _ _ _=>trivial) n (fun p q _ r=>c p q r) h
theorem Da.frame2 (hl:∀ a (xs:MuO),L a→Rd H a xs.ho→L' a∧Rd H' a xs.ho) (ht:∀ a (xs:ImO),H a = some xs.ho→H' a = some xs.ho):(∀ {v:V} {d:PyData},Da G H L v d→Da G H' L' v d)∧∀ {xs:List V} {ds:List PyData},Das G H L xs ds→Das G H' L' xs ds :=
 Da.both .non .bl .int .str (fun {_ xs _} p e r=>.lst (hl _ (.lst xs) p e).1 (hl _ (.lst xs) p e).2 r) (fun {_ xs _} e r=>.tup (ht _ (.tup xs) e) r) .scr (fun c n e=>.exc c n (ht _ (.ext _) e)) .fn (fun p e k r=>.dic (hl _ _ p e).1 (hl _ _ p e).2 k r) .nil .cons
theorem Da.frame (hl:∀ a (xs:MuO),L a→Rd H a xs.ho→L' a∧Rd H' a xs.ho) (ht:∀ a (xs:ImO),H a = some xs.ho→H' a = some xs.ho) {v:V} {d:PyData} (h:Da G H L v d):Da G H' L' v d:=(Da.frame2 hl ht).1 h
theorem Das.frame (hl:∀ a (xs:MuO),L a→Rd H a xs.ho→L' a∧Rd H' a xs.ho) (ht:∀ a (xs:ImO),H a = some xs.ho→H' a = some xs.ho) {xs:List V} {ds:List PyData} (h:Das G H L xs ds):Das G H' L' xs ds:=(Da.frame2 hl ht).2 h
theorem Rd.same {a:Addr} {u:HO} (s:Same H H') (h:Rd H a u):Rd H' a u:=h.imp (s _ _) fun ⟨o,h⟩=>⟨o,s _ _ h⟩
theorem Rd.some {a:Addr} {u:HO} (h:Rd H a u):H a ≠ Option.none:=by
 rcases h with h | ⟨o,h⟩ <;> rw [h] <;> intro z <;> cases z
theorem Da.same (h:Same H H') {v:V} {d:PyData} (x:Da G H L v d):Da G H' L v d:=x.frame (fun a xs p e=>⟨p,e.same h⟩) fun a xs e=>h _ _ e
theorem Das.same (h:Same H H') {v:List V} {d:List PyData} (x:Das G H L v d):Das G H' L v d:=x.frame (fun a xs p e=>⟨p,e.same h⟩) fun a xs e=>h _ _ e
theorem Da.wide (h:∀ a,L a→H a ≠ none→L' a) {v:V} {d:PyData} (x:Da G H L v d):Da G H L' v d:=x.frame (fun a xs p e=>⟨h a p e.some,e⟩) fun a xs e=>e
theorem Das.wide (h:∀ a,L a→H a ≠ none→L' a) {v:List V} {d:List PyData} (x:Das G H L v d):Das G H L' v d:=x.frame (fun a xs p e=>⟨h a p e.some,e⟩) fun a xs e=>e
theorem Das.length {xs:List V} {ds:List PyData} (h:Das G H L xs ds):xs.length = ds.length:=Das.ind (Q:=fun xs ds=>xs.length = ds.length) rfl (fun _ _ r=>congrArg (· + 1) r) h
theorem Das.append {xs ys:List V} {ds es:List PyData} (h:Das G H L xs ds) (k:Das G H L ys es):Das G H L (xs ++ ys) (ds ++ es):=Das.ind (Q:=fun xs ds=>Das G H L (xs ++ ys) (ds ++ es)) k (fun h _ r=>.cons h r) h
theorem Das.snoc {xs:List V} {ds:List PyData} {x:V} {d:PyData} (h:Das G H L xs ds) (k:Da G H L x d):Das G H L (xs ++ [x]) (ds ++ [d]):=h.append (.cons k .nil)
theorem Das.get {xs:List V} {ds:List PyData} {i:Nat} {d:PyData} (h:Das G H L xs ds):ds[i]? = some d→∃ x,xs[i]? = some x∧Da G H L x d :=
 Das.ind (Q:=fun xs ds=>∀ i,ds[i]? = some d→∃ x,xs[i]? = some x∧Da G H L x d) (fun _ e=>(Option.some_ne_none _ (e.symm.trans List.getElem?_nil)).elim) (fun {x _ _ _} h _ r i=>Nat.casesOn i (fun e=>⟨x,rfl,Option.some.inj e ▸ h⟩) fun i e=>r i e) h i
theorem Das.take {xs:List V} {ds:List PyData} (n:Nat) (h:Das G H L xs ds):Das G H L (xs.take n) (ds.take n) :=
 Das.ind (Q:=fun xs ds=>∀ n,Das G H L (xs.take n) (ds.take n)) (fun n=>by rw [List.take_nil,List.take_nil]; exact .nil) (fun h _ r n=>Nat.casesOn n .nil fun n=>.cons h (r n)) h n
theorem Das.drop {xs:List V} {ds:List PyData} (n:Nat) (h:Das G H L xs ds):Das G H L (xs.drop n) (ds.drop n) :=
 Das.ind (Q:=fun xs ds=>∀ n,Das G H L (xs.drop n) (ds.drop n)) (fun n=>by rw [List.drop_nil,List.drop_nil]; exact .nil) (fun h q r n=>Nat.casesOn n (.cons h q) fun n=>r n) h n
theorem Das.ints (ns:List Int):Das G H L (ns.map V.int) (ns.map PyData.int):=by
 induction ns with
 | nil=>exact .nil
 | cons n ns ih=>exact .cons (.int n) ih
theorem Das.int_inv {xs:List V} {ns:List Int} (h:Das G H L xs (ns.map PyData.int)):xs = ns.map V.int:=by
 induction ns generalizing xs with
 | nil=>cases h; rfl
 | cons n ns ih =>
  rw [List.map_cons] at h
  cases h with
  | cons h r=>cases h; rw [ih r]; rfl
end
theorem Zl3 {h:Heap} (ns:List Int) {us:List Value} (v:Vals (ns.map V.int) us):∃ as,ReadsAll h us (ns.map PyData.int) as:=by
 induction ns generalizing us with
 | nil=>cases v; exact ⟨_,.nil⟩
 | cons n ns ih =>
  rw [List.map_cons] at v
  cases v with
  | cons r rs =>
   obtain ⟨t,e⟩:=(show ∃ t,_ = Value.int n t from r)
   subst e
   obtain ⟨bs,k'⟩:=ih rs
   exact ⟨_,.cons (.int n t) k'⟩
section
variable {X:Cx} {pins:List (Addr × Obj)} {σ:St} {H:Hp} {s:Shared} {L L':Addr→Prop}
theorem Da.reads2 (hG:X.K = G) (I:Inv X pins σ H s):(∀ {v:V} {d:PyData},Da G H L v d→∀ u,RelV v u→d.canLay0 = true→∃ as,Reads s.heap u d as)∧∀ {xs:List V} {ds:List PyData},Das G H L xs ds→∀ us,Vals xs us→PyData.canLayAll0 ds = true→∃ as,ReadsAll s.heap us ds as:=by
 refine Da.both ?_ ?_ ?_ ?_ ?_ ?_ ?_ ?_ ?_ ?_ ?_ ?_
 ·intro u r _
  cases (show _ = Value.none from r)
  exact ⟨_,.none⟩
 ·intro b u r _
  cases (show _ = Value.bool b from r)
  exact ⟨_,.bool b⟩
 ·intro i u r _
  obtain ⟨t,e⟩:=(show ∃ t,_ = Value.int i t from r)
  subst e
  exact ⟨_,.int i t⟩
 ·intro x u r _
  obtain ⟨t,e⟩:=(show ∃ t,_ = Value.str x t from r)
  subst e
  exact ⟨_,.str x t⟩
 ·intro a xs ds _ e q u r hcl
  cases (show _ = Value.ref a from r)
  obtain ⟨_,its,n,vs,h1⟩:=(show ObjOk X.prog X.w H s.heap a (.lst xs) from e.ok I.hok)
  rw [PyData.canLay0] at hcl
  obtain ⟨as,k⟩:=q _ vs hcl
  exact ⟨_,Reads.list h1 rfl rfl k⟩
 ·intro a xs ds e q u r hcl
  cases (show _ = Value.ref a from r)
  obtain ⟨_,its,vs,o,ho,hc,n,hd⟩:=(show ObjOk X.prog X.w H s.heap a (.tup xs) from I.hok a _ e)
  rw [PyData.canLay0] at hcl
  obtain ⟨as,k⟩:=q _ vs hcl
  exact ⟨_,Reads.tuple ho hc hd k⟩
 ·intro a ns k u r _
  cases (show _ = Value.ref a from r)
  subst hG
  obtain ⟨its,vs,⟨o,n,ho,hc,hd,hs⟩,_⟩:=I.list (k.sq (H:=H))
  obtain ⟨as,q⟩:=Zl3 ns vs
  exact ⟨_,Reads.list ho hc hs q⟩
 ·intro a C x _ _ e u r hc
  rw [exD,PyData.canLay0] at hc
  cases hc
 ·intro a x _ u r hc
  rw [fnD,PyData.canLay0] at hc
  cases hc
 ·intro a o t ks xs ds _ _ _ _ u r hc
  rw [dcD,PyData.canLay0] at hc
  cases hc
 ·intro us v _
  cases v
  exact ⟨_,.nil⟩
 ·intro x xs d ds h q us v hc
  cases v with
  | cons r rs =>
   rw [PyData.canLayAll0,Bool.and_eq_true] at hc
   obtain ⟨as,k⟩:=h _ r hc.1
   obtain ⟨bs,k'⟩:=q _ rs hc.2
   exact ⟨_,.cons k k'⟩
theorem Da.reads (hG:X.K = G) (I:Inv X pins σ H s) {v:V} {d:PyData} {u:Value} (h:Da G H L v d) (r:RelV v u) (c:d.canLay0 = true):∃ as,Reads s.heap u d as:=(Da.reads2 hG I).1 h u r c
end
inductive OT where
 | fz (d:PyData)
 | nd (ts:List OT)
 | tp (ts:List OT)
 | dc (t:Bool) (ks:List KY) (ds:List PyData)
mutual
noncomputable def OT.data:OT→PyData
 | .fz d=>d
 | .nd ts=>.list (OT.datas ts)
 | .tp ts=>.tuple (OT.datas ts)
 | .dc t ks ds=>dcD t ks ds
noncomputable def OT.datas:List OT→List PyData
 | []=>[]
 | t :: ts=>t.data :: OT.datas ts
end
theorem OT.datas_map:∀ (ts:List OT),OT.datas ts = ts.map OT.data
 | []=>rfl
 | t :: ts=>by rw [OT.datas,OT.datas_map ts]; rfl
@[simp] theorem OT.data_fz (d:PyData):(OT.fz d).data = d:=by rw [OT.data]
@[simp] theorem OT.data_nd (ts:List OT):(OT.nd ts).data = .list (ts.map OT.data):=by rw [OT.data,OT.datas_map]
@[simp] theorem OT.data_tp (ts:List OT):(OT.tp ts).data = .tuple (ts.map OT.data):=by rw [OT.data,OT.datas_map]
theorem OT.data_dc (t:Bool) (ks:List KY) (ds:List PyData):(OT.dc t ks ds).data = dcD t ks ds:=by rw [OT.data]
@[simp] theorem OT.map_fz (ds:List PyData):(ds.map OT.fz).map OT.data = ds:=by
 rw [List.map_map]
 exact (List.map_congr_left fun d _=>OT.data_fz d).trans (List.map_id _)
mutual
inductive Own (G:PySem.W.Frag) (H:Hp) (L:Addr→Prop):V→OT→List Addr→Prop where
 | fz {v:V} {d:PyData}:Da G H L v d→Own G H L v (.fz d) []
 | nd {a:Addr} {xs:List V} {ts:List OT} {bs:List Addr}:H a = some (.lst xs)→Owns G H L xs ts bs→Own G H L (.ref a) (.nd ts) (a :: bs)
 | tp {a:Addr} {xs:List V} {ts:List OT} {bs:List Addr}:H a = some (.tup xs)→Owns G H L xs ts bs→Own G H L (.ref a) (.tp ts) bs
 | dc {a:Addr} {o:MuO} {t:Bool} {ks:List KY} {xs:List V} {ds:List PyData}:H a = some o.ho→o.dic t ks xs→Das G H L xs ds→Own G H L (.ref a) (.dc t ks ds) [a]
inductive Owns (G:PySem.W.Frag) (H:Hp) (L:Addr→Prop):List V→List OT→List Addr→Prop where
 | nil:Owns G H L [] [] []
 | cons {x:V} {xs:List V} {t:OT} {ts:List OT} {as bs:List Addr}:Own G H L x t as→Owns G H L xs ts bs→Owns G H L (x :: xs) (t :: ts) (as ++ bs)
end
section
variable {H H':Hp} {L L':Addr→Prop}
theorem Own.both {P:V→OT→List Addr→Prop} {Q:List V→List OT→List Addr→Prop} (c1:∀ {v:V} {d:PyData},Da G H L v d→P v (.fz d) []) (c2:∀ {a:Addr} {xs:List V} {ts:List OT} {bs:List Addr},H a = some (.lst xs)→Q xs ts bs→P (.ref a) (.nd ts) (a :: bs))
  (c3:∀ {a:Addr} {xs:List V} {ts:List OT} {bs:List Addr},H a = some (.tup xs)→Q xs ts bs→P (.ref a) (.tp ts) bs) (c4:∀ {a:Addr} {o:MuO} {t:Bool} {ks:List KY} {xs:List V} {ds:List PyData},H a = some o.ho→o.dic t ks xs→Das G H L xs ds→P (.ref a) (.dc t ks ds) [a]) (n:Q [] [] []) (c:∀ {x:V} {xs:List V} {t:OT} {ts:List OT} {as bs:List Addr},P x t as→Q xs ts bs→Q (x :: xs) (t :: ts) (as ++ bs)) :
  (∀ {v t as},Own G H L v t as→P v t as)∧∀ {xs ts as},Owns G H L xs ts as→Q xs ts as :=
 ⟨fun h=>Own.rec (motive_1:=fun v t as _=>P v t as) (motive_2:=fun xs ts as _=>Q xs ts as) c1 (fun e _ r=>c2 e r) (fun e _ r=>c3 e r) (fun e k r=>c4 e k r) n (fun _ _ p q=>c p q) h,
   fun h=>Owns.rec (motive_1:=fun v t as _=>P v t as) (motive_2:=fun xs ts as _=>Q xs ts as) c1 (fun e _ r=>c2 e r) (fun e _ r=>c3 e r) (fun e k r=>c4 e k r) n (fun _ _ p q=>c p q) h⟩
theorem Own.frame2 (hl:∀ a (xs:MuO),L a→Rd H a xs.ho→L' a∧Rd H' a xs.ho) (ht:∀ a (xs:ImO),H a = some xs.ho→H' a = some xs.ho) :
  (∀ {v:V} {t:OT} {as:List Addr},Own G H L v t as→(∀ a ∈ as,∀ xs:MuO,H a = some xs.ho→H' a = some xs.ho)→Own G H' L' v t as)∧∀ {xs:List V} {ts:List OT} {as:List Addr},Owns G H L xs ts as→(∀ a ∈ as,∀ xs:MuO,H a = some xs.ho→H' a = some xs.ho)→Owns G H' L' xs ts as :=
 Own.both (fun h _=>.fz (h.frame hl ht)) (fun {_ xs _ _} e r ha=>.nd (ha _ (.head _) (.lst xs) e) (r fun a m=>ha a (.tail _ m))) (fun {_ xs _ _} e r ha=>.tp (ht _ (.tup xs) e) (r ha)) (fun e k r ha=>.dc (ha _ (.head _) _ e) k (r.frame hl ht)) (fun _=>.nil) (fun h r ha=>.cons (h fun a m=>ha a (List.mem_append_left _ m)) (r fun a m=>ha a (List.mem_append_right _ m)))
theorem Own.frame (hl:∀ a (xs:MuO),L a→Rd H a xs.ho→L' a∧Rd H' a xs.ho) (ht:∀ a (xs:ImO),H a = some xs.ho→H' a = some xs.ho) {v:V} {t:OT} {as:List Addr} (ha:∀ a ∈ as,∀ xs:MuO,H a = some xs.ho→H' a = some xs.ho) (h:Own G H L v t as):Own G H' L' v t as:=(Own.frame2 hl ht).1 h ha
theorem Owns.frame (hl:∀ a (xs:MuO),L a→Rd H a xs.ho→L' a∧Rd H' a xs.ho) (ht:∀ a (xs:ImO),H a = some xs.ho→H' a = some xs.ho) {xs:List V} {ts:List OT} {as:List Addr} (ha:∀ a ∈ as,∀ xs:MuO,H a = some xs.ho→H' a = some xs.ho) (h:Owns G H L xs ts as):Owns G H' L' xs ts as:=(Own.frame2 hl ht).2 h ha
theorem Own.same (h:Same H H') {v:V} {t:OT} {as:List Addr} (x:Own G H L v t as):Own G H' L v t as:=x.frame (fun a xs p e=>⟨p,e.same h⟩) (fun a xs e=>h _ _ e) fun a _ xs e=>h _ _ e
theorem Own.wide (h:∀ a,L a→H a ≠ none→L' a) {v:V} {t:OT} {as:List Addr} (x:Own G H L v t as):Own G H L' v t as:=x.frame (fun a xs p e=>⟨h a p e.some,e⟩) (fun a xs e=>e) fun a _ xs e=>e
theorem Owns.wide (h:∀ a,L a→H a ≠ none→L' a) {v:List V} {t:List OT} {as:List Addr} (x:Owns G H L v t as):Owns G H L' v t as:=x.frame (fun a xs p e=>⟨h a p e.some,e⟩) (fun a xs e=>e) fun a _ xs e=>e
theorem Owns.same (h:Same H H') {v:List V} {t:List OT} {as:List Addr} (x:Owns G H L v t as):Owns G H' L v t as:=x.frame (fun a xs p e=>⟨p,e.same h⟩) (fun a xs e=>h _ _ e) fun a _ xs e=>h _ _ e
theorem Own.da2 (h:∀ a,L a→H a ≠ none→L' a):(∀ {v:V} {t:OT} {as:List Addr},Own G H L v t as→(∀ a ∈ as,L' a)→Da G H L' v t.data)∧∀ {v:List V} {t:List OT} {as:List Addr},Owns G H L v t as→(∀ a ∈ as,L' a)→Das G H L' v (OT.datas t) :=
 Own.both (fun k _=>by rw [OT.data_fz]; exact k.wide h) (fun e r ha=>by rw [OT.data]; exact .lst (ha _ (.head _)) (.inl e) (r fun a m=>ha a (.tail _ m))) (fun e r ha=>by rw [OT.data]; exact .tup e (r ha)) (fun e k r ha=>by rw [OT.data]; exact .dic (ha _ (.head _)) (.inl e) k (r.wide h)) (fun _=>.nil) (fun k r ha=>.cons (k fun a m=>ha a (List.mem_append_left _ m)) (r fun a m=>ha a (List.mem_append_right _ m)))
theorem Own.da (h:∀ a,L a→H a ≠ none→L' a) {v:V} {t:OT} {as:List Addr} (ha:∀ a ∈ as,L' a) (k:Own G H L v t as):Da G H L' v t.data:=(Own.da2 h).1 k ha
theorem Owns.das (h:∀ a,L a→H a ≠ none→L' a) {v:List V} {t:List OT} {as:List Addr} (ha:∀ a ∈ as,L' a) (k:Owns G H L v t as):Das G H L' v (OT.datas t):=(Own.da2 h).2 k ha
theorem Own.some2:(∀ {v:V} {t:OT} {as:List Addr},Own G H L v t as→∀ a ∈ as,∃ xs:MuO,H a = some xs.ho)∧∀ {v:List V} {t:List OT} {as:List Addr},Owns G H L v t as→∀ a ∈ as,∃ xs:MuO,H a = some xs.ho :=
 Own.both (fun _ _ m=>nomatch m) (fun {_ xs _ _} e r a m=>(List.mem_cons.mp m).elim (fun q=>⟨.lst xs,q ▸ e⟩) (r a)) (fun _ r=>r) (fun {_ o _ _ _ _} e _ _ a m=>⟨o,List.mem_singleton.mp m ▸ e⟩) (fun _ m=>nomatch m) (fun k r a m=>(List.mem_append.mp m).elim (k a) (r a))
theorem Own.some {v:V} {t:OT} {as:List Addr} (h:Own G H L v t as):∀ a ∈ as,∃ xs:MuO,H a = some xs.ho:=Own.some2.1 h
theorem Owns.some {v:List V} {t:List OT} {as:List Addr} (h:Owns G H L v t as):∀ a ∈ as,∃ xs:MuO,H a = some xs.ho:=Own.some2.2 h
theorem Owns.length {xs:List V} {ts:List OT} {as:List Addr} (h:Owns G H L xs ts as):xs.length = ts.length:=(Own.both (P:=fun _ _ _=>True) (Q:=fun xs ts _=>xs.length = ts.length) (fun _=>trivial) (fun _ _=>trivial) (fun _ _=>trivial) (fun _ _ _=>trivial) rfl (fun _ r=>congrArg (· + 1) r)).2 h
theorem Das.owns {xs:List V} {ds:List PyData} (h:Das G H L xs ds):Owns G H L xs (ds.map OT.fz) []:=Das.ind (Q:=fun xs ds=>Owns G H L xs (ds.map OT.fz) []) .nil (fun h _ r=>.cons (.fz h) r) h
end
end L2
namespace L2
open PySem PySem.Spec PyProof.Rows
variable {G:PySem.W.Frag}
noncomputable abbrev Zc:=List (Option OT)
noncomputable abbrev Fp:=Nat→List Addr
set_option genInjectivity false in
structure MC (G:PySem.W.Frag) where
 H₀:Hp
 as₀:Addr→Prop
 L:Addr→Prop
 σ₀:St
noncomputable def Foot (fp:Fp) (a:Addr):Prop:=∃ i,a ∈ fp i
noncomputable def Lf (C:MC G) (fp:Fp) (ex:Addr→Prop) (a:Addr):Prop:=¬ Foot fp a∧¬ ex a∧(C.L a∨C.H₀ a = none)
structure Rel (C:MC G) (io:List Nat) (H:Hp) (σ:St) (δ:Zc) (fp:Fp) (ex:Addr→Prop):Prop where
 len:σ.length = δ.length
 own:∀ (i:Nat) (t:OT),δ[i]? = some (some t)→∃ v,σ[i]? = some (some v)∧Own G H (Lf C fp ex) v t (fp i)
 emp:∀ i:Nat,(∀ t,δ[i]? ≠ some (some t))→fp i = []
 nd:∀ i,(fp i).Nodup
 dj:∀ i j a,a ∈ fp i→a ∈ fp j→i = j
 dx:∀ i a,a ∈ fp i→¬ ex a
 xa:∀ a,ex a→H a ≠ none
 fr:∀ b o,C.H₀ b = some o→¬ C.as₀ b→H b = some o
 al:∀ b,H b = none→C.H₀ b = none
 new:∀ i a,a ∈ fp i→(i ∈ io∧C.as₀ a)∨C.H₀ a = none
 io:∀ i ∈ io,σ[i]? = C.σ₀[i]?
structure Stp (p:Bool) (H:Hp) (δ:Zc) (fp:Fp) (H':Hp) (δ':Zc) (fp':Fp):Prop where
 keep:∀ b o,H b = some o→(p = true∨¬ Foot fp b)→H' b = some o
 env:p = true→δ' = δ∧fp' = fp
 grow:∀ a,Foot fp' a→Foot fp a∨H a = none
 al:∀ b,H' b = none→H b = none
section
variable {C:MC G} {io:List Nat} {H H' H'':Hp} {σ:St} {δ δ' δ'':Zc} {fp fp' fp'':Fp} {ex ex':Addr→Prop} {p p' c:Bool} {v:V} {d:PyData} {r:OT} {new:List Addr}
theorem Rel.foot (R:Rel C io H σ δ fp ex) {a:Addr} (h:Foot fp a):∃ xs:MuO,H a = some xs.ho:=by
 obtain ⟨i,h⟩:=h
 by_cases q:∃ t,δ[i]? = some (some t)
 ·obtain ⟨t,q⟩:=q
  obtain ⟨v,_,o⟩:=R.own i t q
  exact o.some a h
 ·rw [R.emp i (fun t z=>q ⟨t,z⟩)] at h
  exact nomatch h
theorem Rel.footSome (R:Rel C io H σ δ fp ex) {a:Addr} (h:H a = none):¬ Foot fp a:=fun z=>by
 obtain ⟨xs,e⟩:=R.foot z
 rw [h] at e
 cases e
theorem Stp.refl (p:Bool) (H:Hp) (δ:Zc) (fp:Fp):Stp p H δ fp H δ fp:=⟨fun _ _ h _=>h,fun _=>⟨rfl,rfl⟩,fun _ h=>.inl h,fun _ h=>h⟩
theorem Stp.same (h:Same H H') (hn:∀ b,H' b = none→H b = none):Stp p H δ fp H' δ fp:=⟨fun _ _ q _=>h _ _ q,fun _=>⟨rfl,rfl⟩,fun _ h=>.inl h,hn⟩
theorem Same.al (h:Same H H'):∀ b,H' b = none→H b = none:=fun _ q=>h.free q
theorem Stp.trans (a:Stp p H δ fp H' δ' fp') (b:Stp p' H' δ' fp' H'' δ'' fp''):Stp (p && p') H δ fp H'' δ'' fp'' where
 keep:=fun x o e h=>by
  rcases h with h | h
  ·rw [Bool.and_eq_true] at h
   exact b.keep x o (a.keep x o e (.inl h.1)) (.inl h.2)
  ·refine b.keep x o (a.keep x o e (.inr h)) (.inr fun z=>?_)
   rcases a.grow x z with z | z
   ·exact h z
   ·rw [e] at z; cases z
 env:=fun h=>by
  rw [Bool.and_eq_true] at h
  obtain ⟨e1,e2⟩:=a.env h.1
  obtain ⟨e3,e4⟩:=b.env h.2
  exact ⟨e3.trans e1,e4.trans e2⟩
 grow:=fun x h=>by
  rcases b.grow x h with h | h
  ·exact a.grow x h
  ·exact .inr (a.al x h)
 al:=fun x h=>a.al x (b.al x h)
theorem Rel.frameL (R:Rel C io H σ δ fp ex) (S:Stp p H δ fp H' δ' fp') (hc:p = true∨c = true) (hx:∀ a,ex' a→ex a∨H a = none) :
  (∀ a (xs:MuO),(c = true→Lf C fp ex a)→Rd H a xs.ho→(c = true→Lf C fp' ex' a)∧Rd H' a xs.ho)∧(∀ a (xs:ImO),H a = some xs.ho→H' a = some xs.ho):=by
 have nf:∀ a,Foot fp a→∃ xs:MuO,H a = some xs.ho:=fun a h=>R.foot h
 refine ⟨fun a xs l q=>⟨fun hc'=>?_,?_⟩,fun a xs q=>S.keep a _ q (.inr fun z=>?_)⟩
 ·obtain ⟨l1,l2,l3⟩:=l hc'
  refine ⟨fun z=>?_,fun z=>?_,l3⟩
  ·rcases S.grow a z with z | z
   ·exact l1 z
   ·exact q.some z
  ·rcases hx a z with z | z
   ·exact l2 z
   ·exact q.some z
 ·have hk:p = true∨¬ Foot fp a:=by
   rcases hc with h | h
   ·exact .inl h
   ·exact .inr (l h).1
  rcases q with q | ⟨o,q⟩
  ·exact .inl (S.keep a _ q hk)
  ·exact .inr ⟨o,S.keep a _ q hk⟩
 ·obtain ⟨ys,e⟩:=nf a z
  exact ImO.nm q e
theorem Rel.own_step (R:Rel C io H σ δ fp ex) (S:Stp p H δ fp H' δ' fp') (hc:p = true∨c = true) (hx:∀ a,ex' a→ex a∨H a = none) (hn:∀ a ∈ new,ex a)
  (x:Own G H (fun a=>c = true→Lf C fp ex a) v r new):Own G H' (fun a=>c = true→Lf C fp' ex' a) v r new :=
 x.frame (R.frameL S hc hx).1 (R.frameL S hc hx).2 fun a m xs e=>S.keep a _ e (.inr fun ⟨i,z⟩=>R.dx i a z (hn a m))
theorem Rel.owns_step (R:Rel C io H σ δ fp ex) (S:Stp p H δ fp H' δ' fp') (hc:p = true∨c = true) (hx:∀ a,ex' a→ex a∨H a = none) (hn:∀ a ∈ new,ex a) {vs:List V} {rs:List OT}
  (x:Owns G H (fun a=>c = true→Lf C fp ex a) vs rs new):Owns G H' (fun a=>c = true→Lf C fp' ex' a) vs rs new :=
 x.frame (R.frameL S hc hx).1 (R.frameL S hc hx).2 fun a m xs e=>S.keep a _ e (.inr fun ⟨i,z⟩=>R.dx i a z (hn a m))
theorem Rel.drop (R:Rel C io H σ δ fp ex) (h:∀ a,ex' a→ex a):Rel C io H σ δ fp ex' :=
 ⟨R.len,fun i t e=>by
  obtain ⟨v,e1,o⟩:=R.own i t e
  exact ⟨v,e1,o.wide fun a l _=>⟨l.1,fun z=>l.2.1 (h a z),l.2.2⟩⟩,R.emp,R.nd,R.dj,fun i a m z=>R.dx i a m (h a z),fun a z=>R.xa a (h a z),R.fr,R.al,R.new,R.io⟩
theorem Rel.made (R:Rel C io H σ δ fp ex) (s:Same H H') (hn:∀ a ∈ new,H a = none∧H' a ≠ none):Rel C io H' σ δ fp (fun a=>ex a∨a ∈ new) :=
 ⟨R.len,fun i t e=>by
  obtain ⟨v,e1,o⟩:=R.own i t e
  refine ⟨v,e1,(o.wide fun a l q=>⟨l.1,fun z=>?_,l.2.2⟩).same s⟩
  rcases z with z | z
  ·exact l.2.1 z
  ·exact q (hn a z).1,R.emp,R.nd,R.dj,fun i a m z=>by
   rcases z with z | z
   ·exact R.dx i a m z
   ·exact R.footSome (hn a z).1 ⟨i,m⟩,fun a z=>by
   rcases z with z | z
   ·intro q; exact R.xa a z (s.free q)
   ·exact (hn a z).2,fun b o e n=>s _ _ (R.fr b o e n),fun b q=>R.al b (s.free q),R.new,R.io⟩
end
noncomputable abbrev MEt:=Zc→(OT→Zc→Prop)→Prop
noncomputable abbrev MAt:=Zc→(List OT→Zc→Prop)→Prop
noncomputable abbrev MTt:=Zc→(Bool→Zc→Prop)→Prop
noncomputable abbrev exu (ex:Addr→Prop) (new:List Addr):Addr→Prop:=fun a=>ex a∨a ∈ new
structure RE (C:MC G) (io:List Nat) (p c:Bool) (H:Hp) (σ:St) (δ:Zc) (fp:Fp) (ex:Addr→Prop) (H':Hp) (v:V) (r:OT) (δ':Zc) (fp':Fp) (new:List Addr):Prop where
 rel:Rel C io H' σ δ' fp' (exu ex new)
 stp:Stp p H δ fp H' δ' fp'
 own:Own G H' (fun a=>c = true→Lf C fp' (exu ex new) a) v r new
 nd:new.Nodup
 fresh:∀ a ∈ new,H a = none
structure RA (C:MC G) (io:List Nat) (p c:Bool) (H:Hp) (σ:St) (δ:Zc) (fp:Fp) (ex:Addr→Prop) (H':Hp) (v:List V) (r:List OT) (δ':Zc) (fp':Fp) (new:List Addr):Prop where
 rel:Rel C io H' σ δ' fp' (exu ex new)
 stp:Stp p H δ fp H' δ' fp'
 own:Owns G H' (fun a=>c = true→Lf C fp' (exu ex new) a) v r new
 nd:new.Nodup
 fresh:∀ a ∈ new,H a = none
noncomputable def SE (G:PySem.W.Frag) (io:List Nat) (p c:Bool) (t:TE) (m:MEt):Prop:=∀ (C:MC G) (H:Hp) (σ:St) (δ:Zc) (fp:Fp) (ex:Addr→Prop) (K:OT→Zc→Prop) (Q:VK),Rel C io H σ δ fp ex→m δ K →
 (∀ H' v r δ' fp' new,RE C io p c H σ δ fp ex H' v r δ' fp' new→K r δ'→Q v H')→t σ H Q
noncomputable def SA (G:PySem.W.Frag) (io:List Nat) (p c:Bool) (t:TA) (m:MAt):Prop:=∀ (C:MC G) (H:Hp) (σ:St) (δ:Zc) (fp:Fp) (ex:Addr→Prop) (K:List OT→Zc→Prop) (Q:List V→Hp→Prop),Rel C io H σ δ fp ex→m δ K →
 (∀ H' v r δ' fp' new,RA C io p c H σ δ fp ex H' v r δ' fp' new→K r δ'→Q v H')→t σ H Q
noncomputable def STt (G:PySem.W.Frag) (io:List Nat) (p:Bool) (t:TT) (m:MTt):Prop:=∀ (C:MC G) (H:Hp) (σ:St) (δ:Zc) (fp:Fp) (ex:Addr→Prop) (K:Bool→Zc→Prop) (Q:Bool→Hp→Prop),Rel C io H σ δ fp ex→m δ K →
 (∀ H' b δ' fp',Rel C io H' σ δ' fp' ex→Stp p H δ fp H' δ' fp'→K b δ'→Q b H')→t σ H Q
noncomputable def ME (X:Cx) (io:List Nat) (p c:Bool) (e:Expr) (m:MEt):Prop:=∃ t,PE X e t∧SE X.K io p c t m
noncomputable def MA (X:Cx) (io:List Nat) (p c:Bool) (e:List Expr) (m:MAt):Prop:=∃ t,PA X e t∧SA X.K io p c t m
noncomputable def MT (X:Cx) (io:List Nat) (p:Bool) (e:Expr) (m:MTt):Prop:=∃ t,PT X e t∧STt X.K io p t m
noncomputable def MW (X:Cx) (io:List Nat) (p:Bool) (e:Expr) (m:MTt):Prop:=∃ t,PW X e t∧STt X.K io p t m
section
variable {C:MC G} {io:List Nat} {H H' H'':Hp} {σ:St} {δ δ' δ'':Zc} {fp fp' fp'':Fp} {ex ex':Addr→Prop} {p p' c:Bool} {v:V} {d:PyData} {r:OT} {vs:List V} {rs:List OT} {new:List Addr}
theorem Rel.newOk (R:Rel C io H σ δ fp ex) {a:Addr} (h:H a = none):¬ Foot fp a∧¬ ex a∧C.H₀ a = none:=⟨R.footSome h,fun z=>R.xa a z h,R.al a h⟩
theorem RE.da (R:RE C io p c H σ δ fp ex H' v r δ' fp' new) (R0:Rel C io H σ δ fp ex):Da G H' (fun a=>c = true→Lf C fp' ex a) v r.data:=by
 refine R.own.da (fun a l _ h=>?_) (fun a m _=>?_)
 ·exact ⟨(l h).1,fun z=>(l h).2.1 (.inl z),(l h).2.2⟩
 ·refine ⟨fun qz9=>?_,(R0.newOk (R.fresh a m)).2.1,.inr (R0.newOk (R.fresh a m)).2.2⟩
  obtain ⟨i,z⟩:=qz9
  exact R.rel.dx i a z (.inr m)
theorem RA.das (R:RA C io p c H σ δ fp ex H' vs rs δ' fp' new) (R0:Rel C io H σ δ fp ex):Das G H' (fun a=>c = true→Lf C fp' ex a) vs (OT.datas rs):=by
 refine R.own.das (fun a l _ h=>?_) (fun a m _=>?_)
 ·exact ⟨(l h).1,fun z=>(l h).2.1 (.inl z),(l h).2.2⟩
 ·refine ⟨fun qz9=>?_,(R0.newOk (R.fresh a m)).2.1,.inr (R0.newOk (R.fresh a m)).2.2⟩
  obtain ⟨i,z⟩:=qz9
  exact R.rel.dx i a z (.inr m)
theorem RE.base (R:RE C io p c H σ δ fp ex H' v r δ' fp' new):Rel C io H' σ δ' fp' ex:=R.rel.drop fun a z=>.inl z
theorem RA.base (R:RA C io p c H σ δ fp ex H' vs rs δ' fp' new):Rel C io H' σ δ' fp' ex:=R.rel.drop fun a z=>.inl z
theorem Zae {a:Addr}:exu ex [] a ↔ ex a:=by simp [exu]
theorem RE.fz (R:Rel C io H' σ δ' fp' ex) (S:Stp p H δ fp H' δ' fp') (h:Da G H' (fun a=>c = true→Lf C fp' ex a) v d):RE C io p c H σ δ fp ex H' v (.fz d) δ' fp' [] :=
 ⟨R.drop fun a z=>Zae.mp z,S,.fz (h.wide fun a l _ hc=>⟨(l hc).1,fun z=>(l hc).2.1 (Zae.mp z),(l hc).2.2⟩),.nil,fun a m=>nomatch m⟩
theorem RE.tree {H1:Hp} (R0:Rel C io H σ δ fp ex) (R:Rel C io H1 σ δ' fp' ex) (S:Stp p H δ fp H1 δ' fp') (s:Same H1 H') (hn:∀ a ∈ new,H1 a = none) (nd:new.Nodup)
  (o:Own G H' (fun a=>((c = true→Lf C fp' ex a)∨H1 a = none)∧a ∉ new) v r new):RE C io p c H σ δ fp ex H' v r δ' fp' new:=by
 refine ⟨R.made s fun a m=>⟨hn a m,fun z=>?_⟩,?_,o.wide fun a l q hc=>?_,nd,fun a m=>S.al a (hn a m)⟩
 ·obtain ⟨xs,e⟩:=o.some a m
  rw [z] at e; cases e
 ·have:=S.trans (p':=true) (Stp.same (p:=true) (δ:=δ') (fp:=fp') s s.al)
  rwa [Bool.and_true] at this
 ·rcases l.1 with l1 | l1
  ·exact ⟨(l1 hc).1,fun z=>z.elim (l1 hc).2.1 l.2,(l1 hc).2.2⟩
  ·exact ⟨R.footSome l1,fun z=>z.elim (fun z=>R.xa a z l1) l.2,.inr (R.al a l1)⟩
end
inductive ScD:V→PyData→Prop where
 | non:ScD .non .none
 | bl (b:Bool):ScD (.bl b) (.bool b)
 | int (i:Int):ScD (.int i) (.int i)
 | str (x:Str):ScD (.str x) (.str x)
theorem ScD.da {H:Hp} {L:Addr→Prop} {v:V} {d:PyData} (h:ScD v d):Da G H L v d:=by
 cases h
 ·exact .non
 ·exact .bl _
 ·exact .int _
 ·exact .str _
section
variable {X:Cx} {io:List Nat} {p p' c c':Bool} {e a b:Expr} {m ma mb:MEt} {es:List Expr}
noncomputable def Z3s (i:Nat):MEt:=fun δ K=>match δ[i]? with | some (some (.fz d))=>K (.fz d) δ | _=>False
noncomputable def Z3c (i:Nat):MEt:=fun δ K=>match δ[i]? with | some (some t)=>K (.fz t.data) δ | _=>False
noncomputable def mC (d:PyData):MEt:=fun δ K=>K (.fz d) δ
theorem mv (i:Nat) {x:Str} {pos:Pos} (hN:X.N[i]? = some x:=by rfl) (hv:Vis X.env.scope x:=by first | exact Or.inl rfl | exact Or.inr (Or.inl rfl) | exact Or.inr (Or.inr rfl)) (hd:(x == ("__debug__" : Str)) = false:=by decide)
  (hcd:(x == ("__classdict__" : Str)) = false:=by decide):ME X io true true (.Name x pos) (Z3s i):=by
 refine ⟨_,pv i hN hv hd hcd,fun C H σ δ fp ex K Q R h k=>?_⟩
 unfold Z3s at h
 split at h
 ·rename_i d hd
  obtain ⟨v,e,o⟩:=R.own i _ hd
  refine ⟨v,e,k H v _ δ fp [] (.fz R (.refl _ _ _ _) ?_) h⟩
  generalize fp i = as at o
  cases o with
  | fz q=>exact q.wide fun a l _ _=>l
 ·exact h.elim
theorem mo (i:Nat) {x:Str} {pos:Pos} (hN:X.N[i]? = some x:=by rfl) (hv:Vis X.env.scope x:=by first | exact Or.inl rfl | exact Or.inr (Or.inl rfl) | exact Or.inr (Or.inr rfl)) (hd:(x == ("__debug__" : Str)) = false:=by decide)
  (hcd:(x == ("__classdict__" : Str)) = false:=by decide):ME X io true false (.Name x pos) (Z3c i):=by
 refine ⟨_,pv i hN hv hd hcd,fun C H σ δ fp ex K Q R h k=>?_⟩
 unfold Z3c at h
 split at h
 ·rename_i d hd
  obtain ⟨v,e,o⟩:=R.own i _ hd
  exact ⟨v,e,k H v _ δ fp [] (.fz R (.refl _ _ _ _) (o.da (fun a _ _ z=>(nomatch z)) fun a _ z=>(nomatch z))) h⟩
 ·exact h.elim
theorem Zi5 {t:V} {d:PyData} (h:PE X e (tC t)) (s:ScD t d):ME X io true true e (mC d) :=
 ⟨_,h,fun C H σ δ fp ex K Q R h k=>k H t _ δ fp [] (.fz R (.refl _ _ _ _) s.da) h⟩
theorem Z15 {i j pos}:ME X io true true (.Constant (.int i) j pos) (mC (.int i)):=Zi5 Zsm (.int i)
theorem Zgm {b j pos}:ME X io true true (.Constant (.bool b) j pos) (mC (.bool b)):=Zi5 Z51 (.bl b)
theorem Zhw {x j pos}:ME X io true true (.Constant (.str x) j pos) (mC (.str x)):=Zi5 Z0v (.str x)
theorem SE.two {ta tb:TE} (ha:SE G io p c ta ma) (hb:SE G io p' c' tb mb) (hc:p' = true∨c = true) {C:MC G} {H:Hp} {σ:St} {δ:Zc} {fp:Fp} {ex:Addr→Prop} {K:OT→OT→Zc→Prop} {Q:V→V→Hp→Prop}
  (R:Rel C io H σ δ fp ex) (h:ma δ fun x δ1=>mb δ1 fun y δ2=>K x y δ2)
  (k:∀ H' x y u v δ' fp',Rel C io H' σ δ' fp' ex→Stp (p && p') H δ fp H' δ' fp'→Da G H' (fun a=>(c && c') = true→Lf C fp' ex a) x u.data→Da G H' (fun a=>(c && c') = true→Lf C fp' ex a) y v.data→K u v δ'→Q x y H') :
  ta σ H fun x H1=>tb σ H1 fun y H2=>Q x y H2:=by
 refine ha C H σ δ fp ex _ _ R h fun H1 x u δ1 fp1 new1 r1 h1=>?_
 refine hb C H1 σ δ1 fp1 (exu ex new1) _ _ r1.rel h1 fun H2 y v δ2 fp2 new2 r2 h2=>?_
 have o1:=r1.rel.own_step (ex':=exu (exu ex new1) new2) r2.stp (c:=c) hc (fun a z=>z.imp id fun z=>r2.fresh a z) (fun a m=>.inr m) r1.own
 have R2:Rel C io H2 σ δ2 fp2 ex:=r2.rel.drop fun a z=>.inl (.inl z)
 have q1:Da G H2 (fun a=>c = true→Lf C fp2 ex a) x u.data:=by
  refine o1.da (fun a l _ z=>?_) (fun a m z=>?_)
  ·exact ⟨(l z).1,fun w=>(l z).2.1 (.inl (.inl w)),(l z).2.2⟩
  ·have:=R.newOk (r1.fresh a m)
   refine ⟨fun qz9=>?_,this.2.1,.inr this.2.2⟩
   obtain ⟨i,w⟩:=qz9
   exact r2.rel.dx i a w (.inl (.inr m))
 have q2:=r2.da r1.rel
 refine k H2 x y u v δ2 fp2 R2 (r1.stp.trans r2.stp) (q1.wide fun a l _ z=>l (by rw [Bool.and_eq_true] at z; exact z.1)) (q2.wide fun a l _ z=>?_) h2
 have l:=l (by rw [Bool.and_eq_true] at z; exact z.2)
 exact ⟨l.1,fun w=>l.2.1 (.inl w),l.2.2⟩
noncomputable def P2s (G:PySem.W.Frag) (r:R2) (rp:PyData→PyData→(PyData→Prop)→Prop):Prop:=∀ (H:Hp) (L:Addr→Prop) (x y:V) (d e:PyData) (k:PyData→Prop) (Q:VK),Da G H L x d→Da G H L y e→rp d e k→(∀ v d',ScD v d'→k d'→Q v H)→r x y H Q
noncomputable def P2 (G:PySem.W.Frag) (r:R2) (rp:PyData→PyData→(OT→Prop)→Prop):Prop:=∀ (H:Hp) (L:Addr→Prop) (x y:V) (d e:PyData) (k:OT→Prop) (Q:VK),Da G H L x d→Da G H L y e→rp d e k →
 (∀ H' v o new,Same H H'→Own G H' (fun a=>(L a∨H a = none)∧a ∉ new) v o new→new.Nodup→(∀ a ∈ new,H a = none)→k o→Q v H')→r x y H Q
noncomputable def Zjv (rp:PyData→PyData→(PyData→Prop)→Prop) (ma mb:MEt):MEt:=fun δ K=>ma δ fun x δ1=>mb δ1 fun y δ2=>rp x.data y.data fun d=>K (.fz d) δ2
noncomputable def Z14 (rp:PyData→PyData→(OT→Prop)→Prop) (ma mb:MEt):MEt:=fun δ K=>ma δ fun x δ1=>mb δ1 fun y δ2=>rp x.data y.data fun d=>K d δ2
theorem Zv6 {r:R2} {rp} {ta tb:TE} (P:P2s G r rp) (ha:SE G io p c ta ma) (hb:SE G io p' c' tb mb) (hc:p' = true∨c = true):SE G io (p && p') true (tOp r ta tb) (Zjv rp ma mb):=by
 intro C H σ δ fp ex K Q R h k
 refine SE.two (K:=fun x y δ2=>rp x.data y.data fun d=>K (.fz d) δ2) (Q:=fun x y H2=>r x y H2 Q) ha hb hc R h fun H' x y u v δ' fp' R' S q1 q2 h'=>?_
 exact P H' _ x y _ _ _ _ q1 q2 h' fun w d' sc h''=>k H' w _ δ' fp' [] (.fz R' S sc.da) h''
theorem Z4y {r:R2} {rp} {ta tb:TE} (P:P2 G r rp) (ha:SE G io p c ta ma) (hb:SE G io p' c' tb mb) (hc:p' = true∨c = true):SE G io (p && p') (c && c') (tOp r ta tb) (Z14 rp ma mb):=by
 intro C H σ δ fp ex K Q R h k
 refine SE.two (K:=fun x y δ2=>rp x.data y.data fun d=>K d δ2) (Q:=fun x y H2=>r x y H2 Q) ha hb hc R h fun H' x y u v δ' fp' R' S q1 q2 h'=>?_
 exact P H' _ x y _ _ _ _ q1 q2 h' fun H2 w o new s ow nd hn h''=>k H2 w o δ' fp' new (RE.tree R R' S s hn nd ow) h''
theorem Zhr {op:Operator} {r:R2} {rp} {pos:Pos} (ho:OpR X (binaryOp op) r) (P:P2s X.K r rp) (ha:ME X io p c a ma) (hb:ME X io p' c' b mb) (hc:p' = true∨c = true:=by first | exact Or.inl rfl | exact Or.inr rfl):ME X io (p && p') true (.BinOp a op b pos) (Zjv rp ma mb):=by
 obtain ⟨_,A,sa⟩:=ha
 obtain ⟨_,B,sb⟩:=hb
 exact ⟨_,Zzs ho A B,Zv6 P sa sb hc⟩
theorem Z7i {op:Operator} {r:R2} {rp} {pos:Pos} (ho:OpR X (binaryOp op) r) (P:P2 X.K r rp) (ha:ME X io p c a ma) (hb:ME X io p' c' b mb) (hc:p' = true∨c = true:=by first | exact Or.inl rfl | exact Or.inr rfl):ME X io (p && p') (c && c') (.BinOp a op b pos) (Z14 rp ma mb):=by
 obtain ⟨_,A,sa⟩:=ha
 obtain ⟨_,B,sb⟩:=hb
 exact ⟨_,Zzs ho A B,Z4y P sa sb hc⟩
theorem Zjr {op:CmpOp} {r:R2} {rp} {pos:Pos} (ho:OpR X (compareOp op) r) (P:P2s X.K r rp) (ha:ME X io p c a ma) (hb:ME X io p' c' b mb) (hc:p' = true∨c = true:=by first | exact Or.inl rfl | exact Or.inr rfl) (hm:behindInMarks op b = false):ME X io (p && p') true (.Compare a [op] [b] pos) (Zjv rp ma mb):=by
 obtain ⟨_,A,sa⟩:=ha
 obtain ⟨_,B,sb⟩:=hb
 exact ⟨_,Zvx ho A B hm,Zv6 P sa sb hc⟩
theorem Zx0 {r:R2} {rp} {pos:Pos} (ho:IxR X r) (P:P2 X.K r rp) (ha:ME X io p c a ma) (hb:ME X io p' c' b mb) (hc:p' = true∨c = true:=by first | exact Or.inl rfl | exact Or.inr rfl) (hs:Zgp b):ME X io (p && p') (c && c') (.Subscript a b pos) (Z14 rp ma mb):=by
 obtain ⟨_,A,sa⟩:=ha
 obtain ⟨_,B,sb⟩:=hb
 exact ⟨_,Zwb ho A B hs,Z4y P sa sb hc⟩
noncomputable def kB (K:Bool→Zc→Prop):OT→Zc→Prop:=fun o δ=>match o with | .fz (.bool b)=>K b δ | _=>False
theorem Z0p {t:TE} (h:SE G io p c t m):STt G io p (Zws t) (fun δ K=>m δ (kB K)):=by
 intro C H σ δ fp ex K Q R h' k
 refine h C H σ δ fp ex _ _ R h' fun H' v r δ' fp' new r1 h1=>?_
 cases r with
 | nd ts=>exact h1.elim
 | tp ts=>exact h1.elim
 | dc _ _ _=>exact h1.elim
 | fz d =>
  cases d with
  | bool b =>
   cases r1.own with
   | fz q =>
    cases q
    exact ⟨b,rfl,k H' b δ' fp' r1.base r1.stp h1⟩
  | _=>exact h1.elim
theorem Zcv {op:CmpOp} {r:R2} {rp} {pos:Pos} (ho:OpR X (compareOp op) r) (P:P2s X.K r rp) (ha:ME X io p c a ma) (hb:ME X io p' c' b mb) (hc:p' = true∨c = true:=by first | exact Or.inl rfl | exact Or.inr rfl) (hm:behindInMarks op b = false) :
  MT X io (p && p') (.Compare a [op] [b] pos) (fun δ K=>Zjv rp ma mb δ (kB K)):=by
 obtain ⟨_,A,sa⟩:=ha
 obtain ⟨_,B,sb⟩:=hb
 exact ⟨_,Zww ho A B hm,Z0p (Zv6 P sa sb hc)⟩
end
end L2
namespace L2
open PySem PySem.Spec PyProof.Rows
variable {G:PySem.W.Frag}
section
variable {X:Cx} {io:List Nat} {p p' p'' c c':Bool} {e a b:Expr} {m ma mb:MEt} {es rest:List Expr} {ta tb:MTt} {pos:Pos}
noncomputable def Z8i (t:MTt):MTt:=fun δ K=>t δ fun b δ'=>K (!b) δ'
noncomputable def mOr (t u:MTt):MTt:=fun δ K=>t δ fun b δ'=>if b = true then K true δ' else u δ' K
theorem Zyt (h:MT X io p a ta):MT X io p (.UnaryOp .Not a pos) (Z8i ta):=by
 obtain ⟨_,A,sa⟩:=h
 exact ⟨_,Z1t A,fun C H σ δ fp ex K Q R h k=>sa C H σ δ fp ex _ _ R h fun H' b δ' fp' R' S h'=>k H' (!b) δ' fp' R' S h'⟩
theorem Zfo (h:MT X io p a ta):MW X io p (.BoolOp .Or [a] pos) ta:=by
 obtain ⟨_,A,sa⟩:=h
 exact ⟨_,Z2j A,sa⟩
theorem Stp.andL {H H':Hp} {δ δ':Zc} {fp fp':Fp} (S:Stp p H δ fp H' δ' fp'):Stp (p && p') H δ fp H' δ' fp':=by
 have:=S.trans (Stp.refl p' H' δ' fp')
 exact this
theorem Zis (h:MT X io p a ta) (g:MW X io p' (.BoolOp .Or (b :: rest) pos) tb):MW X io (p && p') (.BoolOp .Or (a :: b :: rest) pos) (mOr ta tb):=by
 obtain ⟨_,A,sa⟩:=h
 obtain ⟨_,B,sb⟩:=g
 exact ⟨_,Z4k A B,fun C H σ δ fp ex K Q R h k=>sa C H σ δ fp ex _ _ R h fun H' b δ' fp' R' S h'=>by
  cases b with
  | true =>
   rw [if_pos rfl] at h' ⊢
   exact k H' true δ' fp' R' S.andL h'
  | false =>
   rw [if_neg Bool.false_ne_true] at h' ⊢
   exact sb C H' σ δ' fp' ex _ _ R' h' fun H2 b2 δ2 fp2 R2 S2 h2=>k H2 b2 δ2 fp2 R2 (S.trans S2) h2⟩
theorem MW.mt (h:MW X io p e ta):MT X io p e ta:=by
 obtain ⟨_,A,sa⟩:=h
 exact ⟨_,A.pt,sa⟩
noncomputable def Zqg:PyData→Option Bool
 | .none=>some false
 | .bool b=>some b
 | .int i=>some (i != 0)
 | .list ds=>some (!ds.isEmpty)
 | .tuple ds=>some (!ds.isEmpty)
 | _=>none
noncomputable def Z70 (m:MEt):MTt:=fun δ K=>m δ fun r δ'=>match Zqg r.data with | some b=>K b δ' | none=>False
theorem Das.isEmpty {H:Hp} {L:Addr→Prop} {xs:List V} {ds:List PyData} (h:Das G H L xs ds):xs.isEmpty = ds.isEmpty:=by cases h <;> rfl
theorem Wo (ha:ME X io p c a ma) (he:∀ whole,isTrue a X.env whole = (do let v ← whole; standAt a.pos; holding [v] (truthy v))):MT X io p a (Z70 ma):=by
 obtain ⟨_,A,sa⟩:=ha
 exact ⟨_,Zxn rfl A he,fun C H σ δ fp ex K' Q R h k=>sa C H σ δ fp ex _ _ R h fun H' v r δ' fp' new r1 h1=>by
  have q:=r1.da R
  generalize r.data = d at q h1
  cases q with
  | non=>exact ⟨_,rfl,k H' _ δ' fp' r1.base r1.stp h1⟩
  | bl b=>exact ⟨_,rfl,k H' _ δ' fp' r1.base r1.stp h1⟩
  | int b=>exact ⟨_,rfl,k H' _ δ' fp' r1.base r1.stp h1⟩
  | str x=>exact h1.elim
  | lst _ e q=>exact ⟨_,.inl ⟨_,.inl e,rfl⟩,k H' _ δ' fp' r1.base r1.stp (by rw [q.isEmpty]; exact h1)⟩
  | tup e q=>exact ⟨_,.inr (.inl ⟨_,.inl (.inl e),rfl⟩),k H' _ δ' fp' r1.base r1.stp (by rw [q.isEmpty]; exact h1)⟩
  | scr q=>exact ⟨_,.inl ⟨_,q.sq,rfl⟩,k H' _ δ' fp' r1.base r1.stp (by simpa [Zqg] using h1)⟩
  | exc _ _ _=>exact h1.elim
  | fn _=>exact h1.elim
  | dic _ _ _ _=>exact h1.elim⟩
noncomputable def asB (d:PyData) (k:Bool→Prop):Prop:=match d with | .bool b=>k b | _=>False
noncomputable def Z2p (a b:MEt):MEt:=fun δ K=>a δ fun x δ1=>asB x.data fun c=>if c = true then b δ1 K else K (.fz (.bool false)) δ1
noncomputable def Zza (a:MEt):MEt:=fun δ K=>a δ fun x δ1=>asB x.data fun c=>K (.fz (.bool (!c))) δ1
theorem Da.boolInv {H:Hp} {L:Addr→Prop} {v:V} {d:PyData} {k:Bool→Prop} (q:Da G H L v d) (h:asB d k):∃ b,v = .bl b∧k b:=by
 cases q with
 | bl b=>exact ⟨b,rfl,h⟩
 | _=>exact h.elim
theorem RE.step {C:MC G} {H H1 H2:Hp} {σ:St} {δ δ1 δ2:Zc} {fp fp1 fp2:Fp} {ex:Addr→Prop} {v:V} {r:OT} {new:List Addr} (S:Stp p H δ fp H1 δ1 fp1) (R:RE C io p' c H1 σ δ1 fp1 ex H2 v r δ2 fp2 new) :
  RE C io (p && p') c H σ δ fp ex H2 v r δ2 fp2 new:=⟨R.rel,S.trans R.stp,R.own,R.nd,fun a m=>S.al a (R.fresh a m)⟩
theorem Zrr {op} (h:ME X io p c a ma):ME X io p c (.BoolOp op [a] pos) ma:=by
 obtain ⟨_,A,sa⟩:=h
 exact ⟨_,Z1g A,sa⟩
theorem Zr9 (ha:ME X io p c a ma) (hb:ME X io p' c' (.BoolOp .And (b :: rest) pos) mb):ME X io (p && p') c' (.BoolOp .And (a :: b :: rest) pos) (Z2p ma mb):=by
 obtain ⟨_,A,sa⟩:=ha
 obtain ⟨_,B,sb⟩:=hb
 exact ⟨_,Z2q A B,fun C H σ δ fp ex K Q R h k=>sa C H σ δ fp ex _ _ R h fun H' v r δ' fp' new r1 h1=>by
  obtain ⟨b,rfl,h1⟩:=(r1.da R).boolInv h1
  refine ⟨b,rfl,?_⟩
  cases b with
  | true =>
   rw [if_pos rfl] at h1 ⊢
   exact sb C H' σ δ' fp' ex _ _ r1.base h1 fun H2 w r2 δ2 fp2 new2 R2 h2=>k H2 w r2 δ2 fp2 new2 (R2.step r1.stp) h2
  | false =>
   rw [if_neg Bool.false_ne_true] at h1 ⊢
   exact k H' _ _ δ' fp' [] (RE.fz r1.base r1.stp.andL (.bl false)) h1⟩
theorem Z34 (ha:ME X io p c a ma):ME X io p true (.UnaryOp .Not a pos) (Zza ma):=by
 obtain ⟨_,A,sa⟩:=ha
 exact ⟨_,Zyw A,fun C H σ δ fp ex K Q R h k=>sa C H σ δ fp ex _ _ R h fun H' v r δ' fp' new r1 h1=>by
  obtain ⟨b,rfl,h1⟩:=(r1.da R).boolInv h1
  exact ⟨b,rfl,k H' _ _ δ' fp' [] (RE.fz r1.base r1.stp (.bl _)) h1⟩⟩
end
section
variable {X:Cx} {io:List Nat} {p p' p'' c c':Bool} {e a b:Expr} {m ma mb:MEt} {es rest:List Expr} {mr:MAt} {pos:Pos}
noncomputable def Z7c:MAt:=fun δ K=>K [] δ
noncomputable def Zzf (m:MEt) (mr:MAt):MAt:=fun δ K=>m δ fun r δ1=>mr δ1 fun rs δ2=>K (r :: rs) δ2
theorem Z1a:MA X io true true [] Z7c:=⟨_,Zdn,fun C H σ δ fp ex K Q R h k=>k H [] [] δ fp [] ⟨R.drop fun a z=>Zae.mp z,.refl _ _ _ _,.nil,.nil,fun a m=>nomatch m⟩ h⟩
theorem Zt1 (ha:ME X io p c e m) (hr:MA X io p' c' es mr) (hc:p' = true∨c = true) (hs:starEach (e :: es) X.env = (false,eval e X.env) :: starEach es X.env:=by rfl):MA X io (p && p') (c && c') (e :: es) (Zzf m mr):=by
 obtain ⟨tA,A,sa⟩:=ha
 obtain ⟨tB,B,sb⟩:=hr
 refine ⟨_,Jx A B hs,fun C H σ δ fp ex K Q R h k=>?_⟩
 refine sa C H σ δ fp ex _ _ R h fun H1 x u δ1 fp1 new1 r1 h1=>?_
 refine sb C H1 σ δ1 fp1 (exu ex new1) _ _ r1.rel h1 fun H2 ys us δ2 fp2 new2 r2 h2=>?_
 have o1:=r1.rel.own_step (ex':=exu (exu ex new1) new2) r2.stp (c:=c) hc (fun a z=>z.imp id fun z=>r2.fresh a z) (fun a m=>.inr m) r1.own
 have eqx:∀ a,exu ex (new1 ++ new2) a→exu (exu ex new1) new2 a:=fun a z=>by
  rcases z with z | z
  ·exact .inl (.inl z)
  ·rcases List.mem_append.mp z with z | z
   ·exact .inl (.inr z)
   ·exact .inr z
 refine k H2 (x :: ys) (u :: us) δ2 fp2 (new1 ++ new2) ⟨r2.rel.drop eqx,r1.stp.trans r2.stp,.cons (o1.wide fun a l _ z=>?_) (r2.own.wide fun a l _ z=>?_),?_,?_⟩ h2
 ·have l:=l (by rw [Bool.and_eq_true] at z; exact z.1)
  exact ⟨l.1,fun w=>l.2.1 (eqx a w),l.2.2⟩
 ·have l:=l (by rw [Bool.and_eq_true] at z; exact z.2)
  exact ⟨l.1,fun w=>l.2.1 (eqx a w),l.2.2⟩
 ·refine List.nodup_append.mpr ⟨r1.nd,r2.nd,fun a m b m' z=>?_⟩
  subst z
  obtain ⟨xs,e⟩:=r1.own.some a m
  rw [r2.fresh a m'] at e
  cases e
 ·intro a m
  rcases List.mem_append.mp m with m | m
  ·exact r1.fresh a m
  ·exact r1.stp.al a (r2.fresh a m)
noncomputable def Z7q (m:MAt):MEt:=fun δ K=>m δ fun rs δ'=>rs.length ≤ sizeLine∧K (.fz (.tuple (OT.datas rs))) δ'
noncomputable def Z64 (m:MAt):MEt:=fun δ K=>m δ fun rs δ'=>rs.length ≤ sizeLine∧K (.nd rs) δ'
theorem Z6h {x1} (h:MA X io p c es mr):ME X io p c (.Tuple es x1 pos) (Z7q mr):=by
 obtain ⟨tA,A,sa⟩:=h
 refine ⟨_,Zs3 A,fun C H σ δ fp ex K Q R h k=>?_⟩
 refine sa C H σ δ fp ex _ _ R h fun H1 vs rs δ1 fp1 new1 r1 h1=>⟨by rw [r1.own.length]; exact h1.1,fun q hq=>?_⟩
 have s:=Z2 hq (.tup vs)
 have R1:=r1.base
 have S:=r1.stp.trans (p':=true) (Stp.same (p:=true) (δ:=δ1) (fp:=fp1) s s.al)
 rw [Bool.and_true] at S
 refine k _ _ _ δ1 fp1 [] (.fz ?_ S (.tup Zm ((r1.das R).same s))) h1.2
 exact (R1.made (new:=[]) s fun a m=>nomatch m).drop fun a z=>.inl z
theorem Z5w (h:MA X io p c es mr):ME X io p c (.List es pos) (Z64 mr):=by
 obtain ⟨tA,A,sa⟩:=h
 refine ⟨_,Zz1 A,fun C H σ δ fp ex K Q R h k=>?_⟩
 refine sa C H σ δ fp ex _ _ R h fun H1 vs rs δ1 fp1 new1 r1 h1=>⟨by rw [r1.own.length]; exact h1.1,fun q hq=>?_⟩
 have s:=Z2 hq (.lst vs)
 have S:=r1.stp.trans (p':=true) (Stp.same (p:=true) (δ:=δ1) (fp:=fp1) s s.al)
 rw [Bool.and_true] at S
 have hqn:q ∉ new1:=fun m=>by
  obtain ⟨xs,e⟩:=r1.own.some q m
  rw [hq] at e; cases e
 have R2:=(r1.rel.made (new:=[q]) s fun a m=>by
  rcases List.mem_singleton.mp m with rfl
  exact ⟨hq,by rw [Zm]; intro z; cases z⟩)
 have eqx:∀ a,exu ex (q :: new1) a→exu (exu ex new1) [q] a:=fun a z=>by
  rcases z with z | z
  ·exact .inl (.inl z)
  ·rcases List.mem_cons.mp z with z | z
   ·exact .inr (List.mem_singleton.mpr z)
   ·exact .inl (.inr z)
 refine k _ _ _ δ1 fp1 (q :: new1) ⟨R2.drop eqx,S,.nd Zm ((r1.own.wide fun a l w z=>?_).same s),List.nodup_cons.mpr ⟨hqn,r1.nd⟩,fun a m=>?_⟩ h1.2
 ·have l:=l z
  refine ⟨l.1,fun y=>?_,l.2.2⟩
  rcases eqx a y with y | y
  ·exact l.2.1 y
  ·rcases List.mem_singleton.mp y with rfl
   exact w hq
 ·rcases List.mem_cons.mp m with rfl | m
  ·exact r1.stp.al _ hq
  ·exact r1.fresh a m
end
end L2
namespace L2
open PySem PySem.Spec PyProof.Rows
variable {G:PySem.W.Frag}
noncomputable def spD (G:PySem.W.Frag) (S:List PyData→(OT→Prop)→Prop):Sp:=fun vs H Q _=>∃ L ds k,Das G H L vs ds∧S ds k ∧
 ∀ r v H' new,k r→Same H H'→Own G H' (fun a=>(L a∨H a = none)∧a ∉ new) v r new→new.Nodup→(∀ a ∈ new,H a = none)→Q v H'
section
variable {X:Cx} {io:List Nat} {p p' p'' c c':Bool} {e a b:Expr} {m ma mb:MEt} {es rest:List Expr} {mr:MAt} {pos:Pos}
variable {CX:CXT} {k:Nat} {f:Addr} {fd:FuncData} {ps:List Str} {E:XK} {x:Str} {pp:Pos}
noncomputable def Zwt (S:List PyData→(OT→Prop)→Prop) (mr:MAt):MEt:=fun δ K=>mr δ fun rs δ1=>S (OT.datas rs) fun r=>K r δ1
theorem Z4q {S} {t:TA} (sa:SA G io p c t mr):SE G io p c (Zyy (spD G S) [] E t) (Zwt S mr):=by
 intro C H σ δ fp ex K Q R h kk
 refine sa C H σ δ fp ex _ _ R h fun H1 vs rs δ1 fp1 new1 r1 h1=>?_
 rw [List.append_nil]
 refine ⟨_,_,_,r1.das R,h1,fun r v H' new kr s o nd hn=>?_⟩
 exact kk H' v r δ1 fp1 new (RE.tree R r1.base r1.stp s hn nd o) kr
theorem Z1u {S} (F:FnOk X.prog X.w X.K X.mg X.base CX k f fd ps (spD X.K S)) (hr:Room k X.A) (hg:Gl X x) (hm:X.mg x = some (.ref f)) (hk:PySem.W.keepIn X.K (.ref f) = true) (hb:Binds X.K fd ps []) (hx:Zka CX X E)
  (ha:MA X io p c (e :: es) mr) (hdb:(x == ("__debug__" : Str)) = false:=by decide) (he:starEach (e :: es) X.env = (false,eval e X.env) :: starEach es X.env:=by rfl) (hpl:(backTo pos (starEach es X.env)).any (·.1) = false:=by rfl) :
  ME X io p c (.Call (.Name x pp) (e :: es) [] pos) (Zwt S mr):=by
 obtain ⟨_,A,sa⟩:=ha
 exact ⟨_,Zty F hr hg hm hk hb .nil hx A hdb he hpl,Z4q sa⟩
noncomputable def fpu (fp:Fp) (i:Nat) (as:List Addr):Fp:=fun j=>if j = i then as else fp j
theorem Zu {fp:Fp} {i:Nat} {as:List Addr}:fpu fp i as i = as:=if_pos rfl
theorem Z9 {fp:Fp} {i j:Nat} {as:List Addr} (h:j ≠ i):fpu fp i as j = fp j:=if_neg h
theorem Foot.of_u {fp:Fp} {i:Nat} {as:List Addr} {a:Addr} (h:Foot (fpu fp i as) a):a ∈ as∨∃ j,j ≠ i∧a ∈ fp j:=by
 obtain ⟨j,h⟩:=h
 by_cases e:j = i
 ·subst e; rw [Zu] at h; exact .inl h
 ·rw [Z9 e] at h; exact .inr ⟨j,e,h⟩
theorem Rel.change {C:MC G} {H H':Hp} {σ:St} {δ:Zc} {fp:Fp} {ex:Addr→Prop} {i:Nat} {t t':OT} {v:V} {as' new:List Addr} (R:Rel C io H σ δ fp ex) (hi:δ[i]? = some (some t)) (hv:σ[i]? = some (some v))
  (keep:∀ b o,H b = some o→b ∉ fp i→H' b = some o) (al:∀ b,H' b = none→H b = none) (o:Own G H' (Lf C (fpu fp i as') (exu ex new)) v t' as') (nd:as'.Nodup) (new':∀ a ∈ as',a ∈ fp i∨H a = none)
  (hn:∀ a ∈ new,H a = none∧H' a ≠ none∧a ∉ as') :
  Rel C io H' σ (δ.set i (some t')) (fpu fp i as') (exu ex new)∧Stp false H δ fp H' (δ.set i (some t')) (fpu fp i as'):=by
 have hil:i < δ.length:=(List.getElem?_eq_some_iff.mp hi).1
 have apart:∀ j a,j ≠ i→a ∈ fp j→a ∉ as':=fun j a e m z=>by
  rcases new' a z with z | z
  ·exact e (R.dj j i a m z)
  ·exact R.footSome z ⟨j,m⟩
 constructor
 ·refine ⟨by rw [List.length_set]; exact R.len,fun j t'' e=>?_,fun j h=>?_,fun j=>?_,fun j k a h1 h2=>?_,fun j a h z=>?_,fun a z w=>z.elim (fun z=>R.xa a z (al a w)) (fun z=>(hn a z).2.1 w),fun b ob e n=>?_,fun b z=>R.al b (al b z),fun j a h=>?_,R.io⟩
  ·by_cases ej:j = i
   ·subst ej
    rw [List.getElem?_set_self hil] at e
    cases e
    exact ⟨v,hv,by rw [Zu]; exact o⟩
   ·rw [List.getElem?_set_ne (Ne.symm ej)] at e
    obtain ⟨w,e1,o1⟩:=R.own j t'' e
    refine ⟨w,e1,?_⟩
    rw [Z9 ej]
    refine o1.frame (fun a xs l q=>?_) (fun a xs q=>keep a _ q fun z=>?_) fun a m xs q=>keep a _ q fun z=>ej (R.dj j i a m z)
    ·have na:a ∉ fp i:=fun z=>l.1 ⟨i,z⟩
     refine ⟨⟨fun z=>?_,fun z=>z.elim l.2.1 fun z=>q.some (hn a z).1,l.2.2⟩,?_⟩
     ·rcases z.of_u with z | ⟨k,_,z⟩
      ·rcases new' a z with z | z
       ·exact na z
       ·exact q.some z
      ·exact l.1 ⟨k,z⟩
     ·rcases q with q | ⟨u,q⟩
      ·exact .inl (keep a _ q na)
      ·exact .inr ⟨u,keep a _ q na⟩
    ·obtain ⟨ys,e⟩:=R.foot ⟨i,z⟩
     exact ImO.nm q e
  ·by_cases ej:j = i
   ·subst ej
    exact absurd (List.getElem?_set_self hil) (h t')
   ·rw [Z9 ej]
    refine R.emp j fun t'' z=>h t'' ?_
    rw [List.getElem?_set_ne (Ne.symm ej)]
    exact z
  ·by_cases ej:j = i
   ·subst ej; rw [Zu]; exact nd
   ·rw [Z9 ej]; exact R.nd j
  ·by_cases ej:j = i
   ·subst ej
    rw [Zu] at h1
    by_cases ek:k = j
    ·exact ek.symm
    ·rw [Z9 ek] at h2
     exact absurd h1 (apart k a ek h2)
   ·rw [Z9 ej] at h1
    by_cases ek:k = i
    ·subst ek
     rw [Zu] at h2
     exact absurd h2 (apart j a ej h1)
    ·rw [Z9 ek] at h2
     exact R.dj j k a h1 h2
  ·by_cases ej:j = i
   ·subst ej
    rw [Zu] at h
    rcases z with z | z
    ·rcases new' a h with w | w
     ·exact R.dx _ a w z
     ·exact R.xa a z w
    ·exact (hn a z).2.2 h
   ·rw [Z9 ej] at h
    rcases z with z | z
    ·exact R.dx j a h z
    ·exact R.footSome (hn a z).1 ⟨j,h⟩
  ·refine keep b ob (R.fr b ob e n) fun z=>?_
   rcases R.new i b z with w | w
   ·exact n w.2
   ·rw [e] at w; cases w
  ·by_cases ej:j = i
   ·subst ej
    rw [Zu] at h
    rcases new' a h with w | w
    ·exact R.new _ a w
    ·exact .inr (R.al a w)
   ·rw [Z9 ej] at h
    exact R.new j a h
 ·refine ⟨fun b ob e q=>keep b ob e fun z=>(q.resolve_left (by decide)) ⟨i,z⟩,fun z=>(nomatch z),fun a z=>?_,al⟩
  rcases z.of_u with z | ⟨j,_,z⟩
  ·exact (new' a z).imp (fun w=>⟨i,w⟩) id
  ·exact .inl ⟨j,z⟩
noncomputable def PNs (G:PySem.W.Frag) (r:List V→Hp→VK→Prop) (rp:List PyData→(PyData→Prop)→Prop):Prop:=∀ (H:Hp) (L:Addr→Prop) (xs:List V) (ds:List PyData) (k:PyData→Prop) (Q:VK),Das G H L xs ds→rp ds k→(∀ v d',ScD v d'→k d'→Q v H)→r xs H Q
noncomputable def PN (G:PySem.W.Frag) (r:List V→Hp→VK→Prop) (rp:List PyData→(OT→Prop)→Prop):Prop:=∀ (H:Hp) (L:Addr→Prop) (xs:List V) (ds:List PyData) (k:OT→Prop) (Q:VK),Das G H L xs ds→rp ds k →
 (∀ H' v o new,Same H H'→Own G H' (fun a=>(L a∨H a = none)∧a ∉ new) v o new→new.Nodup→(∀ a ∈ new,H a = none)→k o→Q v H')→r xs H Q
noncomputable def Z3m (rp:List PyData→(PyData→Prop)→Prop) (mr:MAt):MEt:=fun δ K=>mr δ fun rs δ1=>rp (OT.datas rs) fun d=>K (.fz d) δ1
noncomputable def mBl (rp:List PyData→(OT→Prop)→Prop) (mr:MAt):MEt:=fun δ K=>mr δ fun rs δ1=>rp (OT.datas rs) fun o=>K o δ1
theorem Z7z {r rp} {t:TA} (P:PNs G r rp) (sa:SA G io p c t mr):SE G io p true (tCB r t) (Z3m rp mr):=fun C H σ δ fp ex K Q R h kk =>
 sa C H σ δ fp ex _ _ R h fun H1 vs rs δ1 fp1 new1 r1 h1=>P H1 _ vs _ _ _ (r1.das R) h1 fun v d' sc h2=>kk H1 v _ δ1 fp1 [] (.fz r1.base r1.stp sc.da) h2
theorem sBl {r rp} {t:TA} (P:PN G r rp) (sa:SA G io p c t mr):SE G io p c (tCB r t) (mBl rp mr):=fun C H σ δ fp ex K Q R h kk =>
 sa C H σ δ fp ex _ _ R h fun H1 vs rs δ1 fp1 new1 r1 h1=>P H1 _ vs _ _ _ (r1.das R) h1 fun H' v o new s ow nd hn h2=>kk H' v o δ1 fp1 new (RE.tree R r1.base r1.stp s hn nd ow) h2
variable {id T:String} {r:List V→Hp→VK→Prop}
theorem Zev {rp} (P:PNs X.K r rp) (hc:Zcn X (.builtin id) r) (hg:Gl X x) (hm:X.mg x = none) (hv:bootBuiltins x = some (.builtin id)) (ha:MA X io p c (e :: es) mr) (hn:x ≠ "__name__" := by decide) (hdb:(x == ("__debug__" : Str)) = false:=by decide)
  (he:starEach (e :: es) X.env = (false,eval e X.env) :: starEach es X.env:=by rfl) (hpl:(backTo pos (starEach es X.env)).any (·.1) = false:=by rfl):ME X io p true (.Call (.Name x pp) (e :: es) [] pos) (Z3m rp mr):=by
 obtain ⟨_,A,sa⟩:=ha
 exact ⟨_,Zgh hc hg hm hv A hn hdb he hpl,Z7z P sa⟩
theorem Z5a {rp} (P:PNs X.K r rp) (hc:Zcn X (.type T) r) (hg:Gl X x) (hm:X.mg x = none) (hv:bootBuiltins x = some (.type T)) (ha:MA X io p c (e :: es) mr) (hn:x ≠ "__name__" := by decide) (hdb:(x == ("__debug__" : Str)) = false:=by decide)
  (he:starEach (e :: es) X.env = (false,eval e X.env) :: starEach es X.env:=by rfl) (hpl:(backTo pos (starEach es X.env)).any (·.1) = false:=by rfl):ME X io p true (.Call (.Name x pp) (e :: es) [] pos) (Z3m rp mr):=by
 obtain ⟨_,A,sa⟩:=ha
 exact ⟨_,Ziw hc hg hm hv A hn hdb he hpl,Z7z P sa⟩
theorem Z79 {rp} (P:PN X.K r rp) (hc:Zcn X (.type T) r) (hg:Gl X x) (hm:X.mg x = none) (hv:bootBuiltins x = some (.type T)) (ha:MA X io p c (e :: es) mr) (hn:x ≠ "__name__" := by decide) (hdb:(x == ("__debug__" : Str)) = false:=by decide)
  (he:starEach (e :: es) X.env = (false,eval e X.env) :: starEach es X.env:=by rfl) (hpl:(backTo pos (starEach es X.env)).any (·.1) = false:=by rfl):ME X io p c (.Call (.Name x pp) (e :: es) [] pos) (mBl rp mr):=by
 obtain ⟨_,A,sa⟩:=ha
 exact ⟨_,Ziw hc hg hm hv A hn hdb he hpl,sBl P sa⟩
end
end L2
namespace L2
open PySem PySem.Spec PyProof.Rows
variable {G:PySem.W.Frag}
mutual
noncomputable def Jp:PyData→Bool
 | .none=>true
 | .bool _=>true
 | .int _=>true
 | .str _=>true
 | .tuple ds=>Zdm ds
 | .list _=>false
 | .dict _=>false
noncomputable def Zdm:List PyData→Bool
 | []=>true
 | d :: ds=>Jp d && Zdm ds
end
theorem Da.flat2 {H:Hp} {L L':Addr→Prop}:(∀ {v:V} {d:PyData},Da G H L v d→Jp d = true→Da G H L' v d)∧∀ {v:List V} {d:List PyData},Das G H L v d→Zdm d = true→Das G H L' v d :=
 Da.both (fun _=>.non) (fun b _=>.bl b) (fun i _=>.int i) (fun x _=>.str x) (fun _ _ _ h=>by rw [Jp] at h; cases h) (fun e r h=>.tup e (r (by rw [Jp] at h; exact h))) (fun k _=>.scr k) (fun c n e _=>.exc c n e) (fun k _=>.fn k) (fun _ _ _ _ h=>by rw [dcD,Jp] at h; cases h) (fun _=>.nil)
  (fun k r h=>by rw [Zdm,Bool.and_eq_true] at h; exact .cons (k h.1) (r h.2))
theorem Da.flat {H:Hp} {L L':Addr→Prop} {v:V} {d:PyData} (h:Da G H L v d) (f:Jp d = true):Da G H L' v d:=Da.flat2.1 h f
set_option genInjectivity false in
structure Zcz where
 nx:Zc→Prop
 rt:OT→Zc→Prop
 bk:Zc→Prop:=fun _=>False
 ct:Zc→Prop:=fun _=>False
noncomputable abbrev MSt:=Zcz→Zc→Prop
noncomputable abbrev Kp (H:Hp) (fp:Fp) (H':Hp) (fp':Fp):Prop:=Stp false H [] fp H' [] fp'
theorem Stp.kp {p:Bool} {H H':Hp} {δ δ':Zc} {fp fp':Fp} (S:Stp p H δ fp H' δ' fp'):Kp H fp H' fp':=⟨fun b o e q=>S.keep b o e (.inr (q.resolve_left (by decide))),fun z=>(nomatch z),S.grow,S.al⟩
theorem Kp.trans {H H1 H2:Hp} {fp fp1 fp2:Fp} (a:Kp H fp H1 fp1) (b:Kp H1 fp1 H2 fp2):Kp H fp H2 fp2:=Stp.trans a b
theorem Kp.refl (H:Hp) (fp:Fp):Kp H fp H fp:=Stp.refl _ _ _ _
structure RelEnds (C:MC G) (io:List Nat) (ex:Addr→Prop) (H:Hp) (fp:Fp) (D:Zcz) (D':Ends):Prop where
 nx:∀ H' σ' δ' fp',Rel C io H' σ' δ' fp' ex→Kp H fp H' fp'→D.nx δ'→D'.nx σ' H'
 bk:∀ H' σ' δ' fp',Rel C io H' σ' δ' fp' ex→Kp H fp H' fp'→D.bk δ'→D'.bk σ' H'
 ct:∀ H' σ' δ' fp',Rel C io H' σ' δ' fp' ex→Kp H fp H' fp'→D.ct δ'→D'.ct σ' H'
 rt:∀ H' σ' v r δ' fp' new,Rel C io H' σ' δ' fp' (exu ex new)→Own G H' (Lf C fp' (exu ex new)) v r new→new.Nodup→(∀ a ∈ new,C.H₀ a = none)→D.rt r δ'→D'.rt v H'
theorem RelEnds.shift {C:MC G} {io:List Nat} {ex:Addr→Prop} {H H1:Hp} {fp fp1:Fp} {D:Zcz} {D':Ends} (E:RelEnds C io ex H fp D D') (k:Kp H fp H1 fp1):RelEnds C io ex H1 fp1 D D' :=
 ⟨fun H' σ' δ' fp' R q=>E.nx H' σ' δ' fp' R (k.trans q),fun H' σ' δ' fp' R q=>E.bk H' σ' δ' fp' R (k.trans q),fun H' σ' δ' fp' R q=>E.ct H' σ' δ' fp' R (k.trans q),E.rt⟩
noncomputable def SS (G:PySem.W.Frag) (io:List Nat) (t:TS) (m:MSt):Prop:=∀ (C:MC G) (H:Hp) (σ:St) (δ:Zc) (fp:Fp) (ex:Addr→Prop) (D:Zcz) (D':Ends),Rel C io H σ δ fp ex→m D δ→RelEnds C io ex H fp D D'→t D' σ H
noncomputable def MS (X:Cx) (io:List Nat) (st:Stmt) (m:MSt):Prop:=∃ t,PS X st t∧SS X.K io t m
noncomputable def MSs (X:Cx) (io:List Nat) (st:List Stmt) (m:MSt):Prop:=∃ t,PSs X st t∧SS X.K io t m
section
variable {X:Cx} {io:List Nat} {p p' p'' c c':Bool} {e a b:Expr} {m ma mb:MEt} {es rest:List Expr} {mr:MAt} {pos:Pos} {st:Stmt} {sts:List Stmt} {u w:MSt} {mt:MTt}
noncomputable def Z2y:MSt:=fun D δ=>D.nx δ
noncomputable def Z9r (w:MSt) (D:Zcz) (δ:Zc):Prop:=w D δ
noncomputable def Z5l (u w:MSt):MSt:=fun D δ=>u { D with nx:=Z9r w D } δ
theorem Zug:MSs X io [] Z2y:=⟨_,Zmq,fun C H σ δ fp ex D D' R h E=>E.nx H σ δ fp R (.refl _ _) h⟩
theorem Zh (h:MS X io st u):MSs X io [st] u:=by
 obtain ⟨_,A,s⟩:=h
 exact ⟨_,Zm3 A,s⟩
theorem Zqq (h:MS X io st u) (g:MSs X io sts w):MSs X io (st :: sts) (Z5l u w):=by
 obtain ⟨_,A,s⟩:=h
 obtain ⟨tb,B,s'⟩:=g
 exact ⟨_,Zq1 A B,fun C H σ δ fp ex D D' R h E=>s C H σ δ fp ex _ _ R h ⟨fun H1 σ1 δ1 fp1 R1 k1 h1=>s' C H1 σ1 δ1 fp1 ex D D' R1 h1 (E.shift k1),E.bk,E.ct,E.rt⟩⟩
noncomputable def Zyd:MSt:=fun _ _=>False
theorem Zr1:MS X io st Zyd:=⟨_,Zqb,fun C H σ δ fp ex D D' R h E=>h.elim⟩
noncomputable def Z2x (m:MEt):MSt:=fun D δ=>m δ fun _ δ'=>D.nx δ'
theorem Zcd (he:ME X io p c e m) (hs:swapsWith e none pos.line X.env = pure false:=by rfl):MS X io (.Expr e pos) (Z2x m):=by
 obtain ⟨_,A,s⟩:=he
 exact ⟨_,Zc3 A hs,fun C H σ δ fp ex D D' R h E=>s C H σ δ fp ex _ _ R h fun H' v r δ' fp' new r1 h1=>E.nx H' σ δ' fp' r1.base r1.stp.kp h1⟩
noncomputable def Z8b (m:MEt):MSt:=fun D δ=>m δ fun r δ'=>D.rt r δ'
theorem Z2o (he:ME X io p true e m):MS X io (.Return (some e) pos) (Z8b m):=by
 obtain ⟨_,A,s⟩:=he
 exact ⟨_,Zor A,fun C H σ δ fp ex D D' R h E=>s C H σ δ fp ex _ _ R h fun H' v r δ' fp' new r1 h1=>E.rt H' σ v r δ' fp' new r1.rel (r1.own.wide fun a l _=>l rfl) r1.nd (fun a m=>(R.newOk (r1.fresh a m)).2.2) h1⟩
noncomputable def Zrf (i:Nat):MSt:=fun D δ=>match δ[i]? with | some (some t)=>D.rt t (δ.set i none) | _=>False
theorem Rel.take {C:MC G} {H:Hp} {σ:St} {δ:Zc} {fp:Fp} {ex:Addr→Prop} {i:Nat} {t:OT} (R:Rel C io H σ δ fp ex) (hi:δ[i]? = some (some t)):Rel C io H σ (δ.set i none) (fpu fp i []) (exu ex (fp i)):=by
 have hil:i < δ.length:=(List.getElem?_eq_some_iff.mp hi).1
 have get:∀ j (t':OT),(δ.set i none)[j]? = some (some t')→j ≠ i∧δ[j]? = some (some t'):=fun j t' e=>by
  by_cases ej:j = i
  ·subst ej; rw [List.getElem?_set_self hil] at e; cases e
  ·rw [List.getElem?_set_ne (Ne.symm ej)] at e; exact ⟨ej,e⟩
 have sub:∀ j a,a ∈ fpu fp i [] j→j ≠ i∧a ∈ fp j:=fun j a m=>by
  by_cases ej:j = i
  ·subst ej; rw [Zu] at m; exact nomatch m
  ·rw [Z9 ej] at m; exact ⟨ej,m⟩
 have lw:∀ a,Lf C fp ex a→Lf C (fpu fp i []) (exu ex (fp i)) a:=fun a l=>⟨fun ⟨j,z⟩=>l.1 ⟨j,(sub j a z).2⟩,fun z=>z.elim l.2.1 fun z=>l.1 ⟨i,z⟩,l.2.2⟩
 refine ⟨by rw [List.length_set]; exact R.len,fun j t' e=>?_,fun j h=>?_,fun j=>?_,fun j k a h1 h2=>R.dj j k a (sub j a h1).2 (sub k a h2).2,fun j a h z=>?_,fun a z w=>?_,R.fr,R.al,fun j a h=>R.new j a (sub j a h).2,R.io⟩
 ·obtain ⟨ej,e⟩:=get j t' e
  obtain ⟨w,e1,o⟩:=R.own j t' e
  exact ⟨w,e1,by rw [Z9 ej]; exact o.wide fun a l _=>lw a l⟩
 ·by_cases ej:j = i
  ·subst ej; rw [Zu]
  ·rw [Z9 ej]
   exact R.emp j fun t' z=>h t' (by rw [List.getElem?_set_ne (Ne.symm ej)]; exact z)
 ·by_cases ej:j = i
  ·subst ej; rw [Zu]; exact .nil
  ·rw [Z9 ej]; exact R.nd j
 ·obtain ⟨ej,h⟩:=sub j a h
  rcases z with z | z
  ·exact R.dx j a h z
  ·exact ej (R.dj j i a h z)
 ·rcases z with z | z
  ·exact R.xa a z w
  ·exact R.footSome w ⟨i,z⟩
theorem Zcf (i:Nat) {x:Str} {px:Pos} (hio:i ∉ io:=by decide) (hN:X.N[i]? = some x:=by rfl) (hv:Vis X.env.scope x:=by first | exact Or.inl rfl | exact Or.inr (Or.inl rfl) | exact Or.inr (Or.inr rfl)) (hd:(x == ("__debug__" : Str)) = false:=by decide)
  (hcd:(x == ("__classdict__" : Str)) = false:=by decide):MS X io (.Return (some (.Name x px)) pos) (Zrf i):=by
 refine ⟨_,Zor (pv i hN hv hd hcd),fun C H σ δ fp ex D D' R h E=>?_⟩
 unfold Zrf at h
 split at h
 case h_2=>exact h.elim
 rename_i t hi
 obtain ⟨v,e,o⟩:=R.own i t hi
 have lw:∀ a,Lf C fp ex a→H a ≠ none→Lf C (fpu fp i []) (exu ex (fp i)) a:=fun a l _=>⟨fun z=>by
  rcases z.of_u with z | ⟨j,_,z⟩
  ·exact nomatch z
  ·exact l.1 ⟨j,z⟩,fun z=>z.elim l.2.1 fun z=>l.1 ⟨i,z⟩,l.2.2⟩
 have hn:∀ a ∈ fp i,C.H₀ a = none:=fun a m=>by
  rcases R.new i a m with z | z
  ·exact absurd z.1 hio
  ·exact z
 exact ⟨v,e,E.rt H σ v t _ _ (fp i) (R.take hi) (o.wide lw) (R.nd i) hn h⟩
noncomputable def Z8d (t:MTt) (u w:MSt):MSt:=fun D δ=>t δ fun b δ'=>if b = true then u D δ' else w D δ'
theorem Z32 {cnd:Expr} {ss ss':List Stmt} (hc:MT X io p cnd mt) (ha:MSs X io ss u) (hb:MSs X io ss' w):MS X io (.If cnd ss ss' pos) (Z8d mt u w):=by
 obtain ⟨_,T,s⟩:=hc
 obtain ⟨_,A,sa⟩:=ha
 obtain ⟨_,B,sb⟩:=hb
 exact ⟨_,Zzm T A B,fun C H σ δ fp ex D D' R h E=>s C H σ δ fp ex _ _ R h fun H' b δ' fp' R' S h'=>by
  cases b with
  | true =>
   rw [if_pos rfl] at h' ⊢
   exact sa C H' σ δ' fp' ex D D' R' h' (E.shift S.kp)
  | false =>
   rw [if_neg Bool.false_ne_true] at h' ⊢
   exact sb C H' σ δ' fp' ex D D' R' h' (E.shift S.kp)⟩
theorem Rel.put {C:MC G} {H:Hp} {σ:St} {δ:Zc} {fp:Fp} {ex:Addr→Prop} {i:Nat} {v:V} {r:OT} {new:List Addr} (R:Rel C io H σ δ fp (exu ex new)) (hio:i ∉ io) (o:Own G H (Lf C fp (exu ex new)) v r new) (nd:new.Nodup)
  (hn:∀ a ∈ new,C.H₀ a = none∧¬ ex a):∃ fp',Rel C io H (σ.set i (some v)) (δ.set i (some r)) fp' ex∧∀ a,Foot fp' a→Foot fp a∨a ∈ new:=by
 by_cases hil:i < δ.length
 case neg =>
  refine ⟨fp,?_,fun a h=>.inl h⟩
  have hl:=R.len
  rw [List.set_eq_of_length_le (show δ.length ≤ i by omega),List.set_eq_of_length_le (show σ.length ≤ i by omega)]
  exact R.drop fun a z=>.inl z
 have hsl:i < σ.length:=by rw [R.len]; exact hil
 have sub:∀ a,Foot (fpu fp i new) a→Foot fp a∨a ∈ new:=fun a z=>by
  rcases z.of_u with z | ⟨j,_,z⟩
  ·exact .inr z
  ·exact .inl ⟨j,z⟩
 have lw:∀ a,Lf C fp (exu ex new) a→Lf C (fpu fp i new) ex a:=fun a l=>⟨fun z=>(sub a z).elim l.1 fun z=>l.2.1 (.inr z),fun z=>l.2.1 (.inl z),l.2.2⟩
 refine ⟨fpu fp i new,⟨by rw [List.length_set,List.length_set]; exact R.len,fun j t' e=>?_,fun j h=>?_,fun j=>?_,fun j k a h1 h2=>?_,fun j a h z=>?_,fun a z=>R.xa a (.inl z),R.fr,R.al,fun j a h=>?_,fun j hj=>?_⟩,sub⟩
 ·by_cases ej:j = i
  ·subst ej
   rw [List.getElem?_set_self hil] at e
   cases e
   exact ⟨v,List.getElem?_set_self hsl,by rw [Zu]; exact o.wide fun a l _=>lw a l⟩
  ·rw [List.getElem?_set_ne (Ne.symm ej)] at e
   obtain ⟨w,e1,o1⟩:=R.own j t' e
   exact ⟨w,by rw [List.getElem?_set_ne (Ne.symm ej)]; exact e1,by rw [Z9 ej]; exact o1.wide fun a l _=>lw a l⟩
 ·by_cases ej:j = i
  ·subst ej; exact absurd (List.getElem?_set_self hil) (h r)
  ·rw [Z9 ej]
   exact R.emp j fun t' z=>h t' (by rw [List.getElem?_set_ne (Ne.symm ej)]; exact z)
 ·by_cases ej:j = i
  ·subst ej; rw [Zu]; exact nd
  ·rw [Z9 ej]; exact R.nd j
 ·by_cases ej:j = i
  ·subst ej
   rw [Zu] at h1
   by_cases ek:k = j
   ·exact ek.symm
   ·rw [Z9 ek] at h2
    exact absurd (.inr h1) (R.dx k a h2)
  ·rw [Z9 ej] at h1
   by_cases ek:k = i
   ·subst ek
    rw [Zu] at h2
    exact absurd (.inr h2) (R.dx j a h1)
   ·rw [Z9 ek] at h2
    exact R.dj j k a h1 h2
 ·by_cases ej:j = i
  ·subst ej
   rw [Zu] at h
   exact (hn a h).2 z
  ·rw [Z9 ej] at h
   exact R.dx j a h (.inl z)
 ·by_cases ej:j = i
  ·subst ej
   rw [Zu] at h
   exact .inr (hn a h).1
  ·rw [Z9 ej] at h
   exact R.new j a h
 ·have ej:j ≠ i:=fun z=>hio (z ▸ hj)
  rw [List.getElem?_set_ne (Ne.symm ej)]
  exact R.io j hj
theorem RE.put {C:MC G} {H H':Hp} {σ:St} {δ δ':Zc} {fp fp':Fp} {ex:Addr→Prop} {i:Nat} {v:V} {r:OT} {new:List Addr} (R:RE C io p true H σ δ fp ex H' v r δ' fp' new) (R0:Rel C io H σ δ fp ex) (hio:i ∉ io) :
  ∃ fp2,Rel C io H' (σ.set i (some v)) (δ'.set i (some r)) fp2 ex∧Kp H fp H' fp2:=by
 obtain ⟨fp2,R2,g⟩:=R.rel.put hio (R.own.wide fun a l _=>l rfl) R.nd fun a m=>⟨(R0.newOk (R.fresh a m)).2.2,(R0.newOk (R.fresh a m)).2.1⟩
 refine ⟨fp2,R2,fun b o e q=>R.stp.keep b o e (.inr (q.resolve_left (by decide))),fun z=>(nomatch z),fun a z=>?_,R.stp.al⟩
 rcases g a z with z | z
 ·exact R.stp.grow a z
 ·exact .inr (R.fresh a z)
theorem RE.fzc {C:MC G} {H H':Hp} {σ:St} {δ δ':Zc} {fp fp':Fp} {ex:Addr→Prop} {v:V} {r:OT} {new:List Addr} (R:RE C io p c H σ δ fp ex H' v r δ' fp' new) (R0:Rel C io H σ δ fp ex) :
  RE C io p c H σ δ fp ex H' v (.fz r.data) δ' fp' []:=.fz R.base R.stp (R.da R0)
theorem RE.fzs {C:MC G} {H H':Hp} {σ:St} {δ δ':Zc} {fp fp':Fp} {ex:Addr→Prop} {v:V} {r:OT} {new:List Addr} (R:RE C io p c H σ δ fp ex H' v r δ' fp' new) (R0:Rel C io H σ δ fp ex) (h:Jp r.data = true) :
  RE C io p true H σ δ fp ex H' v (.fz r.data) δ' fp' []:=.fz R.base R.stp ((R.da R0).flat h)
noncomputable def Zxy (i:Nat) (m:MEt):MSt:=fun D δ=>m δ fun r δ'=>D.nx (δ'.set i (some (.fz r.data)))
noncomputable def Zvt (i:Nat) (m:MEt):MSt:=fun D δ=>m δ fun r δ'=>Jp r.data = true∧D.nx (δ'.set i (some (.fz r.data)))
noncomputable def Zl6 (i:Nat) (m:MEt):MSt:=fun D δ=>m δ fun r δ'=>D.nx (δ'.set i (some r))
section
variable {i:Nat} {x:Str} {px:Pos}
theorem Z8l {t:TE} (s:SE G io p true t m) (hio:i ∉ io):SS G io (Zzw t (Zlc i)) (Zxy i m):=fun C H σ δ fp ex D D' R h E=>s C H σ δ fp ex _ _ R h fun H' v r δ' fp' new r1 h1=>by
 obtain ⟨fp2,R2,k2⟩:=(r1.fzc R).put R hio
 exact E.nx H' _ _ fp2 R2 k2 h1
theorem Z6l {t:TE} (s:SE G io p c t m) (hio:i ∉ io):SS G io (Zzw t (Zlc i)) (Zvt i m):=fun C H σ δ fp ex D D' R h E=>s C H σ δ fp ex _ _ R h fun H' v r δ' fp' new r1 h1=>by
 obtain ⟨fp2,R2,k2⟩:=(r1.fzs R h1.1).put R hio
 exact E.nx H' _ _ fp2 R2 k2 h1.2
theorem Zyq {t:TE} (s:SE G io p true t m) (hio:i ∉ io):SS G io (Zzw t (Zlc i)) (Zl6 i m):=fun C H σ δ fp ex D D' R h E=>s C H σ δ fp ex _ _ R h fun H' v r δ' fp' new r1 h1=>by
 obtain ⟨fp2,R2,k2⟩:=r1.put R hio
 exact E.nx H' _ _ fp2 R2 k2 h1
theorem Zf4 (hN:X.N.Nodup) (hi:X.N[i]? = some x) (hx:Loc X.env.scope x) (he:ME X io p true e m) (hio:i ∉ io:=by decide) (hs:swapsWith e (some (.Name x px)) pos.line X.env = pure false:=by rfl) (hf:X.fn x = true∨X.env.scope.names.lookup x = some .local:=by first | exact .inl rfl | exact .inr rfl | assumption) :
  MS X io (.Assign [.Name x px] e pos) (Zxy i m):=by
 obtain ⟨_,A,s⟩:=he
 exact ⟨_,Znb hN hi hx A hs hf,Z8l s hio⟩
theorem Zv1 (hN:X.N.Nodup) (hi:X.N[i]? = some x) (hx:Loc X.env.scope x) (he:ME X io p c e m) (hio:i ∉ io:=by decide) (hs:swapsWith e (some (.Name x px)) pos.line X.env = pure false:=by rfl) (hf:X.fn x = true∨X.env.scope.names.lookup x = some .local:=by first | exact .inl rfl | exact .inr rfl | assumption) :
  MS X io (.Assign [.Name x px] e pos) (Zvt i m):=by
 obtain ⟨_,A,s⟩:=he
 exact ⟨_,Znb hN hi hx A hs hf,Z6l s hio⟩
theorem Znx (hN:X.N.Nodup) (hi:X.N[i]? = some x) (hx:Loc X.env.scope x) (he:ME X io p true e m) (hio:i ∉ io:=by decide) (hs:swapsWith e (some (.Name x px)) pos.line X.env = pure false:=by rfl) (hf:X.fn x = true∨X.env.scope.names.lookup x = some .local:=by first | exact .inl rfl | exact .inr rfl | assumption) :
  MS X io (.Assign [.Name x px] e pos) (Zl6 i m):=by
 obtain ⟨_,A,s⟩:=he
 exact ⟨_,Znb hN hi hx A hs hf,Zyq s hio⟩
end
noncomputable def Ztl (t:MTt) (u:MSt):MSt:=fun D δ=>∃ W:Nat→Zc→Prop,(∃ n,W n δ)∧∀ n δ,W n δ→t δ fun b δ'=>if b = true then ∃ N:Zc→Prop,(∀ δ',N δ'→∃ n',n' < n∧W n' δ')∧u { D with nx:=N,ct:=N,bk:=D.nx } δ' else D.nx δ'
theorem Zqa {cnd:Expr} {ss:List Stmt} (hp:PassesOwn (model X.prog X.w) X.A X.env X.xe) (hc:MT X io p cnd mt) (ha:MSs X io ss u):MS X io (.While cnd ss [] pos) (Ztl mt u):=by
 obtain ⟨_,T,s⟩:=hc
 obtain ⟨_,A,sa⟩:=ha
 refine ⟨_,Zrt hp T A,fun C H σ δ fp ex D D' R h E=>?_⟩
 obtain ⟨W,⟨n0,w0⟩,turn⟩:=h
 refine ⟨fun n σ' H'=>∃ δ' fp',Rel C io H' σ' δ' fp' ex∧Kp H fp H' fp'∧W n δ',⟨n0,δ,fp,R,.refl _ _,w0⟩,?_⟩
 rintro n σ1 H1 ⟨δ1,fp1,R1,k1,w1⟩
 refine s C H1 σ1 δ1 fp1 ex _ _ R1 (turn n δ1 w1) fun H2 b δ2 fp2 R2 S2 h2=>?_
 have k2:=k1.trans S2.kp
 cases b with
 | true =>
  rw [if_pos rfl] at h2 ⊢
  obtain ⟨N,hN,h2⟩:=h2
  refine ⟨fun σ' H'=>∃ δ' fp',Rel C io H' σ' δ' fp' ex∧Kp H fp H' fp'∧N δ',fun σ' H' ⟨δ',fp',R',k',n'⟩=>?_,?_⟩
  ·obtain ⟨n1,hn1,w1⟩:=hN δ' n'
   exact ⟨n1,hn1,δ',fp',R',k',w1⟩
  ·refine sa C H2 σ1 δ2 fp2 ex _ _ R2 h2 ⟨fun H' σ' δ' fp' R' k' n'=>⟨δ',fp',R',k2.trans k',n'⟩,fun H' σ' δ' fp' R' k' n'=>E.nx H' σ' δ' fp' R' (k2.trans k') n',fun H' σ' δ' fp' R' k' n'=>⟨δ',fp',R',k2.trans k',n'⟩,E.rt⟩
 | false =>
  rw [if_neg Bool.false_ne_true] at h2 ⊢
  exact E.nx H2 σ1 δ2 fp2 R2 k2 h2
end
end L2
namespace L2
open PySem PySem.Spec PyProof.Rows
variable {G:PySem.W.Frag}
noncomputable def Zft (N:List Str) (ds:List PyData):Zc:=ds.map (fun d=>some (.fz d)) ++ List.replicate (N.length - ds.length) none
section
variable {H:Hp} {L:Addr→Prop} {vs:List V} {ds:List PyData} {N:List Str}
theorem Zpg {i:Nat} {t:OT} {n:Nat} (h:(ds.map (fun d=>some (.fz d)) ++ List.replicate n none:Zc)[i]? = some (some t)):∃ d,ds[i]? = some d∧t = .fz d:=by
 rw [List.getElem?_append] at h
 split at h
 ·rw [List.getElem?_map] at h
  cases e:ds[i]? with
  | none=>rw [e] at h; cases h
  | some d=>rw [e] at h; cases h; exact ⟨d,rfl,rfl⟩
 ·rw [List.getElem?_replicate] at h
  split at h
  ·cases h
  ·cases h
theorem Rel.entry (h:Das G H L vs ds):Rel (G:=G) ⟨H,fun _=>False,L,start N vs⟩ [] H (start N vs) (Zft N ds) (fun _=>[]) (fun _=>False):=by
 refine ⟨?_,fun i t e=>?_,fun _ _=>rfl,fun _=>.nil,fun i j a m=>(nomatch m),fun i a m=>(nomatch m),fun a z=>z.elim,fun b o e _=>e,fun b e=>e,fun i a m=>(nomatch m),fun i m=>nomatch m⟩
 ·unfold start Zft
  simp [h.length]
 ·obtain ⟨d,e',rfl⟩:=Zpg e
  obtain ⟨x,e1,q⟩:=h.get e'
  refine ⟨x,?_,.fz (q.wide fun a l _=>⟨fun ⟨j,z⟩=>(nomatch z),fun z=>z,.inl l⟩)⟩
  unfold L2.start
  rw [List.getElem?_append_left (by rw [List.length_map]; exact (List.getElem?_eq_some_iff.mp e1).1),List.getElem?_map,e1]
  rfl
variable {P:Program} {w:World} {K:PySem.W.Frag} {mg:Str→Option Value} {base:Heap}
noncomputable def Zvu (k:OT→Prop):Zcz:={ nx:=fun _=>k (.fz .none),rt:=fun r _=>k r }
theorem Fun.okD {x qual:Str} {st:Stmt} {f:Addr} {fd:FuncData} {N ps:List Str} {n:Nat} {S:List PyData→(OT→Prop)→Prop} (F:Fun K x qual st f fd) (Sc:Zw N ps (Zg st)) (len:∀ ds k,S ds k→ds.length = ps.length)
  (hbody:∀ (cdv:Value) (A:Around) (outer:List Env) (s:Shared) (H:Hp) (E:XK),Room n (A.deeper (envOfC qual (Zg st) s.heap.objs.size f cdv)) →
   ∃ m,MSs (Zp6 CX0 P w K mg base N qual (Zg st) f cdv A outer s H E).nox [] (Zo st) m∧∀ ds k,S ds k→m (Zvu k) (Zft N ds)):FnOk P w K mg base CX0 (n + 1) f fd ps (spD K S):=by
 refine F.ok Sc (fun vs H Q E h=>?_) (fun cdv A outer s H vs Q E hr h=>?_)
 ·obtain ⟨L,ds,k,h1,h2,_⟩:=h
  rw [h1.length]
  exact len ds k h2
 ·obtain ⟨L,ds,k,h1,h2,h3⟩:=h
  obtain ⟨m,⟨t,A1,s1⟩,q⟩:=hbody cdv A outer s H E hr
  refine ⟨t,A1,s1 ⟨H,fun _=>False,L,start N vs⟩ H _ _ _ _ (Zvu k) _ (Rel.entry h1) (q ds k h2) ⟨fun H' σ' δ' fp' R _ hk=>?_,fun _ _ _ _ _ _ z=>z.elim,fun _ _ _ _ _ _ z=>z.elim,fun H' σ' v r δ' fp' new R o nd hn hk=>?_⟩⟩
  ·exact h3 _ .non H' [] hk (fun b o e=>R.fr b o e id) (.fz .non) .nil fun a m=>nomatch m
  ·refine h3 r v H' new hk (fun b o e=>R.fr b o e id) (o.wide fun a l _=>⟨?_,fun z=>l.2.1 (.inr z)⟩) nd hn
   exact l.2.2
end
noncomputable abbrev MGt:=PyData→Zc→(Zc→Prop)→Prop
noncomputable abbrev Zp7:=List PyData→Zc→(Zc→Prop)→Prop
noncomputable def SG (G:PySem.W.Frag) (io:List Nat) (c:Bool) (t:TG) (g:MGt):Prop:=∀ (C:MC G) (H:Hp) (σ:St) (δ:Zc) (fp:Fp) (ex:Addr→Prop) (v:V) (d:PyData) (k:Zc→Prop) (Q:St→Hp→Prop),Rel C io H σ δ fp ex→Da G H (fun a=>c = true→Lf C fp ex a) v d→g d δ k →
 (∀ σ' δ' fp',Rel C io H σ' δ' fp' ex→Kp H fp H fp'→k δ'→Q σ' H)→t v σ H Q
noncomputable def SGs (G:PySem.W.Frag) (io:List Nat) (c:Bool) (t:TGs) (g:Zp7):Prop:=∀ (C:MC G) (H:Hp) (σ:St) (δ:Zc) (fp:Fp) (ex:Addr→Prop) (v:List V) (d:List PyData) (k:Zc→Prop) (Q:St→Hp→Prop),Rel C io H σ δ fp ex→Das G H (fun a=>c = true→Lf C fp ex a) v d→g d δ k →
 (∀ σ' δ' fp',Rel C io H σ' δ' fp' ex→Kp H fp H fp'→k δ'→Q σ' H)→t v σ H Q
noncomputable def MG (X:Cx) (io:List Nat) (c:Bool) (tg:Expr) (g:MGt):Prop:=∃ t,PG X tg t∧SG X.K io c t g
noncomputable def MGs (X:Cx) (io:List Nat) (c:Bool) (tg:List Expr) (g:Zp7):Prop:=∃ t,PGs X tg t∧SGs X.K io c t g
section
variable {X:Cx} {io:List Nat} {c:Bool} {pos:Pos} {i:Nat} {x:Str}
noncomputable def dName (i:Nat):MGt:=fun d δ k=>k (δ.set i (some (.fz d)))
noncomputable def Zss (i:Nat):MGt:=fun d δ k=>Jp d = true∧k (δ.set i (some (.fz d)))
theorem Rel.putD {C:MC G} {H:Hp} {σ:St} {δ:Zc} {fp:Fp} {ex:Addr→Prop} {v:V} {d:PyData} (R:Rel C io H σ δ fp ex) (hio:i ∉ io) (q:Da G H (Lf C fp ex) v d) :
  ∃ fp',Rel C io H (σ.set i (some v)) (δ.set i (some (.fz d))) fp' ex∧Kp H fp H fp':=by
 obtain ⟨fp',R',g⟩:=(R.drop fun a z=>Zae.mp z).put (new:=[]) hio (.fz (q.wide fun a l _=>⟨l.1,fun z=>l.2.1 (Zae.mp z),l.2.2⟩)) .nil (fun a m=>nomatch m)
 exact ⟨fp',R',fun b o e _=>e,fun z=>(nomatch z),fun a z=>(g a z).imp id fun z=>(nomatch z),fun b e=>e⟩
theorem Zuh (hN:X.N.Nodup) (hi:X.N[i]? = some x:=by rfl) (hx:Loc X.env.scope x:=by first | exact Or.inl rfl | exact Or.inr rfl) (hio:i ∉ io:=by decide) (hf:X.fn x = true∨X.env.scope.names.lookup x = some .local:=by first | exact .inl rfl | exact .inr rfl | assumption):MG X io true (.Name x pos) (dName i) :=
 ⟨_,Zo2 hN hi hx hf,fun C H σ δ fp ex v d k Q R q h kk=>by
  obtain ⟨fp',R',k'⟩:=R.putD hio (q.wide fun a l _=>l rfl)
  exact kk _ _ fp' R' k' h⟩
theorem Zrn (hN:X.N.Nodup) (hi:X.N[i]? = some x:=by rfl) (hx:Loc X.env.scope x:=by first | exact Or.inl rfl | exact Or.inr rfl) (hio:i ∉ io:=by decide) (hf:X.fn x = true∨X.env.scope.names.lookup x = some .local:=by first | exact .inl rfl | exact .inr rfl | assumption):MG X io c (.Name x pos) (Zss i) :=
 ⟨_,Zo2 hN hi hx hf,fun C H σ δ fp ex v d k Q R q h kk=>by
  obtain ⟨fp',R',k'⟩:=R.putD hio (q.flat h.1)
  exact kk _ _ fp' R' k' h.2⟩
noncomputable def Z63:Zp7:=fun ds δ k=>ds = []∧k δ
noncomputable def Z01 (g:MGt) (gs:Zp7):Zp7:=fun ds δ k=>match ds with | d :: r=>g d δ fun δ'=>gs r δ' k | []=>False
theorem Zvy:MGs X io c [] Z63:=⟨_,Zxj,fun C H σ δ fp ex v d k Q R q h kk=>by
 obtain ⟨rfl,h⟩:=h
 cases q
 exact ⟨rfl,kk σ δ fp R (.refl _ _) h⟩⟩
theorem Rel.kp_das {C:MC G} {H H':Hp} {σ:St} {δ:Zc} {fp fp':Fp} {ex:Addr→Prop} {vs:List V} {ds:List PyData} (R:Rel C io H σ δ fp ex) (S:Kp H fp H' fp') (h:Das G H (Lf C fp ex) vs ds):Das G H' (Lf C fp' ex) vs ds:=by
 have S':Stp false H δ fp H' δ fp':=⟨S.keep,fun z=>(nomatch z),S.grow,S.al⟩
 obtain ⟨f1,f2⟩:=R.frameL (c:=true) (ex':=ex) S' (.inr rfl) fun a z=>.inl z
 exact h.frame (fun a xs l q=>⟨(f1 a xs (fun _=>l) q).1 rfl,(f1 a xs (fun _=>l) q).2⟩) f2
theorem Zj8 {e:Expr} {es:List Expr} {g:MGt} {gs:Zp7} (h1:MG X io true e g) (h2:MGs X io true es gs)
  (hs:(assignEach (e :: es) X.env).map (·.2) = assign e X.env :: (assignEach es X.env).map (·.2):=by rfl):MGs X io true (e :: es) (Z01 g gs):=by
 obtain ⟨_,A,s⟩:=h1
 obtain ⟨_,B,s'⟩:=h2
 exact ⟨_,Zqu A B hs,fun C H σ δ fp ex v d k Q R q h kk=>by
  cases q with
  | nil=>exact h.elim
  | cons q qs =>
   refine ⟨_,_,rfl,s C H σ δ fp ex _ _ _ _ R q h fun σ1 δ1 fp1 R1 k1 h1=>?_⟩
   exact s' C H σ1 δ1 fp1 ex _ _ _ _ R1 ((R.kp_das k1 (qs.wide fun a l _=>l rfl)).wide fun a l _ _=>l) h1 fun σ2 δ2 fp2 R2 k2 h2=>kk σ2 δ2 fp2 R2 (k1.trans k2) h2⟩
noncomputable def dTup (n:Nat) (gs:Zp7):MGt:=fun d δ k=>match d with | .tuple ds=>ds.length = n∧gs ds δ k | _=>False
theorem Z1l {es:List Expr} {k:Nat} {gs:Zp7} {n:Nat} (hc:X.calm = true) (h:MGs X io c es gs)
  (hn:(assignEach es X.env).length = n:=by rfl) (hst:(assignEach es X.env).findIdx? (·.1) = none:=by rfl):MG X io c (.Tuple es k pos) (dTup n gs):=by
 obtain ⟨_,A,s⟩:=h
 exact ⟨_,Z2t hc A hn hst,fun C H σ δ fp ex v d k Q R q h kk=>by
  cases q with
  | tup e qs=>exact ⟨_,_,rfl,.inl (.inl e),by rw [qs.length]; exact h.1,s C H σ δ fp ex _ _ _ _ R qs h.2 kk⟩
  | _=>exact h.elim⟩
end
end L2
namespace L2
open PySem PySem.Spec PyProof.Rows
variable {G:PySem.W.Frag}
noncomputable def IterOk (C:MC G) (fp:Fp) (ex:Addr→Prop) (H1:Hp) (c:Bool) (J:It) (ds:List PyData):Prop:=∀ H':Hp,(∀ b o,H1 b = some o→(c = false∨¬ Foot fp b)→H' b = some o)→∀ i:Nat,
 (∀ d,ds[i]? = some d→J.go i H'∧∀ x H'',J.yld i H' x H''→Same H' H''∧Da G H'' (fun a=>c = true→(Lf C fp ex a∧H1 a ≠ none)) x d)∧(ds[i]? = none→J.stop i H')
noncomputable abbrev MIt:=Zc→(List PyData→Zc→Prop)→Prop
noncomputable def SI (G:PySem.W.Frag) (io:List Nat) (p c:Bool) (t:TI) (m:MIt):Prop:=∀ (C:MC G) (H:Hp) (σ:St) (δ:Zc) (fp:Fp) (ex:Addr→Prop) (K:List PyData→Zc→Prop) (Q:It→Hp→Prop),Rel C io H σ δ fp ex→m δ K →
 (∀ J H1 ds δ1 fp1,Rel C io H1 σ δ1 fp1 ex→Stp p H δ fp H1 δ1 fp1→IterOk C fp1 ex H1 c J ds→K ds δ1→Q J H1)→t σ H Q
noncomputable def MI (X:Cx) (io:List Nat) (p c:Bool) (tg iter:Expr) (m:MIt):Prop:=∃ t,PI X tg iter t∧SI X.K io p c t m
section
variable {X:Cx} {io:List Nat} {p c:Bool} {e a b tg:Expr} {m:MEt} {mr:MAt} {K:PySem.W.Frag}
noncomputable def iL (m:MEt):MIt:=fun δ K=>m δ fun r δ'=>match r.data with | .list ds=>K ds δ' | _=>False
noncomputable def iT (m:MEt):MIt:=fun δ K=>m δ fun r δ'=>match r.data with | .tuple ds=>K ds δ' | _=>False
theorem Rel.kept {C:MC G} {H H':Hp} {σ:St} {δ:Zc} {fp:Fp} {ex:Addr→Prop} (R:Rel C io H σ δ fp ex) (kp:∀ b o,H b = some o→(c = false∨¬ Foot fp b)→H' b = some o) :
  (∀ a (xs:MuO),(c = true→Lf C fp ex a)→Rd H a xs.ho→(c = true→(Lf C fp ex a∧H a ≠ none))∧Rd H' a xs.ho)∧(∀ a (xs:ImO),H a = some xs.ho→H' a = some xs.ho):=by
 refine ⟨fun a xs l q=>⟨fun hc=>⟨l hc,q.some⟩,?_⟩,fun a xs q=>kp a _ q (.inr fun z=>?_)⟩
 ·have hk:c = false∨¬ Foot fp a:=by
   cases c with
   | false=>exact .inl rfl
   | true=>exact .inr (l rfl).1
  rcases q with q | ⟨o,q⟩
  ·exact .inl (kp a _ q hk)
  ·exact .inr ⟨o,kp a _ q hk⟩
 ·obtain ⟨ys,e⟩:=R.foot z
  exact ImO.nm q e
theorem Zwv (h:ME X io p c e m):MI X io p c tg e (iL m):=by
 obtain ⟨_,A,s⟩:=h
 exact ⟨_,Zqe rfl A,fun C H σ δ fp ex K' Q R h kk=>s C H σ δ fp ex _ _ R h fun H1 v r δ1 fp1 new r1 h1=>by
  have q:=r1.da R
  generalize r.data = d at q h1
  cases q with
  | lst l e qs =>
   refine ⟨_,rfl,⟨_,.inl e⟩,kk _ H1 _ δ1 fp1 r1.base r1.stp (fun H' kp i=>?_) h1⟩
   obtain ⟨f1,f2⟩:=r1.base.kept kp
   have e':=(f1 _ (.lst _) l e).2
   have qs':=qs.frame f1 f2
   refine ⟨fun d hd=>?_,fun hd=>?_⟩
   ·obtain ⟨x,hx,qx⟩:=qs'.get hd
    refine ⟨⟨_,x,.inl e',hx⟩,fun y H'' hy=>?_⟩
    obtain ⟨rfl,hy⟩:=hy
    have:=hy _ (.inl e')
    rw [hx] at this
    cases this
    exact ⟨Same.refl _,qx⟩
   ·exact ⟨_,.inl e',by rw [qs'.length]; exact List.getElem?_eq_none_iff.mp hd⟩
  | scr ks =>
   refine ⟨_,rfl,⟨_,ks.sq⟩,kk _ H1 _ δ1 fp1 r1.base r1.stp (fun H' kp i=>?_) h1⟩
   refine ⟨fun d hd=>?_,fun hd=>?_⟩
   ·obtain ⟨x,hx,qx⟩:=(Das.ints (G:=X.K) (H:=H') (L:=fun a=>c = true→(Lf C fp1 ex a∧H1 a ≠ none)) _).get hd
    refine ⟨⟨_,x,ks.sq,hx⟩,fun y H'' hy=>?_⟩
    obtain ⟨rfl,hy⟩:=hy
    have:=hy _ ks.sq
    rw [hx] at this
    cases this
    exact ⟨Same.refl _,qx⟩
   ·refine ⟨_,ks.sq,?_⟩
    have:=List.getElem?_eq_none_iff.mp hd
    simpa using this
  | _=>exact h1.elim⟩
theorem Z2n (h:ME X io p c e m):MI X io p c tg e (iT m):=by
 obtain ⟨_,A,s⟩:=h
 exact ⟨_,Zt8 rfl A,fun C H σ δ fp ex K' Q R h kk=>s C H σ δ fp ex _ _ R h fun H1 v r δ1 fp1 new r1 h1=>by
  have q:=r1.da R
  generalize r.data = d at q h1
  cases q with
  | tup e qs =>
   refine ⟨_,rfl,⟨_,.inl (.inl e)⟩,kk _ H1 _ δ1 fp1 r1.base r1.stp (fun H' kp i=>?_) h1⟩
   obtain ⟨f1,f2⟩:=r1.base.kept kp
   have e':=f2 _ (.tup _) e
   have qs':=qs.frame f1 f2
   refine ⟨fun d hd=>?_,fun hd=>?_⟩
   ·obtain ⟨x,hx,qx⟩:=qs'.get hd
    refine ⟨⟨_,x,.inl (.inl e'),hx⟩,fun y H'' hy=>?_⟩
    obtain ⟨rfl,hy⟩:=hy
    have:=hy _ (.inl (.inl e'))
    rw [hx] at this
    cases this
    exact ⟨Same.refl _,qx⟩
   ·exact ⟨_,.inl (.inl e'),by rw [qs'.length]; exact List.getElem?_eq_none_iff.mp hd⟩
  | _=>exact h1.elim⟩
noncomputable def Zcw (lo:Int) (n:Nat):List PyData:=(List.range n).map fun (i:Nat)=>PyData.int (lo + (i:Int))
@[simp] theorem Jv (lo:Int) (n:Nat):(Zcw lo n).length = n:=by simp [Zcw]
theorem Zap {lo:Int} {n i:Nat} {d:PyData} (h:(Zcw lo n)[i]? = some d):i < n∧d = .int (lo + i):=by
 have hi:i < n:=by
  have:=(List.getElem?_eq_some_iff.mp h).1
  simpa using this
 unfold Zcw at h
 rw [List.getElem?_map,List.getElem?_range hi] at h
 cases h
 exact ⟨hi,rfl⟩
theorem Zk1 {C:MC G} {fp:Fp} {ex:Addr→Prop} {H1:Hp} {lo:Int} {n:Nat}:IterOk C fp ex H1 true (Itr lo n) (Zcw lo n):=fun H' _ i=>by
 refine ⟨fun d hd=>?_,fun hd=>?_⟩
 ·obtain ⟨hi,rfl⟩:=Zap hd
  refine ⟨hi,fun x H'' hy=>?_⟩
  obtain ⟨rfl,rfl⟩:=hy
  exact ⟨Same.refl _,.int _⟩
 ·have:=List.getElem?_eq_none_iff.mp hd
  show n ≤ i
  simpa using this
noncomputable def iR1 (mr:MAt):MIt:=fun δ K=>mr δ fun rs δ'=>match OT.datas rs with | [.int j]=>(-(2 ^ 62) ≤ j∧j < 2 ^ 62)∧K (Zcw 0 j.toNat) δ' | _=>False
noncomputable def iR2 (mr:MAt):MIt:=fun δ K=>mr δ fun rs δ'=>match OT.datas rs with | [.int i,.int j]=>(-(2 ^ 62) ≤ i∧i < 2 ^ 62∧-(2 ^ 62) ≤ j∧j < 2 ^ 62)∧K (Zcw i (j - i).toNat) δ' | _=>False
theorem Yj {p' pos:Pos} (hg:Gl X "range") (hm:X.mg "range" = none) (ha:MA X io p c [a] mr) (hs:starEach [a] X.env = [(false,eval a X.env)]:=by rfl):MI X io p true tg (.Call (.Name "range" p') [a] [] pos) (iR1 mr):=by
 obtain ⟨_,A,s⟩:=ha
 exact ⟨_,Znk hg hm A hs,fun C H σ δ fp ex K' Q R h kk=>s C H σ δ fp ex _ _ R h fun H1 vs rs δ1 fp1 new r1 h1=>by
  have q:=r1.das R
  generalize OT.datas rs = d at q h1
  split at h1
  case h_2=>exact h1.elim
  cases q with
  | cons q1 q2 =>
   cases q1
   cases q2
   exact ⟨_,rfl,h1.1.1,h1.1.2,kk _ H1 _ δ1 fp1 r1.base r1.stp Zk1 h1.2⟩⟩
theorem Ze6 {p' pos:Pos} (hg:Gl X "range") (hm:X.mg "range" = none) (ha:MA X io p c [a,b] mr) (hs:starEach [a,b] X.env = [(false,eval a X.env),(false,eval b X.env)]:=by rfl) (hs2:starEach [b] X.env = [(false,eval b X.env)]:=by rfl):MI X io p true tg (.Call (.Name "range" p') [a,b] [] pos) (iR2 mr):=by
 obtain ⟨_,A,s⟩:=ha
 exact ⟨_,Znp hg hm A hs hs2,fun C H σ δ fp ex K' Q R h kk=>s C H σ δ fp ex _ _ R h fun H1 vs rs δ1 fp1 new r1 h1=>by
  have q:=r1.das R
  generalize OT.datas rs = d at q h1
  split at h1
  case h_2=>exact h1.elim
  cases q with
  | cons q1 q2 =>
   cases q1
   cases q2 with
   | cons q2 q3 =>
    cases q2
    cases q3
    exact ⟨_,_,rfl,h1.1,kk _ H1 _ δ1 fp1 r1.base r1.stp Zk1 h1.2⟩⟩
theorem IterOk.at {C:MC G} {fp fp':Fp} {ex:Addr→Prop} {H1 H' H'':Hp} {J:It} {ds:List PyData} {x:V} {d:PyData} (g:∀ a,Foot fp' a→Foot fp a∨H1 a = none) (h:Da G H'' (fun a=>true = true→(Lf C fp ex a∧H1 a ≠ none)) x d):Da G H'' (fun a=>true = true→Lf C fp' ex a) x d :=
 h.wide fun a l _ z=>⟨fun w=>(g a w).elim (l z).1.1 (l z).2,(l z).1.2.1,(l z).1.2.2⟩
noncomputable def Z44 (ds:List PyData) (g:MGt) (u:MSt) (D:Zcz) (δ1:Zc):Prop:=∃ I:Nat→Zc→Prop,I 0 δ1∧(∀ (i:Nat) (d:PyData) (δ':Zc),ds[i]? = some d→I i δ'→g d δ' fun δ2=>u { D with nx:=I (i + 1),ct:=I (i + 1),bk:=D.nx } δ2)∧∀ δ',I ds.length δ'→D.nx δ'
noncomputable def Zzg (mi:MIt) (g:MGt) (u:MSt):MSt:=fun D δ=>mi δ fun ds δ1=>Z44 ds g u D δ1
theorem Rel.mk0 {C:MC G} {H H':Hp} {σ:St} {δ:Zc} {fp:Fp} {ex:Addr→Prop} (R:Rel C io H σ δ fp ex) (s:Same H H'):Rel C io H' σ δ fp ex:=(R.made (new:=[]) s fun a m=>nomatch m).drop fun a z=>.inl z
theorem Z2c {iter:Expr} {body:List Stmt} {mi:MIt} {g:MGt} {u:MSt} {pos:Pos} (hp:PassesOwn (model X.prog X.w) X.A X.env X.xe) (hc:X.calm = true) (hi:MI X io p true tg iter mi) (hg:MG X io true tg g) (hb:MSs X io body u)
  (hs:∀ x,foldedSetIterable iter X.env x = pure x:=by intro _; rfl):MS X io (.For tg iter body [] pos) (Zzg mi g u):=by
 obtain ⟨_,A,s⟩:=hi
 obtain ⟨_,G,sg⟩:=hg
 obtain ⟨_,B,sb⟩:=hb
 refine ⟨_,Zsf hp hc A G B hs,fun C H σ δ fp ex D D' R h E=>s C H σ δ fp ex _ _ R h fun J H1 ds δ1 fp1 R1 S1 it h1=>?_⟩
 obtain ⟨I,h0,turn,fin⟩:=h1
 refine ⟨fun i n σ' H'=>n = ds.length - i∧i ≤ ds.length∧∃ δ' fp',Rel C io H' σ' δ' fp' ex∧Kp H1 fp1 H' fp'∧I i δ',⟨ds.length,rfl,Nat.zero_le _,δ1,fp1,R1,.refl _ _,h0⟩,?_⟩
 rintro i n σ2 H2 ⟨rfl,hle,δ2,fp2,R2,k2,i2⟩
 have itk:=it H2 (fun b o e q=>k2.keep b o e (.inr (q.resolve_left (by decide)))) i
 by_cases hlt:i < ds.length
 ·have hd:ds[i]? = some ds[i]:=List.getElem?_eq_getElem hlt
  obtain ⟨go,yl⟩:=itk.1 _ hd
  refine .inr ⟨go,fun σ' H'=>∃ δ' fp',Rel C io H' σ' δ' fp' ex∧Kp H1 fp1 H' fp'∧I (i + 1) δ',fun σ' H' ⟨δ',fp',R',k',i'⟩=>⟨ds.length - (i + 1),by omega,rfl,hlt,δ',fp',R',k',i'⟩,fun x H3 hy=>?_⟩
  obtain ⟨s3,q3⟩:=yl x H3 hy
  have R3:=R2.mk0 s3
  have k3:Kp H1 fp1 H3 fp2:=k2.trans ⟨fun b o e _=>s3 _ _ e,fun z=>(nomatch z),fun a z=>.inl z,s3.al⟩
  refine sg C H3 σ2 δ2 fp2 ex x _ _ _ R3 (IterOk.at (H':=H2) (J:=J) (ds:=ds) k2.grow q3) (turn i _ δ2 hd i2) fun σ4 δ4 fp4 R4 k4 h4=>?_
  have k5:=k3.trans k4
  refine sb C H3 σ4 δ4 fp4 ex _ _ R4 h4 ⟨fun H' σ' δ' fp' R' k' n'=>⟨δ',fp',R',k5.trans k',n'⟩,fun H' σ' δ' fp' R' k' n'=>E.nx H' σ' δ' fp' R' (S1.kp.trans (k5.trans k')) n',fun H' σ' δ' fp' R' k' n'=>⟨δ',fp',R',k5.trans k',n'⟩,E.rt⟩
 ·have e:i = ds.length:=by omega
  subst e
  exact .inl ⟨itk.2 (by simp),E.nx H2 σ2 δ2 fp2 R2 (S1.kp.trans k2) (fin δ2 i2)⟩
end
noncomputable def gM (G:PySem.W.Frag) (io:List Nat) (c:Bool) (g:MGt):TG:=fun v σ H Q=>∃ (C:MC G) (δ:Zc) (fp:Fp) (ex:Addr→Prop) (d:PyData) (k:Zc→Prop),Rel C io H σ δ fp ex∧Da G H (fun a=>c = true→Lf C fp ex a) v d∧g d δ k ∧
 ∀ σ' δ' fp',Rel C io H σ' δ' fp' ex→Kp H fp H fp'→k δ'→Q σ' H
noncomputable def tM (G:PySem.W.Frag) (io:List Nat) (p c:Bool) (m:MEt):TE:=fun σ H Q=>∃ (C:MC G) (δ:Zc) (fp:Fp) (ex:Addr→Prop) (K:OT→Zc→Prop),Rel C io H σ δ fp ex∧m δ K∧∀ H' v r δ' fp' new,RE C io p c H σ δ fp ex H' v r δ' fp' new→K r δ'→Q v H'
noncomputable def ttM (G:PySem.W.Frag) (io:List Nat) (p:Bool) (m:MTt):TT:=fun σ H Q=>∃ (C:MC G) (δ:Zc) (fp:Fp) (ex:Addr→Prop) (K:Bool→Zc→Prop),Rel C io H σ δ fp ex∧m δ K∧∀ H' b δ' fp',Rel C io H' σ δ' fp' ex→Stp p H δ fp H' δ' fp'→K b δ'→Q b H'
noncomputable def MIfs (X:Cx) (io:List Nat) (p:Bool) (ifs:List Expr) (m:MTt):Prop:=∃ t,Zuc X ifs t∧STt X.K io p t m
section
variable {X:Cx} {io:List Nat} {p c:Bool} {e tg:Expr} {m:MEt} {mt:MTt} {g:MGt} {ifs:List Expr}
theorem MG.canon (h:MG X io c tg g):PG X tg (gM X.K io c g):=by
 obtain ⟨t,A,s⟩:=h
 rintro pins sh σ H v u Q I r ⟨C,δ,fp,ex,d,k,R,q,h,kk⟩
 exact A pins sh σ H v u Q I r (s C H σ δ fp ex v d k Q R q h kk)
theorem ME.canon (h:ME X io p c e m):PE X e (tM X.K io p c m):=by
 obtain ⟨t,A,s⟩:=h
 rintro pins sh σ H Q I ⟨C,δ,fp,ex,K,R,h,kk⟩
 exact A pins sh σ H Q I (s C H σ δ fp ex K Q R h kk)
theorem MIfs.canon (h:MIfs X io p ifs mt):Zuc X ifs (ttM X.K io p mt):=by
 obtain ⟨t,A,s⟩:=h
 rintro pins sh σ H Q I ⟨C,δ,fp,ex,K,R,h,kk⟩
 exact A pins sh σ H Q I (s C H σ δ fp ex K Q R h kk)
noncomputable def Zzq:MTt:=fun δ K=>K true δ
theorem Zc5:MIfs X io true [] Zzq:=⟨_,Zw4,fun C H σ δ fp ex K Q R h kk=>kk H true δ fp R (.refl _ _ _ _) h⟩
theorem Zc1 {cnd:Expr} (h:MT X io p cnd mt):MIfs X io p [cnd] mt:=by
 obtain ⟨_,A,s⟩:=h
 exact ⟨_,Ztx A,s⟩
end
end L2
namespace L2
open PySem PySem.Spec PyProof.Rows
variable {G:PySem.W.Frag}
noncomputable def blk (n:Nat) (caps:List Nat) (δ:Zc):Zc:=List.replicate n none ++ caps.map fun i=>(δ[i]?).getD none
noncomputable def Wz (n:Nat) (caps:List Nat) (fp:Fp):Fp:=fun k=>if k < n then [] else match caps[k - n]? with | some i=>fp i | none=>[]
noncomputable def Zbc (n:Nat) (caps:List Nat):List Nat:=(List.range caps.length).map (· + n)
noncomputable def Zs8 (C:MC G) (H1:Hp) (fp:Fp) (σ0:St):MC G:=⟨H1,Foot fp,fun a=>(C.L a∨C.H₀ a = none)∧¬ Foot fp a,σ0⟩
noncomputable def Zdz (ex:Addr→Prop) (D:Addr) (fp fpb:Fp) (a:Addr):Prop:=ex a∨a = D∨(Foot fp a∧¬ Foot fpb a)
section
variable {C:MC G} {io:List Nat} {H1 H':Hp} {σ:St} {δ:Zc} {fp:Fp} {ex:Addr→Prop} {own:List Str} {caps:List Nat} {D:Addr} {n:Nat}
theorem Zbo {k:Nat} {a:Addr} (h:a ∈ Wz n caps fp k):∃ i,n ≤ k∧caps[k - n]? = some i∧a ∈ fp i:=by
 unfold Wz at h
 split at h
 ·exact nomatch h
 ·split at h
  ·rename_i i e
   exact ⟨i,by omega,e,h⟩
  ·exact nomatch h
theorem Zqy {j i:Nat} (h:caps[j]? = some i):Wz n caps fp (n + j) = fp i:=by
 unfold Wz
 rw [if_neg (by omega),show n + j - n = j by omega,h]
theorem Z1c {k:Nat} {t:OT} (h:(blk n caps δ)[k]? = some (some t)):∃ i,n ≤ k∧caps[k - n]? = some i∧δ[i]? = some (some t):=by
 unfold blk at h
 rw [List.getElem?_append] at h
 split at h
 ·rw [List.getElem?_replicate] at h
  split at h <;> cases h
 ·rename_i hk
  rw [List.length_replicate] at hk h
  rw [List.getElem?_map] at h
  cases e:caps[k - n]? with
  | none=>rw [e] at h; cases h
  | some i =>
   rw [e] at h
   refine ⟨i,by omega,rfl,?_⟩
   simp only [Option.map_some] at h
   cases e2:δ[i]? with
   | none=>rw [e2] at h; cases h
   | some o =>
    rw [e2] at h
    simpa using h
theorem Rel.block (R:Rel C io H1 σ δ fp ex) (nd:caps.Nodup) (hD:H1 D = none) :
  Rel (Zs8 C H1 fp (Jo own caps σ)) (Zbc own.length caps) (upd H1 D (.lst [])) (Jo own caps σ) (blk own.length caps δ) (Wz own.length caps fp) (Zdz ex D fp (Wz own.length caps fp)):=by
 have s:=Z2 hD (.lst [])
 have sub:∀ a,Foot (Wz own.length caps fp) a→Foot fp a:=fun a q91=>by
  obtain ⟨k,z⟩:=q91
  obtain ⟨i,_,_,z⟩:=Zbo z
  exact ⟨i,z⟩
 have neD:∀ a,H1 a ≠ none→a ≠ D:=fun a h z=>h (z ▸ hD)
 refine ⟨by unfold Jo blk; simp,fun k t e=>?_,fun k h=>?_,fun k=>?_,fun k l a h1 h2=>?_,fun k a h z=>?_,fun a z=>?_,fun b o e _=>s _ _ e,fun b e=>s.free e,fun k a h=>?_,fun k _=>rfl⟩
 ·obtain ⟨i,hk,e1,e2⟩:=Z1c e
  obtain ⟨v,e3,o⟩:=R.own i t e2
  refine ⟨v,?_,?_⟩
  ·unfold Jo
   rw [List.getElem?_append_right (by simpa using hk),List.length_map,List.getElem?_map,e1]
   simp [e3]
  ·have ef:Wz own.length caps fp k = fp i:=by
    have:=Zqy (n:=own.length) (fp:=fp) e1
    rwa [show own.length + (k - own.length) = k by omega] at this
   rw [ef]
   refine (o.wide fun a l q=>⟨fun z=>l.1 (sub a z),fun z=>?_,.inl ⟨l.2.2,l.1⟩⟩).same s
   rcases z with z | z | z
   ·exact l.2.1 z
   ·exact neD a q z
   ·exact l.1 z.1
 ·unfold Wz
  split
  ·rfl
  ·split
   ·rename_i i e1
    refine R.emp i fun t z=>h t ?_
    unfold blk
    rw [List.getElem?_append_right (by rw [List.length_replicate]; omega),List.length_replicate,List.getElem?_map,e1]
    simp [z]
   ·rfl
 ·unfold Wz
  split
  ·exact .nil
  ·split
   ·exact R.nd _
   ·exact .nil
 ·obtain ⟨i,hk,e1,m1⟩:=Zbo h1
  obtain ⟨j,hl,e2,m2⟩:=Zbo h2
  have:=R.dj i j a m1 m2
  subst this
  have hlt:=(List.getElem?_eq_some_iff.mp e1).1
  have:=(List.getElem?_inj hlt nd).mp (e1.trans e2.symm)
  omega
 ·obtain ⟨i,hk,e1,m⟩:=Zbo h
  rcases z with z | z | z
  ·exact R.dx i a m z
  ·exact R.footSome (z ▸ hD) ⟨i,m⟩
  ·exact z.2 ⟨k,h⟩
 ·rcases z with z | z | z
  ·intro q; exact R.xa a z (s.free q)
  ·subst z; rw [Zm]; intro q; cases q
  ·obtain ⟨xs,e⟩:=R.foot z.1
   rw [s _ _ e]; intro q; cases q
 ·obtain ⟨i,hk,e1,m⟩:=Zbo h
  refine .inl ⟨?_,⟨i,m⟩⟩
  have:=(List.getElem?_eq_some_iff.mp e1).1
  exact List.mem_map.mpr ⟨k - own.length,by simpa using this,by omega⟩
theorem Z2k {σ0:St} {fp':Fp} {ex':Addr→Prop} {a:Addr} (hx:∀ a,ex a→ex' a) (l:Lf (Zs8 C H1 fp σ0) fp' ex' a):Lf C fp ex a∨H1 a = none:=by
 obtain ⟨l1,l2,l3⟩:=l
 rcases l3 with l3 | l3
 ·exact .inl ⟨l3.2,fun z=>l2 (hx a z),l3.1⟩
 ·exact .inr l3
theorem Rel.poke (R:Rel C io H' σ δ fp ex) {xs ys:List V} (hx:ex D) (hD:H' D = some (.lst xs)) (h0:C.H₀ D = none):Rel C io (upd H' D (.lst ys)) σ δ fp ex:=by
 have nf:¬ Foot fp D:=fun ⟨i,z⟩=>R.dx i D z hx
 have kp:∀ b o,b ≠ D→H' b = some o→upd H' D (.lst ys) b = some o:=fun b o n e=>by rw [Zj n]; exact e
 refine ⟨R.len,fun i t e=>?_,R.emp,R.nd,R.dj,R.dx,fun a z=>?_,fun b o e n=>?_,fun b e=>?_,R.new,R.io⟩
 ·obtain ⟨v,e1,o⟩:=R.own i t e
  refine ⟨v,e1,o.frame (fun a zs l q=>⟨l,?_⟩) (fun a zs q=>kp a _ (fun z=>?_) q) fun a m zs q=>kp a _ (fun z=>nf ⟨i,z ▸ m⟩) q⟩
  ·have na:a ≠ D:=fun z=>l.2.1 (z ▸ hx)
   rcases q with q | ⟨u,q⟩
   ·exact .inl (kp a _ na q)
   ·exact .inr ⟨u,kp a _ na q⟩
  ·exact ImO.nl q (z ▸ hD)
 ·by_cases e:a = D
  ·subst e; rw [Zm]; intro q; cases q
  ·rw [Zj e]; exact R.xa a z
 ·refine kp b o (fun z=>?_) (R.fr b o e n)
  rw [z,h0] at e; cases e
 ·refine R.al b ?_
  by_cases q:b = D
  ·subst q; rw [Zm] at e; cases e
  ·rwa [Zj q] at e
theorem Owns.poke {L:Addr→Prop} {xs ys zs:List V} {rs:List OT} {as:List Addr} (o:Owns G H' L zs rs as) (hD:H' D = Option.some (HO.lst xs)) (hL:¬ L D) (hn:D ∉ as):Owns G (upd H' D (.lst ys)) L zs rs as:=by
 refine o.frame (fun a zs l q=>⟨l,?_⟩) (fun a zs q=>?_) fun a m zs q=>?_
 ·have na:a ≠ D:=fun z=>hL (z ▸ l)
  rcases q with q | ⟨u,q⟩
  ·exact .inl (by rw [Zj na]; exact q)
  ·exact .inr ⟨u,by rw [Zj na]; exact q⟩
 ·rw [Zj (fun z=>ImO.nl q (z ▸ hD))]; exact q
 ·have na:a ≠ D:=fun z=>hn (by rw [← z]; exact m)
  rw [Zj na]; exact q
theorem Owns.snoc {L:Addr→Prop} {xs:List V} {rs:List OT} {as bs:List Addr} {x:V} {r:OT} (h:Owns G H' L xs rs as) (k:Own G H' L x r bs):Owns G H' L (xs ++ [x]) (rs ++ [r]) (as ++ bs) :=
 Owns.rec (motive_1:=fun _ _ _ _=>True) (motive_2:=fun xs rs as _=>Owns G H' L (xs ++ [x]) (rs ++ [r]) (as ++ bs)) (fun _=>trivial) (fun _ _ _=>trivial) (fun _ _ _=>trivial) (fun _ _ _=>trivial) (by have:=Owns.cons k .nil; rwa [List.append_nil] at this) (fun k _ _ ih=>by rw [List.append_assoc]; exact .cons k ih) h
end
structure Zto (C:MC G) (H1:Hp) (fp1:Fp) (ex:Addr→Prop) (n:Nat) (caps:List Nat) (σ0:St) (D:Addr) (pb:Bool) (H':Hp) (σ':St) (δ':Zc) (fp':Fp) (ys:List V) (rs:List OT) (new:List Addr):Prop where
 keep:∀ b o,H1 b = some o→(pb = true∨¬ Foot (Wz n caps fp1) b)→H' b = some o
 al:∀ b,H' b = none→H1 b = none
 dat:H' D = some (.lst ys)
 rel:Rel (Zs8 C H1 fp1 σ0) (Zbc n caps) H' σ' δ' fp' (exu (Zdz ex D fp1 (Wz n caps fp1)) new)
 grow:∀ a,Foot fp' a→Foot (Wz n caps fp1) a∨H1 a = none
 own:Owns G H' (fun a=>true = true→Lf (Zs8 C H1 fp1 σ0) fp' (exu (Zdz ex D fp1 (Wz n caps fp1)) new) a) ys rs new
 nd:new.Nodup
 fresh:∀ a ∈ new,H1 a = none∧a ≠ D
section
variable {io:List Nat} {p c pt pe ci:Bool} {g:MGt} {mt:MTt} {me:MEt} {own:List Str} {caps:List Nat}
theorem Zpv {C:MC G} {H1:Hp} {σ:St} {δ1:Zc} {fp1:Fp} {ex:Addr→Prop} {J:It} {ds:List PyData} {D:Addr} {Qf:Hp→Prop} (I:Nat→List OT→Zc→Prop) (R1:Rel C io H1 σ δ1 fp1 ex)
  (it:∀ H':Hp,(∀ b o,H1 b = some o→((pt && pe) = true∨¬ Foot (Wz own.length caps fp1) b)→H' b = some o)→∀ i:Nat,(∀ d,ds[i]? = some d→J.go i H'∧∀ x H'',J.yld i H' x H''→Same H' H''∧Da G H'' (fun a=>ci = true→(Lf C fp1 ex a∧H1 a ≠ none)) x d)∧(ds[i]? = none→J.stop i H'))
  (nd:caps.Nodup) (hD:H1 D = none) (hz:ds.length ≤ sizeLine) (h0:I 0 [] (blk own.length caps δ1))
  (turn:∀ (i:Nat) (d:PyData) (rs:List OT) (δ':Zc),ds[i]? = some d→I i rs δ'→g d δ' fun δ2=>mt δ2 fun b δ3=>if b = true then me δ3 fun r δ4=>I (i + 1) (rs ++ [r]) δ4 else I (i + 1) rs δ3)
  (fin:∀ H' σ' δ' fp' ys rs new,Zto C H1 fp1 ex own.length caps (Jo own caps σ) D (pt && pe) H' σ' δ' fp' ys rs new→I ds.length rs δ'→Qf H') :
  Zuu J (gM G (Zbc own.length caps) ci g) (ttM G (Zbc own.length caps) pt mt) (tM G (Zbc own.length caps) pe true me) (Jo own caps σ) D Qf H1:=by
 have hx:Zdz ex D fp1 (Wz own.length caps fp1) D:=.inr (.inl rfl)
 refine ⟨fun i n σ' H'=>n = ds.length - i∧i ≤ ds.length∧∃ rs ys new δ' fp',Zto C H1 fp1 ex own.length caps (Jo own caps σ) D (pt && pe) H' σ' δ' fp' ys rs new∧ys.length ≤ i∧I i rs δ',⟨ds.length,rfl,Nat.zero_le _,[],[],[],_,_,⟨fun b o e _=>Z2 hD _ _ _ e,(Z2 hD _).al,Zm,?_,fun a z=>.inl z,.nil,.nil,fun a m=>(nomatch m)⟩,Nat.le_refl _,h0⟩,?_⟩
 ·exact (R1.block nd hD).drop fun a z=>Zae.mp z
 rintro i n σ2 H2 ⟨rfl,hle,rs,ys,new,δ2,fp2,B,hl,i2⟩
 have subB:∀ b,Foot (Wz own.length caps fp1) b→Foot fp1 b:=fun b q92=>by
  obtain ⟨k,z⟩:=q92
  obtain ⟨i,_,_,z⟩:=Zbo z
  exact ⟨i,z⟩
 have itk:=it H2 B.keep i
 by_cases hlt:i < ds.length
 case neg =>
  have e:i = ds.length:=by omega
  subst e
  exact .inl ⟨itk.2 (by simp),fin H2 σ2 δ2 fp2 ys rs new B i2⟩
 have hd:ds[i]? = some ds[i]:=List.getElem?_eq_getElem hlt
 obtain ⟨go,yl⟩:=itk.1 _ hd
 refine .inr ⟨go,fun x H3 hy=>?_⟩
 obtain ⟨s3,q3⟩:=yl x H3 hy
 have R3:=B.rel.mk0 s3
 have D3:H3 D = some (.lst ys):=s3 _ _ B.dat
 -- the item,clean in the block
 have q3':Da G H3 (fun a=>ci = true→Lf (Zs8 C H1 fp1 (Jo own caps σ)) fp2 (exu (Zdz ex D fp1 (Wz own.length caps fp1)) new) a) x ds[i]:=by
  refine q3.wide fun a l _ z=>?_
  obtain ⟨⟨l1,l2,l3⟩,l4⟩:=l z
  refine ⟨fun w=>?_,fun w=>?_,.inl ⟨l3,l1⟩⟩
  ·rcases B.grow a w with w | w
   ·exact l1 (subB a w)
   ·exact l4 w
  ·rcases w with (w | w | w) | w
   ·exact l2 w
   ·subst w; exact l4 hD
   ·exact l1 w.1
   ·exact l4 (B.fresh a w).1
 refine ⟨_,δ2,fp2,_,_,_,R3,q3',turn i _ rs δ2 hd i2,fun σ4 δ4 fp4 R4 k4 h4=>?_⟩
 refine ⟨_,δ4,fp4,_,_,R4,h4,fun H5 b δ5 fp5 R5 S5 h5=>?_⟩
 -- the state behind the test
 have keep5:∀ b o,H1 b = some o→((pt && pe) = true∨¬ Foot (Wz own.length caps fp1) b)→H5 b = some o:=fun b o e q=>by
  refine S5.keep b o (s3 _ _ (B.keep b o e q)) ?_
  rcases q with q | q
  ·rw [Bool.and_eq_true] at q; exact .inl q.1
  ·refine .inr fun z=>?_
   rcases k4.grow b z with z | z
   ·rcases B.grow b z with z | z
    ·exact q z
    ·rw [e] at z; cases z
   ·rw [s3 _ _ (B.keep b o e (.inr q))] at z; cases z
 have al5:∀ b,H5 b = none→H1 b = none:=fun b e=>B.al b (s3.al b (S5.al b e))
 have grow4:∀ a,Foot fp4 a→Foot (Wz own.length caps fp1) a∨H1 a = none:=fun a z=>by
  rcases k4.grow a z with z | z
  ·exact B.grow a z
  ·exact .inr (B.al a (s3.al a z))
 have grow5:∀ a,Foot fp5 a→Foot (Wz own.length caps fp1) a∨H1 a = none:=fun a z=>by
  rcases S5.grow a z with z | z
  ·exact grow4 a z
  ·exact .inr (B.al a (s3.al a z))
 have D5:H5 D = some (.lst ys):=S5.keep D _ D3 (.inr fun ⟨k,z⟩=>R4.dx k D z (.inl hx))
 have own3:=B.own.same s3
 -- the items so far behind the target and the test
 have own4:Owns G H3 (fun a=>true = true→Lf (Zs8 C H1 fp1 (Jo own caps σ)) fp4 (exu (Zdz ex D fp1 (Wz own.length caps fp1)) new) a) ys rs new:=by
  refine own3.wide fun a l q z=>?_
  obtain ⟨l1,l2,l3⟩:=l z
  exact ⟨fun w=>(k4.grow a w).elim l1 q,l2,l3⟩
 have own5:=R4.owns_step (ex':=exu (Zdz ex D fp1 (Wz own.length caps fp1)) new) S5 (c:=true) (.inr rfl) (fun a z=>.inl z) (fun a m=>.inr m) own4
 dsimp only at h5 ⊢
 cases b with
 | false =>
  rw [if_neg Bool.false_ne_true] at h5 ⊢
  exact ⟨ds.length - (i + 1),by omega,rfl,hlt,rs,ys,new,δ5,fp5,⟨keep5,al5,D5,R5,grow5,own5,B.nd,B.fresh⟩,by omega,h5⟩
 | true =>
  rw [if_pos rfl] at h5 ⊢
  refine ⟨_,δ5,fp5,_,_,R5,h5,fun H6 v r δ6 fp6 nr r6 h6=>?_⟩
  have D6:H6 D = some (.lst ys):=r6.stp.keep D _ D5 (.inr fun ⟨k,z⟩=>R5.dx k D z (.inl hx))
  have hDnr:D ∉ nr:=fun z=>by
   have:=r6.fresh D z
   rw [D5] at this; cases this
  have own6:=R5.owns_step (ex':=exu (exu (Zdz ex D fp1 (Wz own.length caps fp1)) new) nr) r6.stp (c:=true) (.inr rfl) (fun a z=>z.imp id fun z=>r6.fresh a z) (fun a m=>.inr m) own5
  have eqx:∀ a,exu (Zdz ex D fp1 (Wz own.length caps fp1)) (new ++ nr) a→exu (exu (Zdz ex D fp1 (Wz own.length caps fp1)) new) nr a:=fun a z=>by
   rcases z with z | z
   ·exact .inl (.inl z)
   ·rcases List.mem_append.mp z with z | z
    ·exact .inl (.inr z)
    ·exact .inr z
  have lw:∀ a,(true = true→Lf (Zs8 C H1 fp1 (Jo own caps σ)) fp6 (exu (exu (Zdz ex D fp1 (Wz own.length caps fp1)) new) nr) a)→H6 a ≠ none→(true = true→Lf (Zs8 C H1 fp1 (Jo own caps σ)) fp6 (exu (Zdz ex D fp1 (Wz own.length caps fp1)) (new ++ nr)) a) :=
   fun a l _ z=>⟨(l z).1,fun w=>(l z).2.1 (eqx a w),(l z).2.2⟩
  have ownA:=(own6.snoc r6.own).wide lw
  refine ⟨ys,D6,by omega,ds.length - (i + 1),by omega,rfl,hlt,rs ++ [r],ys ++ [v],new ++ nr,δ6,fp6,⟨fun b o e q=>?_,fun b e=>?_,Zm,?_,fun a z=>?_,?_,?_,fun a m=>?_⟩,by rw [List.length_append]; show ys.length + 1 ≤ i + 1; omega,h6⟩
  ·have nD:b ≠ D:=fun z=>by rw [z,hD] at e; cases e
   rw [Zj nD]
   refine r6.stp.keep b o (keep5 b o e q) ?_
   rcases q with q | q
   ·rw [Bool.and_eq_true] at q; exact .inl q.2
   ·refine .inr fun z=>?_
    rcases grow5 b z with z | z
    ·exact q z
    ·rw [e] at z; cases z
  ·by_cases q:b = D
   ·subst q; rw [Zm] at e; cases e
   ·rw [Zj q] at e
    exact al5 b (r6.stp.al b e)
  ·exact (r6.rel.drop eqx).poke (.inl hx) D6 hD
  ·rcases r6.stp.grow a z with z | z
   ·exact grow5 a z
   ·exact .inr (al5 a z)
  ·exact ownA.poke D6 (fun z=>(z rfl).2.1 (.inl hx)) (fun m=>by
    rcases List.mem_append.mp m with m | m
    ·exact (B.fresh D m).2 rfl
    ·exact hDnr m)
  ·refine List.nodup_append.mpr ⟨B.nd,r6.nd,fun a m b m' z=>?_⟩
   subst z
   obtain ⟨xs,e⟩:=own5.some a m
   rw [r6.fresh a m'] at e; cases e
  ·rcases List.mem_append.mp m with m | m
   ·exact B.fresh a m
   ·exact ⟨al5 a (r6.fresh a m),fun z=>hDnr (z ▸ m)⟩
end
end L2
namespace L2
open PySem PySem.Spec PyProof.Rows
variable {G:PySem.W.Frag}
section
variable {X:Cx} {io:List Nat} {p p' c pt pe ci:Bool} {g:MGt} {mt:MTt} {me m:MEt} {mi:MIt} {own:List Str} {caps:List Nat} {e:Expr}
noncomputable def Zzr (n:Nat) (caps:List Nat) (ds:List PyData) (g:MGt) (mt:MTt) (me:MEt) (δ1:Zc) (K:OT→Zc→Prop):Prop:=ds.length ≤ sizeLine∧∃ I:Nat→List OT→Zc→Prop,I 0 [] (blk n caps δ1) ∧
 (∀ (i:Nat) (d:PyData) (rs:List OT) (δ':Zc),ds[i]? = some d→I i rs δ'→g d δ' fun δ2=>mt δ2 fun b δ3=>if b = true then me δ3 fun r δ4=>I (i + 1) (rs ++ [r]) δ4 else I (i + 1) rs δ3) ∧
 ∀ rs δ',I ds.length rs δ'→K (.nd rs) δ1
noncomputable def Zfm (n:Nat) (caps:List Nat) (mi:MIt) (g:MGt) (mt:MTt) (me:MEt):MEt:=fun δ K=>mi δ fun ds δ1=>Zzr n caps ds g mt me δ1 K
theorem Zvm {wi:TI} (si:SI G io p ci wi mi) (nd:caps.Nodup) (hp:(pt && pe) = true) :
  SE G io p true (Zxa own caps wi (gM G (Zbc own.length caps) ci g) (ttM G (Zbc own.length caps) pt mt) (tM G (Zbc own.length caps) pe true me)) (Zfm own.length caps mi g mt me):=by
 intro C H σ δ fp ex K Q R h k
 refine si C H σ δ fp ex _ _ R h fun J H1 ds δ1 fp1 R1 S1 it h1 D hD=>?_
 obtain ⟨hz,I,h0,turn,fin⟩:=h1
 refine Zpv I R1 (fun H' kp=>it H' fun b o e _=>kp b o e (.inl hp)) nd hD hz h0 turn fun H' σ' δ' fp' ys rs new B i'=>?_
 have s:Same H1 H':=fun b o e=>B.keep b o e (.inl hp)
 refine k H' (.ref D) (.nd rs) δ1 fp1 (D :: new) (RE.tree R R1 S1 s (fun a m=>?_) (List.nodup_cons.mpr ⟨fun m=>(B.fresh D m).2 rfl,B.nd⟩) (.nd B.dat (B.own.wide fun a l _=>?_))) (fin rs δ' i')
 ·rcases List.mem_cons.mp m with rfl | m
  ·exact hD
  ·exact (B.fresh a m).1
 ·refine ⟨?_,fun m=>?_⟩
  ·rcases Z2k (fun a z=>.inl (.inl z)) (l rfl) with z | z
   ·exact .inl fun _=>z
   ·exact .inr z
  ·rcases List.mem_cons.mp m with z | z
   ·exact (l rfl).2.1 (.inl (.inr (.inl z)))
   ·exact (l rfl).2.1 (.inr z)
variable {N':List Str} {sc:Scope} {tg elt iter:Expr} {ifs:List Expr} {pos:Pos}
theorem Zdp (S:CompScope X own caps N' sc) (hc:X.calm = true) (nd:caps.Nodup) (hi:MI X io p ci tg iter mi)
  (hg:∀ C cells s₂ H₂ fp,MG (Wc X N' sc C cells s₂ H₂ fp) (Zbc own.length caps) ci tg g) (ht:∀ C cells s₂ H₂ fp,MIfs (Wc X N' sc C cells s₂ H₂ fp) (Zbc own.length caps) pt ifs mt) (he:∀ C cells s₂ H₂ fp,ME (Wc X N' sc C cells s₂ H₂ fp) (Zbc own.length caps) pe true elt me)
  (hp:(pt && pe) = true:=by rfl) (hs:∀ x,foldedSetIterable iter X.env x = pure x:=by intro _; rfl):ME X io p true (.ListComp elt [⟨tg,iter,ifs,0⟩] sc pos) (Zfm own.length caps mi g mt me):=by
 obtain ⟨_,A,si⟩:=hi
 exact ⟨_,Zxk S hc A (fun C cells s₂ H₂ fp=>(hg C cells s₂ H₂ fp).canon) (fun C cells s₂ H₂ fp=>(ht C cells s₂ H₂ fp).canon) (fun C cells s₂ H₂ fp=>(he C cells s₂ H₂ fp).canon) hs,Zvm si nd hp⟩
section
variable {i:Nat} {y:Str} {py spos:Pos}
theorem Zbj (own':Bool) (hN:X.N.Nodup) (hy:X.N[i]? = some y) (hx:Loc X.env.scope y) (S:CompScope X own caps N' sc) (hc:X.calm = true) (nd:caps.Nodup) (hi:MI X io p ci tg iter mi)
  (hg:∀ C cells s₂ H₂ fp,MG (Wc X N' sc C cells s₂ H₂ fp) (Zbc own.length caps) ci tg g) (ht:∀ C cells s₂ H₂ fp,MIfs (Wc X N' sc C cells s₂ H₂ fp) (Zbc own.length caps) pt ifs mt) (he:∀ C cells s₂ H₂ fp,ME (Wc X N' sc C cells s₂ H₂ fp) (Zbc own.length caps) pe true elt me)
  (hp:(pt && pe) = true:=by rfl) (hio:i ∉ io:=by decide)
  (hsw:swapsWith (.ListComp elt [⟨tg,iter,ifs,0⟩] sc pos) (some (.Name y py)) spos.line X.env = pure true:=by rfl)
  (hs:∀ x,foldedSetIterable iter X.env x = pure x:=by intro _; rfl) (hf:X.fn y = true∨X.env.scope.names.lookup y = some .local:=by first | exact .inl rfl | exact .inr rfl | assumption) :
  MS X io (.Assign [.Name y py] (.ListComp elt [⟨tg,iter,ifs,0⟩] sc pos) spos) (if own' = true then Zl6 i (Zfm own.length caps mi g mt me) else Zxy i (Zfm own.length caps mi g mt me)):=by
 obtain ⟨_,A,si⟩:=hi
 refine ⟨_,Zlg (g:=gM X.K (Zbc own.length caps) ci g) (tt:=ttM X.K (Zbc own.length caps) pt mt) (te:=tM X.K (Zbc own.length caps) pe true me) hN hy hx S hc A (fun C cells s₂ H₂ fp=>(hg C cells s₂ H₂ fp).canon) (fun C cells s₂ H₂ fp=>(ht C cells s₂ H₂ fp).canon) (fun C cells s₂ H₂ fp=>(he C cells s₂ H₂ fp).canon) hsw hs hf,?_⟩
 cases own'
 ·exact Z8l (Zvm si nd hp) hio
 ·exact Zyq (Zvm si nd hp) hio
end
end
end L2
namespace L2
open PySem PySem.Spec PyProof.Rows
variable {G:PySem.W.Frag}
section
variable {X:Cx} {pins:List (Addr × Obj)} {σ:St} {H:Hp} {s:Shared} {l:Addr} {xs:List V}
noncomputable def Z1q (K:PySem.W.Frag):R2:=fun x y H Q=>∃ l b xs zs,x = .ref l∧y = .ref b∧SqL K H l xs∧SqL K H b zs∧xs.length + zs.length ≤ sizeLine∧∀ p,H p = none→Q (.ref p) (upd H p (.lst (xs ++ zs)))
theorem Inv.lstQ {K:PySem.W.Frag} (hK:X.K = K) (I:Inv X pins σ H s) (hH:SqL K H l xs):∃ (its:List Value) (n:Nat),Vals xs its∧xs.length = its.length∧∃ o,s.heap.get? l = some o∧o.cls = .type "list" ∧ o.dict = none∧o.data = .seq its.toArray n:=by
 subst hK
 obtain ⟨its,r,⟨o,n,e,h1,h2,h3⟩,_⟩:=I.list hH
 exact ⟨its,n,r,r.length,o,e,h1,h2,h3⟩
theorem Zne {K:PySem.W.Frag} (hK:X.K = K):OpR X (binaryOp .Add) (Z1q K):=by
 intro pins s σ H x y v u Q I rx ry h
 obtain ⟨l,b,xs,zs,rfl,rfl,hH,hB,hz,q⟩:=h
 cases rx
 cases ry
 obtain ⟨its,n,r,hl,⟨cls,dd,data,sl⟩,ho,hc,_,hd⟩:=I.lstQ hK hH
 obtain ⟨its2,n2,r2,hl2,⟨cls2,dd2,data2,sl2⟩,ho2,hc2,_,hd2⟩:=I.lstQ hK hB
 simp only at hc hd hc2 hd2
 subst hc hd hc2 hd2
 have ea:its.toArray ++ its2.toArray = (its ++ its2).toArray:=by simp
 refine concat_meets ⟨_,ho,rfl⟩ ⟨_,ho2,rfl⟩ noFill_list_add seq_list_add PySem.F.slot_list_add PySem.F.entry_list_add (PySem.F.args_list_add_2 _ _) (list_addW l b its.toArray its2.toArray n n2 dd dd2 sl sl2 (by simp only [List.size_toArray]; omega)) ⟨ho,ho2,?_⟩
 rw [ea]
 exact ⟨.ref _,_,I.lnew (t':=s.toks) (r.append r2) (by rw [List.length_append]; omega),rfl,q _ I.fresh⟩
end
noncomputable def asI (d:PyData) (k:Int→Prop):Prop:=match d with | .int i=>k i | _=>False
noncomputable def asL (d:PyData) (k:List PyData→Prop):Prop:=match d with | .list ds=>k ds | _=>False
section
variable {H:Hp} {L:Addr→Prop} {v:V} {d:PyData}
theorem Da.intInv {k:Int→Prop} (q:Da G H L v d) (h:asI d k):∃ i,v = .int i∧k i:=by
 cases q with
 | int b=>exact ⟨b,rfl,h⟩
 | _=>exact h.elim
theorem Da.lstInv {k:List PyData→Prop} (q:Da G H L v d) (h:asL d k):∃ a xs ds,v = .ref a∧SqL G H a xs∧Das G H L xs ds∧k ds:=by
 cases q with
 | lst l e r=>exact ⟨_,_,_,rfl,.inl e,r,h⟩
 | scr s=>exact ⟨_,_,_,rfl,s.sq,.ints _,h⟩
 | _=>exact h.elim
end
noncomputable def d2I (C:Int→Int→Prop) (g:Int→Int→PyData):PyData→PyData→(PyData→Prop)→Prop:=fun d e k=>asI d fun i=>asI e fun j=>C i j∧k (g i j)
noncomputable def Zsn (g:Int→Int→PyData):PyData→PyData→(PyData→Prop)→Prop:=fun d e k=>asI d fun i=>asI e fun j=>k (g i j)
theorem Z2l {C:Int→Int→Prop} {f:Int→Int→Int}:P2s G (rI C fun i j=>.int (f i j)) (d2I C fun i j=>.int (f i j)):=fun H L x y d e k Q hx hy h kk=>by
 obtain ⟨i,rfl,h⟩:=hx.intInv h
 obtain ⟨j,rfl,h⟩:=hy.intInv h
 exact ⟨i,j,rfl,rfl,h.1,kk _ _ (.int _) h.2⟩
structure MulOk (i j:Int):Prop where
 ok:IntMulOk i j
structure Z6v (i j:Int):Prop where
 ok:DivOk i j
structure Z7s (i j:Int):Prop where
 ok:Z3a i j
theorem Z20 {f:Int→Int→Int}:P2s G (rI IntMulOk fun i j=>.int (f i j)) (d2I MulOk fun i j=>.int (f i j)):=fun H L x y d e k Q hx hy h kk=>by
 obtain ⟨i,rfl,h⟩:=hx.intInv h
 obtain ⟨j,rfl,h⟩:=hy.intInv h
 exact ⟨i,j,rfl,rfl,h.1.ok,kk _ _ (.int _) h.2⟩
theorem Zy7 {f:Int→Int→Int}:P2s G (rI DivOk fun i j=>.int (f i j)) (d2I Z6v fun i j=>.int (f i j)):=fun H L x y d e k Q hx hy h kk=>by
 obtain ⟨i,rfl,h⟩:=hx.intInv h
 obtain ⟨j,rfl,h⟩:=hy.intInv h
 exact ⟨i,j,rfl,rfl,h.1.ok,kk _ _ (.int _) h.2⟩
theorem Z1h {f:Int→Int→Int}:P2s G (rI Z3a fun i j=>.int (f i j)) (d2I Z7s fun i j=>.int (f i j)):=fun H L x y d e k Q hx hy h kk=>by
 obtain ⟨i,rfl,h⟩:=hx.intInv h
 obtain ⟨j,rfl,h⟩:=hy.intInv h
 exact ⟨i,j,rfl,rfl,h.1.ok,kk _ _ (.int _) h.2⟩
theorem Zof {f:Int→Int→Int}:P2s G (rI0 fun i j=>.int (f i j)) (Zsn fun i j=>.int (f i j)):=fun H L x y d e k Q hx hy h kk=>by
 obtain ⟨i,rfl,h⟩:=hx.intInv h
 obtain ⟨j,rfl,h⟩:=hy.intInv h
 exact ⟨i,j,rfl,rfl,kk _ _ (.int _) h⟩
theorem Zny {f:Int→Int→Bool}:P2s G (rI0 fun i j=>.bl (f i j)) (Zsn fun i j=>.bool (f i j)):=fun H L x y d e k Q hx hy h kk=>by
 obtain ⟨i,rfl,h⟩:=hx.intInv h
 obtain ⟨j,rfl,h⟩:=hy.intInv h
 exact ⟨i,j,rfl,rfl,kk _ _ (.bl _) h⟩
section
variable {X:Cx}
noncomputable def Z61 (K:PySem.W.Frag):R2:=fun x y H Q=>∃ (L L':Addr→Prop) (d e:PyData),Da K H L x d∧Da K H L' y e∧Shp d∧Shp e∧Q (.bl (PyData.eqv d e)) H
noncomputable def Z8k (K:PySem.W.Frag):R2:=fun x y H Q=>∃ (L L':Addr→Prop) (d e:PyData),Da K H L x d∧Da K H L' y e∧Shp d∧Shp e∧Q (.bl (!PyData.eqv d e)) H
theorem Zgb (hu:X.A.units + 64 < cLine):OpR X (compareOp .Eq) (Z61 X.K):=by
 intro pins s σ H x y v u Q I rx ry h
 obtain ⟨L,L',d,e,h1,h2,s1,s2,q⟩:=h
 obtain ⟨as,k1⟩:=h1.reads rfl I rx (SeqAt.canLay_of_shaped s1)
 obtain ⟨bs,k2⟩:=h2.reads rfl I ry (SeqAt.canLay_of_shaped s2)
 exact eq_dataH k1 k2 s1 s2 hu ⟨.bl _,H,I,rfl,q⟩
theorem Zx2 (hu:X.A.units + 64 < cLine):OpR X (compareOp .NotEq) (Z8k X.K):=by
 intro pins s σ H x y v u Q I rx ry h
 obtain ⟨L,L',d,e,h1,h2,s1,s2,q⟩:=h
 obtain ⟨as,k1⟩:=h1.reads rfl I rx (SeqAt.canLay_of_shaped s1)
 obtain ⟨bs,k2⟩:=h2.reads rfl I ry (SeqAt.canLay_of_shaped s2)
 exact ne_dataH k1 k2 s1 s2 hu ⟨.bl _,H,I,rfl,q⟩
end
structure Zyx (d:PyData):Prop where
 ok:Shp d
noncomputable def dEq:PyData→PyData→(PyData→Prop)→Prop:=fun d e k=>Zyx d∧Zyx e∧k (.bool (PyData.eqv d e))
noncomputable def dNe:PyData→PyData→(PyData→Prop)→Prop:=fun d e k=>Zyx d∧Zyx e∧k (.bool (!PyData.eqv d e))
theorem Zle:P2s G (Z61 G) dEq:=fun H L x y d e k Q hx hy h kk=>⟨L,L,d,e,hx,hy,h.1.ok,h.2.1.ok,kk _ _ (.bl _) h.2.2⟩
theorem Z5d:P2s G (Z8k G) dNe:=fun H L x y d e k Q hx hy h kk=>⟨L,L,d,e,hx,hy,h.1.ok,h.2.1.ok,kk _ _ (.bl _) h.2.2⟩
noncomputable def Zgi:PyData→Bool
 | .none=>true
 | _=>false
noncomputable def scD:PyData→Bool
 | .none=>true
 | .bool _=>true
 | .int _=>true
 | .str _=>true
 | _=>false
noncomputable def eqS:PyData→PyData→Bool
 | .none,.none=>true
 | .bool a,.bool b=>a == b
 | .bool a,.int b=>(if a then 1 else 0) == b
 | .int a,.bool b=>a == (if b then 1 else 0)
 | .int a,.int b=>a == b
 | .str a,.str b=>a == b
 | _,_=>false
noncomputable def memS (d:PyData) (ds:List PyData):Bool:=ds.any fun e=>eqS e d
theorem Da.toSc {H:Hp} {L:Addr→Prop} {v:V} {d:PyData} (h:Da G H L v d) (s:scD d = true):ScD v d:=by
 cases h with
 | non=>exact .non
 | bl b=>exact .bl b
 | int i=>exact .int i
 | str x=>exact .str x
 | _=>cases s
theorem Da.sc {H:Hp} {L:Addr→Prop} {v:V} {d:PyData} (h:Da G H L v d) (s:scD d = true):Zer v = true:=by
 cases h.toSc s <;> rfl
theorem Das.sc {H:Hp} {L:Addr→Prop} {vs:List V} {ds:List PyData} (h:Das G H L vs ds):ds.all scD = true→vs.all Zer = true :=
 Das.ind (Q:=fun vs ds=>ds.all scD = true→vs.all Zer = true) (fun _=>rfl) (fun h _ r s=>by
  rw [List.all_cons,Bool.and_eq_true] at s
  rw [List.all_cons,h.sc s.1,r s.2]; rfl) h
theorem Da.eqS {H:Hp} {L:Addr→Prop} {v u:V} {d e:PyData} (h:Da G H L v d) (g:Da G H L u e) (s:scD d = true) (t:scD e = true):eqV v u = L2.eqS d e:=by
 cases h.toSc s <;> cases g.toSc t <;> rfl
theorem Das.memS {H:Hp} {L:Addr→Prop} {v:V} {d:PyData} (h:Da G H L v d) (s:scD d = true) {vs:List V} {ds:List PyData} (g:Das G H L vs ds):ds.all scD = true→inV v vs = L2.memS d ds :=
 Das.ind (Q:=fun vs ds=>ds.all scD = true→inV v vs = L2.memS d ds) (fun _=>rfl) (fun g _ r t=>by
  rw [List.all_cons,Bool.and_eq_true] at t
  have:=r t.2
  unfold inV L2.memS at *
  rw [List.any_cons,List.any_cons,this,g.eqS h t.1 s]) g
noncomputable def dIn (neg:Bool):PyData→PyData→(PyData→Prop)→Prop:=fun d e k=>scD d = true∧match e with
 | .list ds=>ds.all scD = true∧k (.bool (if neg then !memS d ds else memS d ds))
 | .tuple ds=>ds.all scD = true∧k (.bool (if neg then !memS d ds else memS d ds))
 | _=>False
theorem Zqk {neg:Bool}:P2s G (rIn G neg) (dIn neg):=fun H L x y d e k Q hx hy h kk=>by
 obtain ⟨s,h⟩:=h
 cases hy with
 | lst l e r=>exact ⟨_,_,rfl,.inl (.inl e),hx.sc s,r.sc h.1,by rw [Das.memS hx s r h.1]; exact kk _ _ (.bl _) h.2⟩
 | tup e r=>exact ⟨_,_,rfl,.inr (.inl (.inl e)),hx.sc s,r.sc h.1,by rw [Das.memS hx s r h.1]; exact kk _ _ (.bl _) h.2⟩
 | scr ks=>exact ⟨_,_,rfl,.inl ks.sq,hx.sc s,(Das.ints (G:=G) (H:=H) (L:=L) _).sc h.1,by rw [Das.memS hx s (Das.ints (G:=G) (H:=H) (L:=L) _) h.1]; exact kk _ _ (.bl _) h.2⟩
 | _=>exact h.elim
noncomputable def ixD (d e:PyData):Option PyData:=match d,e with
 | .list ds,.int i=>atI ds i
 | .tuple ds,.int i=>atI ds i
 | _,_=>none
noncomputable def dIx:PyData→PyData→(OT→Prop)→Prop:=fun d e k=>match ixD d e with | some x=>k (.fz x) | none=>False
theorem Das.atI {H:Hp} {L:Addr→Prop} {xs:List V} {ds:List PyData} {i:Int} {d:PyData} (h:Das G H L xs ds) (e:L2.atI ds i = some d):∃ x,L2.atI xs i = some x∧Da G H L x d:=by
 unfold L2.atI at *
 rw [h.length]
 cases q:ixN ds.length i with
 | none=>rw [q] at e; cases e
 | some j =>
  rw [q] at e
  exact h.get e
theorem Z5t:P2 G (rIx G) dIx:=fun H L x y d e k Q hx hy h kk=>by
 unfold dIx at h
 split at h
 case h_2=>exact h.elim
 rename_i z ez
 have fin:∀ v,Da G H L v z→Q v H:=fun v q=>kk H v (.fz z) [] (Same.refl _) (.fz (q.wide fun a l _=>⟨.inl l,fun m=>nomatch m⟩)) .nil (fun a m=>nomatch m) h
 cases hx with
 | lst l e1 r =>
  cases hy with
  | int i =>
   obtain ⟨v,e2,q⟩:=r.atI (show L2.atI _ i = some z from ez)
   exact .inl ⟨_,_,i,v,rfl,rfl,.inl e1,e2,fin v q⟩
  | _=>cases ez
 | tup e1 r =>
  cases hy with
  | int i =>
   obtain ⟨v,e2,q⟩:=r.atI (show L2.atI _ i = some z from ez)
   exact .inr (.inl ⟨_,_,i,v,rfl,rfl,.inl (.inl e1),e2,fin v q⟩)
  | _=>cases ez
 | scr ks =>
  cases hy with
  | int i =>
   obtain ⟨v,e2,q⟩:=(Das.ints (G:=G) (H:=H) (L:=L) _).atI (show L2.atI _ i = some z from ez)
   exact .inl ⟨_,_,i,v,rfl,rfl,ks.sq,e2,fin v q⟩
  | _=>cases ez
 | _=>cases ez
theorem Own.list {H:Hp} {L:Addr→Prop} {p:Addr} {xs:List V} {ds:List PyData} (hp:H p = none) (h:Das G H L xs ds):Own G (upd H p (.lst xs)) (fun a=>(L a∨H a = none)∧a ∉ [p]) (.ref p) (.nd (ds.map OT.fz)) [p] :=
 .nd Zm (((h.wide fun a l q=>⟨.inl l,fun m=>q (by rw [List.mem_singleton.mp m]; exact hp)⟩).same (Z2 hp _)).owns)
theorem Zb3 {H:Hp} {p:Addr} (hp:H p = none):∀ a ∈ [p],H a = none:=fun a m=>by rw [List.mem_singleton.mp m]; exact hp
theorem Zdv (p:Addr):[p].Nodup:=List.nodup_cons.mpr ⟨fun m=>(nomatch m),.nil⟩
noncomputable def dCat:PyData→PyData→(OT→Prop)→Prop:=fun d e k=>asL d fun ds=>asL e fun es=>ds.length + es.length ≤ sizeLine∧k (.nd ((ds ++ es).map OT.fz))
theorem Zsx:P2 G (Z1q G) dCat:=fun H L x y d e k Q hx hy h kk=>by
 obtain ⟨a,xs,ds,rfl,e1,r1,h⟩:=hx.lstInv h
 obtain ⟨b,ys,es,rfl,e2,r2,h⟩:=hy.lstInv h
 exact ⟨a,b,xs,ys,rfl,rfl,e1,e2,by rw [r1.length,r2.length]; exact h.1,fun p hp=>kk _ _ _ [p] (Z2 hp _) (Own.list hp (r1.append r2)) (Zdv p) (Zb3 hp) h.2⟩
noncomputable def n1 (k:PyData→Prop) (ds:List PyData):Prop:=match ds with | [d]=>k d | _=>False
noncomputable def n2 (k:PyData→PyData→Prop) (ds:List PyData):Prop:=match ds with | [d,e]=>k d e | _=>False
theorem Das.one {H:Hp} {L:Addr→Prop} {vs:List V} {ds:List PyData} {k:PyData→Prop} (q:Das G H L vs ds) (h:n1 k ds):∃ v d,vs = [v]∧ds = [d]∧Da G H L v d∧k d:=by
 cases q with
 | nil=>exact h.elim
 | cons q r =>
  cases r with
  | nil=>exact ⟨_,_,rfl,rfl,q,h⟩
  | cons _ _=>exact h.elim
noncomputable def Zsa:PyData→Option Nat
 | .list ds=>some ds.length
 | .tuple ds=>some ds.length
 | _=>none
noncomputable def Z6y:List PyData→(PyData→Prop)→Prop:=fun ds k=>n1 (fun d=>match Zsa d with | some n=>k (.int n) | none=>False) ds
theorem Zz2:PNs G (Z8y G) Z6y:=fun H L xs ds k Q hx h kk=>by
 obtain ⟨v,d,rfl,rfl,q,h⟩:=hx.one h
 cases q with
 | lst l e r=>exact ⟨_,_,rfl,.inl (.inl e),by rw [r.length]; exact kk _ _ (.int _) h⟩
 | tup e r=>exact ⟨_,_,rfl,.inr (.inl (.inl e)),by rw [r.length]; exact kk _ _ (.int _) h⟩
 | scr ks=>exact ⟨_,_,rfl,.inl ks.sq,by rw [(Das.ints (G:=G) (H:=H) (L:=L) _).length]; exact kk _ _ (.int _) h⟩
 | _=>exact h.elim
noncomputable def Zj0:PyData→Option (List PyData)
 | .list ds=>some ds
 | .tuple ds=>some ds
 | _=>none
noncomputable def Z0j:List PyData→(OT→Prop)→Prop:=fun ds k=>n1 (fun d=>match Zj0 d with | some es=>k (.nd (es.map OT.fz)) | none=>False) ds
theorem Zo1:PN G (Zok G) Z0j:=fun H L xs ds k Q hx h kk=>by
 obtain ⟨v,d,rfl,rfl,q,h⟩:=hx.one h
 cases q with
 | lst l e r=>exact ⟨_,_,rfl,.inl (.inl e),fun p hp=>kk _ _ _ [p] (Z2 hp _) (Own.list hp r) (Zdv p) (Zb3 hp) h⟩
 | tup e r=>exact ⟨_,_,rfl,.inr (.inl (.inl e)),fun p hp=>kk _ _ _ [p] (Z2 hp _) (Own.list hp r) (Zdv p) (Zb3 hp) h⟩
 | scr ks=>exact ⟨_,_,rfl,.inl ks.sq,fun p hp=>kk _ _ _ [p] (Z2 hp _) (Own.list hp (Das.ints _)) (Zdv p) (Zb3 hp) h⟩
 | _=>exact h.elim
section
variable {X:Cx} {io:List Nat} {p c:Bool} {a:Expr} {ma:MEt} {pos:Pos}
noncomputable def Z80 (m:MEt):MEt:=fun δ K=>m δ fun r δ'=>asI r.data fun i=>K (.fz (.int (-i))) δ'
theorem Z6d (ha:ME X io p c a ma):ME X io p true (.UnaryOp .USub a pos) (Z80 ma):=by
 obtain ⟨_,A,s⟩:=ha
 exact ⟨_,Z3t Zye A,fun C H σ δ fp ex K Q R h k=>s C H σ δ fp ex _ _ R h fun H' v r δ' fp' new r1 h1=>by
  obtain ⟨i,rfl,h1⟩:=(r1.da R).intInv h1
  exact ⟨i,rfl,k H' _ _ δ' fp' [] (.fz r1.base r1.stp (.int _)) h1⟩⟩
noncomputable def Zme (T:String):PyData→Bool
 | .none=>false
 | .bool _=>T == "bool" || T == "int"
 | .int _=>T == "int"
 | .str _=>T == "str"
 | .list _=>T == "list"
 | .tuple _=>T == "tuple"
 | .dict _=>false
noncomputable def Z7y (T:String) (m:MEt):MEt:=fun δ K=>m δ fun r δ'=>Zfe r.data = false∧K (.fz (.bool (Zme T r.data))) δ'
end
end L2
namespace L2
open PySem PySem.Spec PyProof.Rows
section
variable {prog:Program} {w:World} {A:Around} {E:Value→Shared→Prop} {h:Heap} {g:Array GenState} {d:Drawn} {t:Nat} {os:OsState} {a C:Addr} {o:Obj} {K:PySem.W.Frag}
theorem Zv2 (M:Model) (hx:h.get? a = some o) (hc:o.cls = .ref C):PySem.W.Looks M h (typeOf (.ref a)) (.ref C):=hc ▸ (PySem.W.Looks.ld hx).andThen .now
theorem Zqv {R:Result→Shared→Prop} (X:K.In h) (Z:Zcc K C) (hx:h.get? a = some o) (hc:o.cls = .ref C) (hq:R (.ok (.ret (.ref C))) ⟨h,g,d,t,os⟩) :
  codeAny (model prog w) A (.call (.builtin "getset_descriptor.__get__") ⟨[.builtin "object.__class__", .ref a,.ref C],[]⟩) R ⟨h,g,d,t,os⟩:=by
 have L1:PySem.W.Looks (model prog w) h (isSubtype (.ref C) (.type (".".intercalate ("object.__class__".cutAt '.').dropLast))) true:=by
  rw [F.owner_object_class]
  exact PySem.W.looks_subIn X Z.isO
 have T5:(⟨h,g,d,t,os⟩:Shared).TypeIs (.builtin "object.__class__") "getset_descriptor" := F.typeOf_object_class
 refine codeAny_call_builtin F.slot_gs_get.plain F.entry_gs_get (F.slot_gs_get.check _ _ _ _ _ _ _ _ T5 (F.args_gs_get _ _ _) ?_)
 repeat (any_goals (first | assumption | (with_reducible refine wpAny_loadPart_at hx ?_; rw [hc]) | (with_reducible refine wpAny_bind (PySem.W.Looks.at L1 ?_)) | (with_reducible refine PySem.W.Looks.at L1 ?_) | wp_step))
 refine ⟨Code.quiet_builtin _ (by decide +kernel),codeAny_builtin F.entry_object_class ?_⟩
 repeat (any_goals (first | assumption | (with_reducible refine wpAny_loadPart_at hx ?_; rw [hc]) | wp_step))
theorem Zln {tk:Tok} {Q:Fin→Shared→Prop} (X:K.In h) (Z:Zcc K C) (hx:h.get? a = some o) (hc:o.cls = .ref C) (hq:Q (.done (.ret (.ref C))) ⟨h,g,d,t,os⟩) :
  wpAny (model prog w) A (Builtin.«object.__getattribute__» ⟨[.ref a,.str "__class__" tk],[]⟩) Q E ⟨h,g,d,t,os⟩:=by
 have T5:(⟨h,g,d,t,os⟩:Shared).TypeIs (.builtin "object.__class__") "getset_descriptor" := F.typeOf_object_class
 have g5:=F.typeOf_object_class
 have g6:=F.slot_gs_get.lookup
 have g7:=F.slot_gs_set.lookup
 have L4:=PySem.W.looks_findIn (M:=model prog w) X Z.cl
 repeat (any_goals (first | assumption | (with_reducible refine wpAny_loadPart_at hx ?_; rw [hc]) | (with_reducible refine wpAny_bind (PySem.W.Looks.at L4 ?_)) | (with_reducible refine PySem.W.Looks.at L4 ?_) | wp_step))
 refine Zqv X Z hx hc ?_
 repeat (any_goals (first | assumption | wp_step))
theorem Zlo {M:Model} {nameV:Value} {Q:Unit→Shared→Prop} (X:K.In h) (Z:Zcc K C) (hx:h.get? a = some o) (hc:o.cls = .ref C) (hq:Q () ⟨h,g,d,t,os⟩) :
  wpAny M A (checkBuiltinCall "BaseException.__getattribute__" ⟨[.ref a,nameV],[]⟩) Q E ⟨h,g,d,t,os⟩:=by
 have e1:builtinKind "BaseException.__getattribute__" = some .slot:=by decide +kernel
 have e2:splitId "BaseException.__getattribute__" = some ("BaseException", "__getattribute__"):=by decide +kernel
 have L1:=PySem.W.looks_subIn (M:=M) X Z.isB
 have e3:=F.args_bexc_ga (.ref a) nameV
 simp only [checkBuiltinCall,e1,e2]
 refine wpAny_bind ?_
 unfold isInstance
 repeat (first | (with_reducible refine wpAny_loadPart_at hx ?_; rw [hc]) | (with_reducible refine wpAny_bind (PySem.W.Looks.at L1 ?_)) | (with_reducible refine PySem.W.Looks.at L1 ?_) | wp_step)
 exact hq
theorem Zox {tk:Tok} {R:Result→Shared→Prop} (X:K.In h) (Z:Zcc K C) (hx:h.get? a = some o) (hc:o.cls = .ref C) (hq:R (.ok (.ret (.ref C))) ⟨h,g,d,t,os⟩) :
  codeAny (model prog w) A (.call (.builtin "BaseException.__getattribute__") ⟨[.ref a,.str "__class__" tk],[]⟩) R ⟨h,g,d,t,os⟩ :=
 codeAny_call_builtin F.excAttr_ValueError.ga.plain F.entry_bexc_ga (Zlo X Z hx hc (Zln X Z hx hc hq))
theorem Zu9 {tk:Tok} {fill expr:Bool} {Q:Value→Shared→Prop} (X:K.In h) (Z:Zcc K C) (hx:h.get? a = some o) (hc:o.cls = .ref C) (hq:Q (.ref C) ⟨h,g,d,t,os⟩) :
  wpAny (model prog w) A (getAttrBy (.ref a) (.str "__class__" tk) fill expr) Q E ⟨h,g,d,t,os⟩:=by
 have f3:=F.excAttr_ValueError.ga.bind (.ref a)
 have y0:(expr && onTheHeap (Value.builtin "BaseException.__getattribute__")) = false:=by cases expr <;> rfl
 have y2:(Value.builtin "BaseException.__getattribute__" == Value.builtin "object.__getattribute__") = false:=by decide +kernel
 have y1:(onTheHeap (Value.ref C) && Value.builtin "BaseException.__getattribute__" == Value.builtin "object.__getattribute__") = false:=by rw [y2]; rfl
 have L2:=PySem.W.looks_findIn (M:=model prog w) X Z.ga
 have L3:=PySem.W.looks_findIn (M:=model prog w) X Z.gt
 repeat (any_goals (first | assumption | (with_reducible refine wpAny_loadPart_at hx ?_; rw [hc]) | (with_reducible refine PySem.W.Looks.at L2 ?_) | (with_reducible refine PySem.W.Looks.at L3 ?_) | (with_reducible refine wpAny_bind (PySem.W.Looks.at L2 ?_)) | (with_reducible refine wpAny_bind (PySem.W.Looks.at L3 ?_)) | wp_step))
 refine Zox X Z hx hc ?_
 repeat (any_goals (first | assumption | wp_step))
theorem Znu {Q:Option Value→Shared→Prop} (X:K.In h) (Z:Zcc K C) (hx:h.get? a = some o) (hc:o.cls = .ref C) (hq:Q (some (.ref C)) ⟨h,g,d,t + 1,os⟩) :
  wpAny (model prog w) A (getAttr? (.ref a) "__class__") Q E ⟨h,g,d,t,os⟩:=by
 unfold getAttr? getAttrBy?
 repeat (any_goals (first | assumption | with_reducible apply Zu9 X Z hx hc | wp_step))
end
theorem Zk3 {K:PySem.W.Frag} {a C:Addr} (Z:Zcc K C):PySem.W.KitX K (.ref a) (.ref C) (fun h=>∃ o,h.get? a = some o∧o.cls = .ref C) where
 ty:=fun M h _ p=>let ⟨_,hx,hc⟩:=p; Zv2 M hx hc
 it:=fun M h X _=>by
  have z:=Z.isC
  unfold PySem.W.clsIn at z
  split at z
  ·rename_i ho
   intro A' Q' E' s' k q
   unfold isType loadHead
   exact wpAny_bind (wpAny_loadPart (k _ _ (X _ _ ho)) (wpAny_pure q))
  ·cases z
 ne:=fun h tp dd its n sl X htp=>by
  have z:=Z.isC
  refine Bool.eq_false_iff.mpr fun q=>?_
  have e:C = tp:=Value.ref.inj (beq_iff_eq.mp q)
  subst e
  unfold PySem.W.clsIn at z
  split at z
  ·rename_i ho
   have z:=(X _ _ ho).symm.trans htp
   cases z
  ·cases z
 ca:=fun {_ _ _ _ _ s} X p k=>by
  obtain ⟨h,g,d,t,os⟩:=s
  obtain ⟨_,hx,hc⟩:=p
  exact Znu X Z hx hc k
end L2
namespace L2
open PySem PySem.Spec PyProof.Rows
variable {G:PySem.W.Frag}
noncomputable def tyD:PyData→String
 | .none => "NoneType"
 | .bool _ => "bool"
 | .int _ => "int"
 | .str _ => "str"
 | .list _ => "list"
 | .tuple _ => "tuple"
 | .dict _ => "dict"
theorem Zsl {K:PySem.W.Frag} {T:String} {d:PyData} (h:T = "int" ∨ T = "bool" ∨ T = "str" ∨ T = "list" ∨ T = "tuple") (hd:∀ kvs,d ≠ .dict kvs):PySem.W.kitOne K (.type (tyD d)) (.type T) = some (Zme T d):=by
 rcases h with rfl | rfl | rfl | rfl | rfl <;> cases d <;> first | rfl | (exact absurd rfl (hd _)) | (unfold PySem.W.kitOne PySem.W.kitCls; rfl) | (simp only [tyD,Zme]; decide +kernel)
noncomputable def Z5q (G:PySem.W.Frag):List V→Hp→VK→Prop:=fun xs H Q=>∃ (x:V) (T:String) (L:Addr→Prop) (d:PyData),xs = [x,.ty T]∧Da G H L x d∧Zfe d = false∧(T = "int" ∨ T = "bool" ∨ T = "str" ∨ T = "list" ∨ T = "tuple")∧Q (.bl (Zme T d)) H
theorem Zm9 {X:Cx} (hK:X.K = G):Zcn X (.builtin "isinstance") (Z5q G):=by
 subst hK
 intro pins s σ H xs us Q I r h
 obtain ⟨x,T,L,d,rfl,q,hf,hT,h⟩:=h
 obtain ⟨u,w',rfl,r1,r2⟩:=vals2 r
 cases (show w' = Value.type T from r2)
 have fin:∀ tk:Nat,EP X pins σ Q (.bool (Zme T d)) { s with toks:=tk }:=fun tk=>⟨.bl _,H,I.tok tk,rfl,h⟩
 cases q with
 | non=>exact J3 I r1 .non (Zsl (d:=.none) hT fun _ z=>by cases z) fin
 | bl b=>exact J3 I r1 (.bl b) (Zsl (d:=.bool b) hT fun _ z=>by cases z) fin
 | int b=>exact J3 I r1 (.int b) (Zsl (d:=.int b) hT fun _ z=>by cases z) fin
 | str b=>exact J3 I r1 (.str b) (Zsl (d:=.str b) hT fun _ z=>by cases z) fin
 | lst l e qs =>
  rename_i ds
  rcases e with e | ⟨o,e⟩
  ·exact J3 I r1 (.lst e) (Zsl (d:=.list ds) hT fun _ z=>by cases z) fin
  ·exact J3 I r1 (.frz e) (Zsl (d:=.list ds) hT fun _ z=>by cases z) fin
 | tup e qs =>
  rename_i ds
  exact J3 I r1 (.tup e) (Zsl (d:=.tuple ds) hT fun _ z=>by cases z) fin
 | scr ks =>
  rename_i a ns
  cases (show u = Value.ref a from r1)
  obtain ⟨its,vs,⟨o,n,ho,hc,hd,hs⟩,_⟩:=I.list (ks.sq (H:=H))
  exact PySem.W.kia_one PySem.W.kitx_list I.kIn ⟨o,ho,hc⟩ (Zsl (d:=.list (ns.map PyData.int)) hT fun _ z=>by cases z) (fun z=>nomatch z) fin
 | exc Z hn e =>
  rename_i a C x
  cases (show u = Value.ref a from r1)
  obtain ⟨⟨o,vs,ho,hc,_⟩,_,_⟩:=(show ObjOk X.prog X.w H s.heap a (.ext (ExO C a)) from I.hok a _ e)
  refine PySem.W.kia_one (Zk3 Z) I.kIn ⟨o,ho,hc⟩ (b:=Zme T (exD x)) ?_ (fun z=>nomatch z) fin
  rcases hT with rfl | rfl | rfl | rfl | rfl
  ·exact Z.k1
  ·exact Z.k2
  ·exact Z.k3
  ·exact Z.k4
  ·exact Z.k5
 | fn _=>cases hf
 | dic _ _ _ _=>unfold dcD Zfe at hf; cases hf
section
variable {X:Cx} {io:List Nat} {p c p' c':Bool} {a b e:Expr} {ma m:MEt} {pos pp p2:Pos} {K:PySem.W.Frag}
theorem Zp3 {T:Str} {T':String} (hT:T' = "int" ∨ T' = "bool" ∨ T' = "str" ∨ T' = "list" ∨ T' = "tuple") (hg:Gl X "isinstance") (hm:X.mg "isinstance" = none) (hv:bootBuiltins "isinstance" = some (.builtin "isinstance"))
  (hg2:Gl X T) (hm2:X.mg T = none) (hv2:bootBuiltins T = some (.type T')) (ha:ME X io p c a ma) (hn:T ≠ "__name__" := by decide) (hd:(T == ("__debug__" : Str)) = false:=by decide)
  (he:starEach [a,.Name T p2] X.env = (false,eval a X.env) :: starEach [.Name T p2] X.env:=by rfl) (he2:starEach [.Name T p2] X.env = (false,eval (.Name T p2) X.env) :: starEach [] X.env:=by rfl) (hpl:(backTo pos (starEach [.Name T p2] X.env)).any (·.1) = false:=by rfl) :
  ME X io p true (.Call (.Name "isinstance" pp) [a,.Name T p2] [] pos) (Z7y T' ma):=by
 obtain ⟨_,A,s⟩:=ha
 refine ⟨_,Zgh (Zm9 rfl) hg hm hv (Jx A (Jx (Zwq (v:=.ty T') hg2 hm2 hv2 rfl hn hd) Zdn he2) he) (by decide) (by decide) he hpl,?_⟩
 intro C H σ δ fp ex K' Q R h k
 refine s C H σ δ fp ex _ _ R h fun H' v r δ' fp' new r1 h1=>?_
 exact ⟨v,T',_,_,rfl,r1.da R,h1.1,hT,k H' _ _ δ' fp' [] (.fz r1.base r1.stp (.bl _)) h1.2⟩
noncomputable abbrev MOt:=Zc→(Option Int→Zc→Prop)→Prop
noncomputable def MO (X:Cx) (io:List Nat) (p:Bool) (e:Option Expr) (m:MOt):Prop:=∃ t,PO X e t∧∀ (C:MC X.K) (H:Hp) (σ:St) (δ:Zc) (fp:Fp) (ex:Addr→Prop) (K:Option Int→Zc→Prop) (Q:Option Int→Hp→Prop),Rel C io H σ δ fp ex→m δ K →
 (∀ H' b δ' fp',Rel C io H' σ δ' fp' ex→Stp p H δ fp H' δ' fp'→K b δ'→Q b H')→t σ H Q
noncomputable def Znl:MOt:=fun δ K=>K none δ
noncomputable def Zy8 (m:MEt):MOt:=fun δ K=>m δ fun r δ'=>asI r.data fun i=>K (some i) δ'
theorem Zen:MO X io true none Znl:=⟨_,Zwr,fun C H σ δ fp ex K Q R h k=>k H none δ fp R (.refl _ _ _ _) h⟩
theorem Zdh (h:ME X io p c e m):MO X io p (some e) (Zy8 m):=by
 obtain ⟨_,A,s⟩:=h
 exact ⟨_,Zu7 A,fun C H σ δ fp ex K Q R h k=>s C H σ δ fp ex _ _ R h fun H' v r δ' fp' new r1 h1=>by
  obtain ⟨i,rfl,h1⟩:=(r1.da R).intInv h1
  exact ⟨i,rfl,k H' _ δ' fp' r1.base r1.stp h1⟩⟩
noncomputable def cutD (ds:List PyData) (lo hi:Option Int):List PyData:=(ds.drop (HT.sIx ds.length 0 lo)).take (HT.sIx ds.length ds.length hi - HT.sIx ds.length 0 lo)
theorem Das.cut {H:Hp} {L:Addr→Prop} {xs:List V} {ds:List PyData} (h:Das G H L xs ds) (lo hi:Option Int):Das G H L (Zxt xs lo hi) (cutD ds lo hi):=by
 unfold Zxt cutD
 rw [h.length]
 exact (h.drop _).take _
noncomputable def mSl (m:MEt) (ml mh:MOt):MEt:=fun δ K=>m δ fun r δ1=>ml δ1 fun lo δ2=>mh δ2 fun hi δ3=>asL r.data fun ds=>K (.nd ((cutD ds lo hi).map OT.fz)) δ3
theorem Z0r {lo hi:Option Expr} {ml mh:MOt} (ha:ME X io true c a ma) (hl:MO X io true lo ml) (hh:MO X io true hi mh):ME X io true c (.Subscript a (.Slice lo hi none p2) pos) (mSl ma ml mh):=by
 obtain ⟨_,A,s⟩:=ha
 obtain ⟨_,B,sl⟩:=hl
 obtain ⟨_,D,sh⟩:=hh
 refine ⟨_,Zku (Zr4 rfl) A B D,?_⟩
 intro C H σ δ fp ex K' Q R h k
 refine s C H σ δ fp ex _ _ R h fun H1 v r δ1 fp1 new r1 h1=>?_
 refine sl C H1 σ δ1 fp1 ex _ _ r1.base h1 fun H2 l δ2 fp2 R2 S2 h2=>?_
 refine sh C H2 σ δ2 fp2 ex _ _ R2 h2 fun H3 u δ3 fp3 R3 S3 h3=>?_
 have s2:Same H1 H2:=fun b o e=>S2.keep b o e (.inl rfl)
 have s3:Same H2 H3:=fun b o e=>S3.keep b o e (.inl rfl)
 obtain ⟨e1,e2⟩:=r1.stp.env rfl
 obtain ⟨e3,e4⟩:=S2.env rfl
 obtain ⟨e5,e6⟩:=S3.env rfl
 have q:=((r1.da R).same s2).same s3
 obtain ⟨a',xs,ds,rfl,e,qs,h3⟩:=q.lstInv h3
 refine ⟨a',xs,rfl,e,fun p hp=>?_⟩
 have S:=(r1.stp.trans S2).trans S3
 refine k _ _ _ δ3 fp3 [p] (RE.tree R R3 S (Z2 hp _) (Zb3 hp) (Zdv p) (Own.list hp ((qs.cut l u).wide fun a l _=>?_))) h3
 rw [e6,e4]
 exact l
theorem Owns.set {H:Hp} {L:Addr→Prop} {x:V} {r:OT} (hr:Own G H L x r []):∀ {xs:List V} {ts:List OT} {as:List Addr} (j:Nat),Owns G H L xs ts as→∃ bs,Owns G H L (xs.set j x) (ts.set j r) bs∧bs.Sublist as
 | _,_,_,_,.nil=>⟨[],.nil,.refl _⟩
 | _,_,_,0,.cons k t=>⟨_,.cons hr t,by simp⟩
 | _,_,_,j + 1,.cons (as:=as) k t=>by
  obtain ⟨bs,o,s⟩:=Owns.set hr j t
  exact ⟨as ++ bs,.cons k o,List.Sublist.append_left s as⟩
theorem Owns.get {H:Hp} {L:Addr→Prop}:∀ {xs:List V} {ts:List OT} {as:List Addr} {j:Nat} {t:OT},Owns G H L xs ts as→ts[j]? = Option.some t→∃ x bs,xs[j]? = Option.some x∧Own G H L x t bs∧bs.Sublist as
 | _,_,_,_,_,.nil,e=>by simp at e
 | _,_,_,0,_,.cons k _,e=>by simp at e; subst e; exact ⟨_,_,rfl,k,List.sublist_append_left _ _⟩
 | _,_,_,j + 1,t,.cons _ r,e=>by
  obtain ⟨x,bs,h1,h2,h3⟩:=Owns.get (j:=j) (t:=t) r (by simpa using e)
  exact ⟨x,bs,by simpa using h1,h2,h3.trans (List.sublist_append_right _ _)⟩
theorem Rel.top {C:MC G} {H:Hp} {σ:St} {δ:Zc} {fp:Fp} {ex:Addr→Prop} {i:Nat} {ts ts':List OT} {a':Addr} {xs ys:List V} {bs bs':List Addr} (R:Rel C io H σ δ fp ex) (hi:δ[i]? = some (some (.nd ts))) (hv:σ[i]? = some (some (.ref a')))
  (hf:fp i = a' :: bs) (hx:H a' = some (.lst xs)) (o:Owns G H (Lf C fp ex) ys ts' bs') (hs:bs'.Sublist bs) :
  Rel C io (upd H a' (.lst ys)) σ (δ.set i (some (.nd ts'))) (fpu fp i (a' :: bs')) ex∧Stp false H δ fp (upd H a' (.lst ys)) (δ.set i (some (.nd ts'))) (fpu fp i (a' :: bs')):=by
 have nd:=R.nd i
 rw [hf] at nd
 have hn:=List.nodup_cons.mp nd
 have hm:a' ∈ fp i:=by rw [hf]; exact .head _
 have ne':∀ a,¬ Foot fp a→a ≠ a':=fun a h z=>h ⟨i,by rw [z]; exact hm⟩
 have kp:∀ b o,H b = some o→b ≠ a'→upd H a' (.lst ys) b = some o:=fun b o e n=>by rw [Zj n]; exact e
 have sub:∀ a,a ∈ a' :: bs'→a ∈ fp i:=fun a m=>by
  rw [hf]
  rcases List.mem_cons.mp m with rfl | m
  ·exact .head _
  ·exact .tail _ (hs.subset m)
 have o':Owns G (upd H a' (.lst ys)) (Lf C (fpu fp i (a' :: bs')) (exu ex [])) ys ts' bs':=by
  have f0:∀ a,¬ Foot fp a→¬ Foot (fpu fp i (a' :: bs')) a:=fun a h z=>by
   rcases z.of_u with z | ⟨j,_,z⟩
   ·exact h ⟨i,sub a z⟩
   ·exact h ⟨j,z⟩
  have f1:∀ a (zs:MuO),Lf C fp ex a→Rd H a zs.ho→Lf C (fpu fp i (a' :: bs')) (exu ex []) a∧Rd (upd H a' (.lst ys)) a zs.ho:=fun a zs l q=>by
   refine ⟨⟨f0 a l.1,fun z=>l.2.1 (Zae.mp z),l.2.2⟩,?_⟩
   rcases q with q | ⟨u,q⟩
   ·exact .inl (kp a _ q (ne' a l.1))
   ·exact .inr ⟨u,kp a _ q (ne' a l.1)⟩
  have f2:∀ a (zs:ImO),H a = some zs.ho→upd H a' (.lst ys) a = some zs.ho:=fun a zs q=>kp a _ q fun z=>ImO.nl q (z ▸ hx)
  exact o.frame f1 f2 fun a m zs q=>kp a _ q fun z=>hn.1 (hs.subset (z ▸ m))
 have key:=R.change (new:=[]) (as':=a' :: bs') (t':=.nd ts') (H':=upd H a' (.lst ys)) hi hv (fun b o e nb=>kp b o e fun z=>nb (by rw [z]; exact hm)) (fun b e=>by
   by_cases q:b = a'
   ·subst q; rw [Zm] at e; cases e
   ·rwa [Zj q] at e) (.nd Zm o') (List.nodup_cons.mpr ⟨fun m=>hn.1 (hs.subset m),hn.2.sublist hs⟩) (fun a m=>.inl (sub a m)) (fun a m=>nomatch m)
 exact ⟨key.1.drop fun a z=>.inl z,key.2⟩
end
end L2
namespace L2
open PySem PySem.Spec PyProof.Rows
variable {G:PySem.W.Frag}
section
variable {X:Cx} {io:List Nat} {p c p' c':Bool} {a b e:Expr} {ma m mi mj:MEt} {pos pp p2 apos cpos px:Pos} {K:PySem.W.Frag} {i:Nat} {x:Str}
theorem Rel.ownNd {C:MC G} {H:Hp} {σ:St} {δ:Zc} {fp:Fp} {ex:Addr→Prop} {ts:List OT} (R:Rel C io H σ δ fp ex) (hi:δ[i]? = some (some (.nd ts))) :
  ∃ a' xs bs,σ[i]? = some (some (.ref a'))∧H a' = some (.lst xs)∧Owns G H (Lf C fp ex) xs ts bs∧fp i = a' :: bs:=by
 obtain ⟨v,e,o⟩:=R.own i _ hi
 generalize hf:fp i = as at o
 cases o with
 | nd h r=>exact ⟨_,_,_,e,h,r,rfl⟩
noncomputable def Zgn (i:Nat) (m:MEt):MSt:=fun D δ=>match δ[i]? with
 | some (some (.nd _))=>m δ fun r δ1=>match δ1[i]? with
  | some (some (.nd ts))=>ts.length < sizeLine∧D.nx (δ1.set i (some (.nd (ts ++ [.fz r.data]))))
  | _=>False
 | _=>False
theorem J4 (i:Nat) (he:ME X io p true e m) (hN:X.N[i]? = some x:=by rfl) (hv:Vis X.env.scope x:=by first | exact Or.inl rfl | exact Or.inr (Or.inl rfl) | exact Or.inr (Or.inr rfl)) (hd:(x == ("__debug__" : Str)) = false:=by decide)
  (hcd:(x == ("__classdict__" : Str)) = false:=by decide)
  (hbase:attributeBase (.Name x px) "append" X.env (eval (.Name x px) X.env) = eval (.Name x px) X.env:=by rfl)
  (hfew:((backTo cpos (starEach [e] X.env)).all (fun x=>!x.1) && (backToKw cpos (keywordEach [] X.env)).all (fun x=>x.1.isSome)
   && decide ([e].length + ([]:List Keyword).length + (if ([]:List Keyword).isEmpty then 0 else 1) < 30)) = true:=by rfl)
  (hline:(apos.endLine == cpos.line) = true:=by rfl) (hs:starEach [e] X.env = (false,eval e X.env) :: starEach [] X.env:=by rfl) (hplain:(backTo cpos (starEach [] X.env)).any (·.1) = false:=by rfl)
  (hsw:swapsWith (.Call (.Attribute (.Name x px) "append" apos) [e] [] cpos) none pos.line X.env = pure false:=by rfl) :
  MS X io (.Expr (.Call (.Attribute (.Name x px) "append" apos) [e] [] cpos) pos) (Zgn i m):=by
 obtain ⟨_,A,s⟩:=he
 refine ⟨_,Zc3 (Zmb PySem.F.plainAttrs_list PySem.F.slot_list_append PySem.F.type_list_append Zck (pv i hN hv hd hcd) (Jx A Zdn hs) hbase hfew hline hs hplain) hsw,fun C H σ δ fp ex D D' R h E=>?_⟩
 unfold Zgn at h
 split at h
 case h_2=>exact h.elim
 rename_i ts0 hi0
 obtain ⟨a',xs0,bs0,hv0,hx0,_,_⟩:=R.ownNd hi0
 refine ⟨_,hv0,.inl ⟨rfl,xs0,.inl (.inl hx0)⟩,?_⟩
 refine s C H σ δ fp ex _ _ R h fun H1 v r δ1 fp1 new r1 h1=>?_
 split at h1
 case h_2=>exact h1.elim
 rename_i ts1 hi1
 have R1:=r1.base
 obtain ⟨a1,xs1,bs1,hv1,hx1,o1,hf1⟩:=R1.ownNd hi1
 rw [hv0] at hv1
 cases hv1
 have q:=(r1.da R).wide (L':=Lf C fp1 ex) fun a l _=>l rfl
 refine ⟨a',xs1,v,rfl,rfl,hx1,by rw [o1.length]; exact h1.1,?_⟩
 have o2:=o1.snoc (.fz q)
 obtain ⟨R2,S2⟩:=R1.top hi1 hv0 hf1 hx1 o2 (by simp)
 exact E.nx _ σ _ _ R2 (r1.stp.kp.trans S2.kp) h1.2
theorem SE.pureAfter {t:TE} {C:MC G} {H:Hp} {σ:St} {δ:Zc} {fp:Fp} {ex:Addr→Prop} {K':OT→Zc→Prop} {Q:VK} (s:SE G io true c t m) (R:Rel C io H σ δ fp ex) (h:m δ K') (k:∀ H' v r,Rel C io H' σ δ fp ex→Same H H'→Da G H' (fun a=>c = true→Lf C fp ex a) v r.data→K' r δ→Q v H'):t σ H Q :=
 s C H σ δ fp ex _ _ R h fun H1 v r δ1 fp1 new r1 h1=>by
  obtain ⟨e1,e2⟩:=r1.stp.env rfl
  have q:=r1.da R
  have R1:=r1.base
  rw [e1] at R1 h1
  rw [e2] at R1 q
  exact k H1 v r R1 (fun b o e=>r1.stp.keep b o e (.inl rfl)) q h1
theorem Owns.deep {H:Hp} {L:Addr→Prop} {b':Addr} {ws ws':List V} {us us':List OT} (hb:H b' = Option.some (HO.lst ws)) (hL:¬ L b') (hc:∀ cs,Owns G H L ws us cs→∃ cs',Owns G H L ws' us' cs'∧cs'.Sublist cs) :
  ∀ {xs:List V} {ts:List OT} {as:List Addr} {j:Nat},Owns G H L xs ts as→as.Nodup→xs[j]? = Option.some (.ref b')→ts[j]? = Option.some (.nd us)→∃ as',Owns G (upd H b' (.lst ws')) L xs (ts.set j (.nd us')) as'∧as'.Sublist as∧b' ∈ as
 | _,_,_,_,.nil,_,e,_=>by simp at e
 | _,_,_,0,.cons (as:=as) (bs:=bs) k t,nd,e,e'=>by
  simp at e e'
  subst e e'
  have nd':=List.nodup_append.mp nd
  have kp:∀ a o,a ≠ b'→H a = Option.some o→upd H b' (.lst ws') a = Option.some o:=fun a o n q=>by rw [Zj n]; exact q
  have f1:∀ a (zs:MuO),L a→Rd H a zs.ho→L a∧Rd (upd H b' (.lst ws')) a zs.ho:=fun a zs l q=>⟨l,by
   have na:a ≠ b':=fun z=>hL (z ▸ l)
   rcases q with q | ⟨u,q⟩
   ·exact .inl (kp a _ na q)
   ·exact .inr ⟨u,kp a _ na q⟩⟩
  have f2:∀ a (zs:ImO),H a = Option.some zs.ho→upd H b' (.lst ws') a = Option.some zs.ho:=fun a zs q=>kp a _ (fun z=>ImO.nl q (z ▸ hb)) q
  cases k with
  | nd h r =>
   rename_i xs0 as0
   rw [hb] at h
   cases h
   have nd2:=List.nodup_cons.mp nd'.1
   obtain ⟨cs',o',s'⟩:=hc _ r
   refine ⟨b' :: cs' ++ bs,.cons (.nd Zm (o'.frame f1 f2 fun a m zs q=>kp a _ (fun z=>nd2.1 (s'.subset (z ▸ m))) q)) (t.frame f1 f2 fun a m zs q=>kp a _ (fun z=>nd'.2.2 b' (.head _) a m z.symm) q),List.Sublist.append_right (List.Sublist.cons₂ _ s') bs,List.mem_append_left _ (.head _)⟩
 | _,_,_,j + 1,.cons (as:=as) (bs:=bs) k t,nd,e,e'=>by
  have nd':=List.nodup_append.mp nd
  obtain ⟨as',o,s,m⟩:=Owns.deep hb hL hc (j:=j) t nd'.2.1 (by simpa using e) (by simpa using e')
  have nb:b' ∉ as:=fun z=>nd'.2.2 b' z b' m rfl
  refine ⟨as ++ as',.cons ?_ o,List.Sublist.append_left s as,List.mem_append_right _ m⟩
  have kp:∀ a o,a ≠ b'→H a = Option.some o→upd H b' (.lst ws') a = Option.some o:=fun a o n q=>by rw [Zj n]; exact q
  refine k.frame (fun a zs l q=>⟨l,?_⟩) (fun a zs q=>kp a _ (fun z=>ImO.nl q (z ▸ hb)) q) fun a m' zs q=>kp a _ (fun z=>nb (z ▸ m')) q
  have na:a ≠ b':=fun z=>hL (z ▸ l)
  rcases q with q | ⟨u,q⟩
  ·exact .inl (kp a _ na q)
  ·exact .inr ⟨u,kp a _ na q⟩
end
end L2
namespace L2
open PySem PySem.Spec PyProof.Rows
variable {G:PySem.W.Frag}
mutual
noncomputable def Zwh:OT→Bool
 | .fz d=>Jp d
 | .nd ts=>Zog ts
 | .tp ts=>Zog ts
 | .dc _ _ _=>false
noncomputable def Zog:List OT→Bool
 | []=>true
 | t :: ts=>Zwh t && Zog ts
end
section
variable {X:Cx} {io:List Nat} {p c:Bool} {e:Expr} {m:MEt}
theorem Rel.freeze {C:MC G} {H:Hp} {σ:St} {δ:Zc} {fp:Fp} {ex:Addr→Prop} {i:Nat} {t:OT} (R:Rel C io H σ δ fp ex) (hio:i ∉ io) (hi:δ[i]? = some (some t)):Rel C io H σ (δ.set i (some (.fz t.data))) (fpu fp i []) ex:=by
 have hil:i < δ.length:=(List.getElem?_eq_some_iff.mp hi).1
 have sub:∀ j a,a ∈ fpu fp i [] j→j ≠ i∧a ∈ fp j:=fun j a m=>by
  by_cases ej:j = i
  ·subst ej; rw [Zu] at m; exact nomatch m
  ·rw [Z9 ej] at m; exact ⟨ej,m⟩
 have lw:∀ a,Lf C fp ex a→Lf C (fpu fp i []) ex a:=fun a l=>⟨fun ⟨j,z⟩=>l.1 ⟨j,(sub j a z).2⟩,l.2.1,l.2.2⟩
 have ln:∀ a ∈ fp i,Lf C (fpu fp i []) ex a:=fun a m=>⟨fun ⟨j,z⟩=>(sub j a z).1 (R.dj j i a (sub j a z).2 m),R.dx i a m,.inr (by
  rcases R.new i a m with z | z
  ·exact absurd z.1 hio
  ·exact z)⟩
 refine ⟨by rw [List.length_set]; exact R.len,fun j t' e=>?_,fun j h=>?_,fun j=>?_,fun j k a h1 h2=>R.dj j k a (sub j a h1).2 (sub k a h2).2,fun j a h z=>R.dx j a (sub j a h).2 z,R.xa,R.fr,R.al,fun j a h=>R.new j a (sub j a h).2,R.io⟩
 ·by_cases ej:j = i
  ·subst ej
   rw [List.getElem?_set_self hil] at e
   cases e
   obtain ⟨v,e1,o⟩:=R.own j t hi
   exact ⟨v,e1,by rw [Zu]; exact .fz (o.da (fun a l _=>lw a l) ln)⟩
  ·rw [List.getElem?_set_ne (Ne.symm ej)] at e
   obtain ⟨w,e1,o⟩:=R.own j t' e
   exact ⟨w,e1,by rw [Z9 ej]; exact o.wide fun a l _=>lw a l⟩
 ·by_cases ej:j = i
  ·subst ej; rw [Zu]
  ·rw [Z9 ej]
   exact R.emp j fun t' z=>h t' (by rw [List.getElem?_set_ne (Ne.symm ej)]; exact z)
 ·by_cases ej:j = i
  ·subst ej; rw [Zu]; exact .nil
  ·rw [Z9 ej]; exact R.nd j
noncomputable def Zgs (i:Nat) (u:MSt):MSt:=fun D δ=>match δ[i]? with | some (some t)=>u D (δ.set i (some (.fz t.data))) | _=>False
theorem Zip {st:Stmt} {u:MSt} (i:Nat) (h:MS X io st u) (hio:i ∉ io:=by decide):MS X io st (Zgs i u):=by
 obtain ⟨_,A,s⟩:=h
 exact ⟨_,A,fun C H σ δ fp ex D D' R h E=>by
  unfold Zgs at h
  split at h
  case h_2=>exact h.elim
  rename_i t hi
  refine s C H σ _ _ ex D D' (R.freeze hio hi) h (E.shift ⟨fun b o e _=>e,fun z=>(nomatch z),fun a z=>?_,fun b e=>e⟩)
  rcases z.of_u with z | ⟨j,_,z⟩
  ·exact nomatch z
  ·exact .inl ⟨j,z⟩⟩
end
end L2
namespace L2
open PySem PySem.Spec PyProof.Rows
variable {G:PySem.W.Frag}
noncomputable def Z0w (ds:List PyData) (k:OT→Prop):Prop:=∃ ns:List Int,ds = [.list (ns.map PyData.int)]∧ns.length ≤ 63∧k (.fz (.bool true))
theorem Z1n {H:Hp} {a:Addr} {ns:List Int} {E:XK} (hl:ns.length ≤ 63) (h:SqL G H a (ns.map V.int)):spD G Z0w [.ref a] H (fun v _=>v = .bl true) E:=by
 refine ⟨fun _=>True,[.list (ns.map PyData.int)],fun r=>r = .fz (.bool true),.cons ?_ .nil,⟨ns,rfl,hl,rfl⟩,fun r v H' new kr s o _ _=>?_⟩
 ·rcases h with h | h
  ·exact .lst trivial h (.ints ns)
  ·exact .scr h
 ·subst kr
  cases o with
  | fz q=>cases q; rfl
section
variable {P:Program} {w:World} {mg:Str→Option Value} {base:Heap} {CX:CXT} {n:Nat} {f:Addr} {fd:FuncData} {ps:List Str}
end
end L2
namespace L2
open PySem PySem.Spec PyProof.Rows
@[simp] theorem Ze1:OT.datas [] = []:=rfl
@[simp] theorem Zc2 (t:OT) (ts:List OT):OT.datas (t :: ts) = t.data :: OT.datas ts:=rfl
theorem Zj7 {α:Type} {xs:List α} {i:Int} (h0:0 ≤ i):atI xs i = xs[i.toNat]?:=by
 unfold atI ixN
 rw [if_pos h0]
 split
 ·rfl
 ·rename_i h
  symm
  exact List.getElem?_eq_none_iff.mpr (by omega)
@[simp] theorem Z96 {α:Type} (x:α) (xs:List α):atI (x :: xs) 0 = some x:=by
 rw [Zj7 (by decide)]; rfl
@[simp] theorem Yad {α:Type} (x y:α) (xs:List α):atI (x :: y :: xs) 1 = some y:=by
 rw [Zj7 (by decide)]; rfl
@[simp] theorem Z91 {α:Type} (x y z:α) (xs:List α):atI (x :: y :: z :: xs) 2 = some z:=by
 rw [Zj7 (by decide)]; rfl
@[simp] theorem Z3b (ds:List PyData) (i:Int):ixD (.list ds) (.int i) = atI ds i:=rfl
@[simp] theorem Z30 (ds:List PyData) (i:Int):ixD (.tuple ds) (.int i) = atI ds i:=rfl
@[simp] theorem Zyj (ds:List PyData):Zsa (.list ds) = some ds.length:=rfl
@[simp] theorem Z3d (ds:List PyData):Zsa (.tuple ds) = some ds.length:=rfl
noncomputable def Zz3 (r:List Rat):PyData:=.list (r.map frD)
noncomputable def tbD (T:List (List Rat)):PyData:=.list (T.map Zz3)
noncomputable def Z27 (r:List Rat):OT:=.nd (r.map fun q=>.fz (frD q))
noncomputable def tbT (T:List (List Rat)):OT:=.nd (T.map Z27)
@[simp] theorem Zms (r:List Rat):(Z27 r).data = Zz3 r:=by
 unfold Z27 Zz3
 rw [OT.data_nd,List.map_map]
 rfl
@[simp] theorem Z26 (T:List (List Rat)):(tbT T).data = tbD T:=by
 unfold tbT tbD
 rw [OT.data_nd,List.map_map]
 exact congrArg PyData.list (List.map_congr_left fun r _=>Zms r)
noncomputable def Sq (n:Nat) (T:List (List Rat)):Prop:=T.length = n∧∀ r ∈ T,r.length = n
noncomputable def dd (T:List (List Rat)) (i j:Nat):Rat:=(T.getD i []).getD j 0
@[simp] theorem Z5v (T:List (List Rat)):Zsa (tbD T) = some T.length:=by unfold tbD Zsa; simp
@[simp] theorem Z29 (r:List Rat):Zsa (Zz3 r) = some r.length:=by unfold Zz3 Zsa; simp
@[simp] theorem Z49 (q:Rat):Jp (frD q) = true:=by unfold frD fr; simp [Jp,Zdm]
end L2
namespace L2
open PySem PySem.Spec PyProof.Rows
end L2
namespace L2
open PySem PySem.Spec PyProof.Rows
end L2
namespace L2
open PySem PySem.Spec PyProof.Rows
end L2
namespace L2
open PySem PySem.Spec PyProof.Rows
end L2
namespace L2
open PySem PySem.Spec PyProof.Rows
end L2
namespace L2
open PySem PySem.Spec PyProof.Rows
theorem Zsq {n a:Nat} (h:a < n):ixN n (a:Int) = some a:=by
 unfold ixN
 rw [if_pos (by omega),if_pos (by omega)]; simp
theorem Sq.ixN {n a:Nat} {T:List (List Rat)} (h:Sq n T) (ha:a < n):ixN (T.map Z27).length (a:Int) = some a:=Zsq (by rw [List.length_map,h.1]; exact ha)
end L2
namespace L2
open PySem PySem.Spec PyProof.Rows
end L2
namespace L2
open PySem PySem.Spec PyProof.Rows
end L2
namespace L2
open PySem PySem.Spec PyProof.Rows
theorem Zjx {d:PyData} (h:Z0 d = true):PyData.eqv d d = true:=Zx1 h h rfl
end L2
namespace L2
open PySem PySem.Spec PyProof.Rows
structure Sh (n:Nat) (d:PyData):Prop where
 lay:PyData.canLay0 d = true
 dep:PyData.depth d ≤ n
theorem Sh.shp {n:Nat} {d:PyData} (h:Sh n d) (hn:n ≤ 64:=by decide):Zyx d:=⟨by
 show (PyData.canLay0 d && decide (PyData.depth d ≤ 64)) = true
 rw [h.lay,decide_eq_true (Nat.le_trans h.dep hn)]; rfl⟩
theorem Sh.mono {m n:Nat} {d:PyData} (h:Sh m d) (k:m ≤ n):Sh n d:=⟨h.lay,Nat.le_trans h.dep k⟩
theorem Zio {n:Nat}:∀ {ds:List PyData},(∀ d ∈ ds,Sh n d)→PyData.canLayAll0 ds = true∧PyData.depthAll ds ≤ n
 | [],_=>⟨by rw [PyData.canLayAll0],by rw [PyData.depthAll]; exact Nat.zero_le _⟩
 | d :: ds,h=>by
  obtain ⟨h1,h2⟩:=Zio fun e m=>h e (.tail _ m)
  have h3:=h d (.head _)
  refine ⟨by rw [PyData.canLayAll0,h3.lay,h1]; rfl,?_⟩
  rw [PyData.depthAll]
  exact Nat.max_le.mpr ⟨h3.dep,h2⟩
theorem Zmp {n:Nat} {ds:List PyData} (h:∀ d ∈ ds,Sh n d):Sh (n + 1) (.list ds) :=
 ⟨by rw [PyData.canLay0]; exact (Zio h).1,by rw [PyData.depth]; exact Nat.succ_le_succ (Zio h).2⟩
theorem Zth {n:Nat} {ds:List PyData} (h:∀ d ∈ ds,Sh n d):Sh (n + 1) (.tuple ds) :=
 ⟨by rw [PyData.canLay0]; exact (Zio h).1,by rw [PyData.depth]; exact Nat.succ_le_succ (Zio h).2⟩
theorem Zpy (i:Int):Sh 0 (.int i):=⟨rfl,Nat.le_of_eq rfl⟩
end L2
namespace L2
open PySem PySem.Spec PyProof.Rows
section
variable {X:Cx} {pins:List (Addr × Obj)} {σ:St} {H:Hp} {s:Shared}
theorem Inv.turnTup {h':Heap} {ch:List Addr} {T:Addr} {xs:List V} {its:List Value} (I:Inv X pins σ H s) (f:∀ b ∈ ch,Zc0 X pins H b) (k:∀ b o,b ∉ ch→s.heap.get? b = some o→h'.get? b = some o)
  (th:∀ b ∈ ch,∃ o,h'.get? b = some o) (hT:s.heap.objs.size ≤ T) (hz:xs.length ≤ sizeLine) (r:Vals xs its) (ht:IsTup h' T its.toArray):Inv X pins σ (upd H T (.tup xs)) { s with heap:=h' }:=by
 have hn:H T = none:=I.hok.fresh hT
 have nch:∀ b u,H b = some u→b ∉ ch:=fun b u e z=>by rw [(f b z).1] at e; cases e
 have new:ObjOk X.prog X.w (upd H T (.tup xs)) h' T (.tup xs):=⟨hz,its,r,ht⟩
 refine I.call (ch:=ch) (g':=s.gens) (d':=s.drawn) (t':=s.toks) ⟨fun b o e _ _ hc=>k b o hc e,fun b o e _ _ hc=>⟨o.slots,k b o hc e⟩,fun b o e n _=>?_,fun b o e hc=>?_,fun b ys e=>?_,fun b o u e=>?_,fun b ps e=>?_⟩ (fun b u e=>?_) I.bare (fun b hb=>?_)
 ·rw [Zj (fun z=>by rw [z] at e; exact absurd (Heap.lt_size e) (Nat.not_lt.mpr hT))]; exact n
 ·exact ⟨o,k b o hc e⟩
 ·rw [Zj (Z7 e hn)]; exact e
 ·rw [Zj (Z7 e hn)]; exact e
 ·exact ⟨#[],by rw [Zj (Z7 e hn),e]; simp⟩
 ·by_cases hb:b = T
  ·subst hb; rw [Zm] at e; cases e; exact new
  ·rw [Zj hb] at e
   refine (I.hok b u e).stay (fun c v hc q=>k c v ?_ q) (fun c q=>by rw [Zj (Z7 q hn)]; exact q) fun c ys q=>by rw [Zj (Z7 q hn)]; exact q
   rcases hc with rfl | hc
   ·exact nch _ _ e
   ·exact nch _ _ hc
 ·obtain ⟨f0,f1,f2,f3,f4,f5⟩:=f b hb
  exact ⟨f3,f1,f4,f5⟩
theorem Inv.turnAll {h':Heap} {ch:List Addr} (I:Inv X pins σ H s) (f:∀ b ∈ ch,Zc0 X pins H b) (k:∀ b o,b ∉ ch→s.heap.get? b = some o→h'.get? b = some o):Inv X pins σ H { s with heap:=h' }:=by
 have nch:∀ b u,H b = some u→b ∉ ch:=fun b u e z=>by rw [(f b z).1] at e; cases e
 refine I.call (ch:=ch) (g':=s.gens) (d':=s.drawn) (t':=s.toks) ⟨fun b o e _ _ hc=>k b o hc e,fun b o e _ _ hc=>⟨o.slots,k b o hc e⟩,fun b o e n _=>n,fun b o e hc=>⟨o,k b o hc e⟩,fun b ys e=>e,fun b o u e=>e,fun b ps e=>⟨#[],by rw [e]; simp⟩⟩ (fun b u e=>?_) I.bare (fun b hb=>?_)
 ·refine (I.hok b u e).stay (fun c v hc q=>k c v ?_ q) (fun c q=>q) fun c ys q=>q
  rcases hc with rfl | hc
  ·exact nch _ _ e
  ·exact nch _ _ hc
 ·obtain ⟨f0,f1,f2,f3,f4,f5⟩:=f b hb
  exact ⟨f3,f1,f4,f5⟩
end
end L2
namespace L2
open PySem PySem.Spec PyProof.Rows
variable {G:PySem.W.Frag}
section
variable {X:Cx} {io:List Nat} {p c:Bool} {e a b tg:Expr} {m:MEt} {mr:MAt}
theorem Rel.keptList {C:MC G} {H:Hp} {σ:St} {δ:Zc} {fp:Fp} {ex:Addr→Prop} {v:V} {ds:List PyData} (R:Rel C io H σ δ fp ex) (q:Da G H (fun a=>c = true→Lf C fp ex a) v (.list ds)) :
  ∃ a xs,v = .ref a∧∀ H':Hp,(∀ b o,H b = some o→(c = false∨¬ Foot fp b)→H' b = some o)→SqL G H' a xs∧Das G H' (fun a=>c = true→(Lf C fp ex a∧H a ≠ none)) xs ds:=by
 generalize hd:PyData.list ds = d at q
 cases q with
 | lst l e r =>
  cases hd
  rename_i a0 xs0
  refine ⟨a0,xs0,rfl,fun H' kp=>?_⟩
  obtain ⟨f1,f2⟩:=R.kept kp
  exact ⟨.inl (f1 _ (.lst _) l e).2,r.frame f1 f2⟩
 | scr k =>
  rename_i a ns
  have:=PyData.list.inj hd
  subst this
  exact ⟨a,_,rfl,fun H' _=>⟨k.sq,.ints ns⟩⟩
 | _=>cases hd
noncomputable def Zi8 (as bs:List PyData):List PyData:=(as.zip bs).map fun x=>.tuple [x.1,x.2]
theorem Zgt {as bs:List PyData} {i:Nat} {d:PyData} (h:(Zi8 as bs)[i]? = some d):∃ x y,as[i]? = some x∧bs[i]? = some y∧d = .tuple [x,y]:=by
 unfold Zi8 at h
 rw [List.getElem?_map] at h
 cases e:(as.zip bs)[i]? with
 | none=>rw [e] at h; cases h
 | some z =>
  rw [e] at h
  cases h
  obtain ⟨h1,h2⟩:=List.getElem?_zip_eq_some.mp e
  exact ⟨z.1,z.2,h1,h2,rfl⟩
theorem Zil {as bs:List PyData} {i:Nat} (h:(Zi8 as bs)[i]? = none):as.length ≤ i∨bs.length ≤ i:=by
 unfold Zi8 at h
 have:=List.getElem?_eq_none_iff.mp h
 simp at this
 omega
@[simp] theorem Zts (as bs:List PyData):(Zi8 as bs).length = min as.length bs.length:=by simp [Zi8]
end
end L2
namespace L2
open PySem PySem.Spec PyProof.Rows
variable {G:PySem.W.Frag}
section
variable {X:Cx} {io:List Nat} {c1 c2 c3:Bool} {a b e:Expr} {ma mb mc:MEt} {pos:Pos} {f g:Int→Int→Bool}
noncomputable def Zkl (f g:Int→Int→Bool) (ma mb mc:MEt):MEt:=fun δ K=>ma δ fun x δ1=>mb δ1 fun y δ2=>asI x.data fun i=>asI y.data fun j=>if f i j = true then mc δ2 fun z δ3=>asI z.data fun k=>K (.fz (.bool (g j k))) δ3 else K (.fz (.bool false)) δ2
theorem Z17 {ta tb tc:TE} (ha:SE G io true c1 ta ma) (hb:SE G io true c2 tb mb) (hc:SE G io true c3 tc mc):SE G io true true (Zsz (rI0 fun i j=>.bl (f i j)) (rI0 fun i j=>.bl (g i j)) ta tb tc) (Zkl f g ma mb mc):=by
 intro C H σ δ fp ex K Q R h k
 refine ha.pureAfter R h fun H1 x u R1 s1 q1 h1=>?_
 refine hb.pureAfter R1 h1 fun H2 y v R2 s2 q2 h2=>?_
 obtain ⟨i,rfl,h2⟩:=q1.intInv h2
 obtain ⟨j,rfl,h2⟩:=q2.intInv h2
 refine ⟨i,j,rfl,rfl,f i j,rfl,?_⟩
 by_cases hf:f i j = true
 ·rw [if_pos hf] at h2 ⊢
  refine hc.pureAfter R2 h2 fun H3 z w R3 s3 q3 h3=>?_
  obtain ⟨l,rfl,h3⟩:=q3.intInv h3
  have s13:Same H H3:=(s1.trans s2).trans s3
  exact ⟨j,l,rfl,rfl,k H3 _ _ δ fp [] (.fz R3 (.same s13 s13.al) (.bl _)) h3⟩
 ·rw [if_neg hf] at h2 ⊢
  have s12:Same H H2:=s1.trans s2
  exact k H2 _ _ δ fp [] (.fz R2 (.same s12 s12.al) (.bl _)) h2
theorem Zv8 {op op':CmpOp} (ho:OpR X (compareOp op) (rI0 fun i j=>.bl (f i j))) (ho':OpR X (compareOp op') (rI0 fun i j=>.bl (g i j))) (ha:ME X io true c1 a ma) (hb:ME X io true c2 b mb) (hc:ME X io true c3 e mc)
  (hm:lastMarks [op,op'] [b,e] = false:=by with_unfolding_all rfl):ME X io true true (.Compare a [op,op'] [b,e] pos) (Zkl f g ma mb mc):=by
 obtain ⟨_,A,sa⟩:=ha
 obtain ⟨_,B,sb⟩:=hb
 obtain ⟨_,D,sc⟩:=hc
 exact ⟨_,Zq9 ho ho' A B D hm,Z17 sa sb sc⟩
end
section
variable {X:Cx} {io:List Nat} {p c:Bool} {a b e:Expr} {ma mb m:MEt} {pos pl:Pos}
end
end L2
namespace L2
open PySem PySem.Spec PyProof.Rows
variable {G:PySem.W.Frag}
section
variable {X:Cx}
end
end L2
namespace L2
open PySem PySem.Spec PyProof.Rows PySem.SeqAt
variable {G:PySem.W.Frag}
theorem Zpd (lo:Int) (n:Nat):Zcw lo (n + 1) = .int lo :: Zcw (lo + 1) n:=by
 unfold Zcw
 rw [List.range_succ_eq_map,List.map_cons,List.map_map]
 congr 1
 ·simp
 ·refine List.map_congr_left fun i _=>?_
  show PyData.int (lo + ((i + 1:Nat):Int)) = PyData.int (lo + 1 + (i:Int))
  congr 1
  omega
section
variable {X:Cx} {io:List Nat} {p c:Bool} {a b e:Expr} {ma mb m:MEt} {mr:MAt} {pos pos' pl pr:Pos}
end
theorem Zhe:∀ {ns:List Int} {its:List Value},Vals (ns.map V.int) its→IntsAre its ns
 | [],_,.nil=>.nil
 | n :: ns,_,.cons r rs=>by
  obtain ⟨t,e⟩:=(show ∃ t,_ = Value.int n t from r)
  rw [e]
  exact .cons n t (Zhe rs)
section
variable {X:Cx} {io:List Nat} {p c:Bool} {a b e:Expr} {ma mb m:MEt} {mr:MAt} {pos pos' pl pr:Pos}
end
end L2
namespace L2
open PySem PySem.Spec PyProof.Rows
section
variable {X:Cx} {io:List Nat} {p p' c:Bool} {a b e:Expr} {ma mb m:MEt} {pos p2:Pos}
end
end L2
namespace L2
open PySem PySem.Spec PyProof.Rows
theorem ObjOk.is {P:Program} {w:World} {H:Hp} {h:Heap} {a:Addr} {o:HO} (x:ObjOk P w H h a o):∃ u,h.get? a = some u:=by
 cases o with
 | lst xs=>obtain ⟨_,_,_,_,e⟩:=x; exact ⟨_,e⟩
 | tup xs=>obtain ⟨_,_,_,ob,e,_⟩:=x; exact ⟨_,e⟩
 | dK kvs=>obtain ⟨_,_,_,_,o,_,_,e,_⟩:=x; exact ⟨_,e⟩
 | dT kvs=>obtain ⟨_,_,_,_,o,_,_,e,_⟩:=x; exact ⟨_,e⟩
 | set S n=>obtain ⟨o,_,_,_,e,_⟩:=x; exact ⟨_,e⟩
 | ins C dx fs=>obtain ⟨_,_,_,e,_⟩:=x; exact ⟨_,e⟩
 | own y=>obtain ⟨_,e⟩:=x; exact ⟨_,e⟩
 | xd fs=>obtain ⟨_,⟨_,_,_,e,_⟩,_⟩:=x; exact ⟨_,e⟩
 | rng lo hi=>obtain ⟨_,_,_,e⟩:=x; exact ⟨_,e⟩
 | frz ob u=>obtain ⟨e,_⟩:=x; exact ⟨_,e⟩
 | tbl ps=>exact ⟨_,(show h.get? a = some _ from x)⟩
 | met f y=>exact ⟨_,(show h.get? a = some _ from x)⟩
 | ext φ=>obtain ⟨_,⟨_,e⟩,_⟩:=x; exact ⟨_,e⟩
structure Apart (X:Cx) (pins:List (Addr × Obj)) (H:Hp) (b:Addr):Prop where
 fr:H b = none
 new:X.s₀.heap.get? b = none
 loc:b ≠ X.env.locals
 cel:∀ x c,X.env.cells.lookup x = some c→c ≠ b
 pin:∀ p ∈ X.pn ++ pins,p.1 ≠ b
section
variable {X:Cx} {pins:List (Addr × Obj)} {σ:St} {H H':Hp} {s:Shared} {h':Heap} {b a C:Addr}
theorem Inv.apart (I:Inv X pins σ H s) (hex:X.ex = []) (hb:s.heap.get? b = none) (hH:H' b = none):Apart X pins H' b:=by
 have ne:∀ c o,s.heap.get? c = some o→c ≠ b:=fun c o e z=>by rw [z,hb] at e; cases e
 refine ⟨hH,?_,?_,fun x c e=>?_,fun p hp=>?_⟩
 ·cases q:X.s₀.heap.get? b with
  | none=>rfl
  | some o =>
   obtain ⟨o',e⟩:=I.base.there b o q (by rw [hex]; simp)
   rw [hb] at e; cases e
 ·obtain ⟨m,⟨o,_,_,ho,_⟩,_⟩:=I.loc
  exact (ne _ _ ho).symm
 ·obtain ⟨v,o,ho,_⟩:=I.cell x c e
  exact ne _ _ ho
 ·exact ne _ _ (I.pin p hp).1
theorem Inv.unheld (I:Inv X pins σ H s) (hb:s.heap.get? b = none):H b = none:=by
 cases q:H b with
 | none=>rfl
 | some u =>
  obtain ⟨o,e⟩:=(I.hok b u q).is
  rw [hb] at e; cases e
theorem Inv.nofrs (I:Inv X pins σ H s) (hb:b ≠ X.env.locals) (hf:b ∉ X.fs):b ∉ frs X.stack:=fun z=>(List.mem_cons.mp (I.stkSub b z)).elim hb hf
theorem Inv.flown {t':Nat} (I:Inv X pins σ H s) {ch:List Addr} (hch:∀ b ∈ ch,Apart X pins H b) (keep:∀ b o,b ∉ frs X.stack→b ∉ ch→s.heap.get? b = some o→h'.get? b = some o)
  (slot:∀ b o,b ∈ frs X.stack→s.heap.get? b = some o→∃ sl,h'.get? b = some { o with slots:=sl }):Inv X pins σ H { s with heap:=h',toks:=t' }:=by
 have any:∀ b o,b ∉ ch→s.heap.get? b = some o→∃ sl,h'.get? b = some { o with slots:=sl }:=fun b o n e=>by
  by_cases hb:b ∈ frs X.stack
  ·exact slot b o hb e
  ·exact ⟨o.slots,keep b o hb n e⟩
 have neL:∀ b o,X.s₀.heap.get? b = some o→b ≠ X.env.locals:=fun b o e=>Nat.ne_of_lt (Nat.lt_of_lt_of_le (Heap.lt_size e) I.ok.above)
 have neC:∀ b o,X.s₀.heap.get? b = some o→b ∉ ch:=fun b o e hb=>by
  have:=(hch b hb).new
  rw [this] at e; cases e
 have cellK:∀ x c,X.env.cells.lookup x = some c→∀ v,s.heap.IsCell c v→h'.IsCell c v:=fun x c e v q91=>by
  obtain ⟨o,ho,hd⟩:=q91
  obtain ⟨sl,q⟩:=any c o (fun z=>(hch c z).cel x c e rfl) ho
  exact ⟨_,q,hd⟩
 have nL:X.env.locals ∉ ch:=fun z=>(hch _ z).loc rfl
 refine ⟨I.ok,I.os,I.bare,⟨fun b o e n hb hx=>?_,fun b o e n hb hx=>?_,I.base.free,fun b o e hx=>?_,I.base.tups,I.base.frzs,I.base.tbls⟩,?_,fun x c e=>?_,I.free,I.freeC,fun p hp=>?_,fun b u e=>?_,I.len⟩
 ·exact keep b o (I.nofrs (neL b o e) hb) (neC b o e) (I.base.keep b o e n hb hx)
 ·obtain ⟨sl,e1⟩:=I.base.slot b o e n hb hx
  obtain ⟨sl',e2⟩:=any b _ (neC b o e) e1
  exact ⟨sl',e2⟩
 ·obtain ⟨o',e1⟩:=I.base.there b o e hx
  obtain ⟨sl,e2⟩:=any b o' (neC b o e) e1
  exact ⟨_,e2⟩
 ·obtain ⟨m,⟨o,es,ep,ho,r⟩,hl⟩:=I.loc
  obtain ⟨sl,q⟩:=any _ o nL ho
  refine ⟨m,⟨_,es,ep,q,r⟩,fun i x v e1 e2 e3=>?_⟩
  obtain ⟨u,rv,l⟩:=hl i x v e1 e2 e3
  refine ⟨u,rv,?_⟩
  rcases l with l | ⟨k,c,e,z⟩
  ·exact .inl l
  ·exact .inr ⟨k,c,e,cellK x c e _ z⟩
 ·obtain ⟨v,z⟩:=I.cell x c e
  exact ⟨v,cellK x c e v z⟩
 ·obtain ⟨e,n,ne,nf,d⟩:=I.pin p hp
  exact ⟨keep p.1 p.2 (I.nofrs ne nf) (fun z=>(hch _ z).pin p hp rfl) e,n,ne,nf,d⟩
 ·refine (I.hok b u e).stay (fun c v hc q=>keep c v (fun z=>?_) (fun z=>?_) q) (fun _ q=>q) fun _ _ q=>q
  ·have n:=I.stkFree c z
   rcases hc with rfl | hc
   ·rw [n] at e; cases e
   ·rw [n] at hc; cases hc
  ·have n:=(hch c z).fr
   rcases hc with rfl | hc
   ·rw [n] at e; cases e
   ·rw [n] at hc; cases hc
noncomputable def Fl (ap:Addr→Prop) (C a:Addr) (fl:Value) (h:Heap):Prop:=∃ a0 oe vs T oT ts,h.get? a = some oe∧(oe.cls = .ref C∧vs[0]? = some a0)∧oe.data = .fields vs∧vs[1]? = some (.ref T)∧T ≠ a∧h.get? T = some oT∧oT.data = .fields ts∧ts[3]? = some fl∧ap a∧ap T
noncomputable def Fl0 (ap:Addr→Prop) (C a:Addr) (h:Heap):Prop:=∃ a0 oe vs,h.get? a = some oe∧(oe.cls = .ref C∧vs[0]? = some a0)∧oe.data = .fields vs∧vs[1]? = some .none∧ap a
noncomputable def FlA (ap:Addr→Prop) (fl:Value) (C a:Addr) (h:Heap):Prop:=Fl ap C a .none h∨Fl0 ap C a h∨Fl ap C a fl h
theorem Fl.imp {ap ap':Addr→Prop} {fl:Value} {h:Heap} (f:∀ b,ap b→ap' b) (x:Fl ap C a fl h):Fl ap' C a fl h:=by
 obtain ⟨a0,oe,vs,T,oT,ts,h1,h2,h3,h4,h5,h6,h7,h8,h9,h10⟩:=x
 exact ⟨a0,oe,vs,T,oT,ts,h1,h2,h3,h4,h5,h6,h7,h8,f _ h9,f _ h10⟩
theorem Fl.exO {ap:Addr→Prop} {fl:Value} {h:Heap} (x:Fl ap C a fl h):ExO C a h:=by
 obtain ⟨a0,oe,vs,T,oT,ts,h1,h2,h3,_⟩:=x
 exact ⟨oe,vs,h1,h2.1,h3⟩
section
variable {M:Model} {A:Around} {E:Value→Shared→Prop} {Q:Unit→Shared→Prop} {ch:List Addr}
theorem Inv.hidFrames (I:Inv X pins σ H s):s.heap.FunFrames (PySem.W.hideAll s.heap (frs X.stack ++ ch)) X.stack :=
 PySem.W.funFrames_hide I.stack fun env he b hb=>List.mem_append_left _ (List.mem_filterMap.mpr ⟨env,he,hb⟩)
theorem Inv.flyTo (I:Inv X pins σ H s) (hch:∀ b ∈ ch,Apart X pins H b) (k1:(PySem.W.hideAll s.heap (frs X.stack ++ ch)).StaysIn h') (k4:∀ b o,s.heap.get? b = some o→(∀ vs,o.data ≠ .fields vs)→∃ sl,h'.get? b = some { o with slots:=sl }) :
  Inv X pins σ H { s with heap:=h' } :=
 I.flown (t':=s.toks) hch (fun b o hf hc e=>k1 b o (PySem.W.hideAll_get _ e fun z=>(List.mem_append.mp z).elim hf hc)) fun b o hb e=>by
  obtain ⟨_,o',ho',hd⟩:=I.stack.mem hb
  rw [e] at ho'; cases ho'
  exact k4 b o e hd
theorem Inv.flyT (I:Inv X pins σ H s) (hex:X.ex = []) (hch:∀ b ∈ ch,Apart X pins H b) {T:Addr} {oT:Obj} {ts:Array Value} (k4:∀ b o,s.heap.get? b = some o→(∀ vs,o.data ≠ .fields vs)→∃ sl,h'.get? b = some { o with slots:=sl })
  (hT:(PySem.W.hideAll s.heap (frs X.stack ++ ch)).get? T = none) (h1:h'.get? T = some oT) (h2:oT.data = .fields ts):Apart X pins H T:=by
 by_cases hc:T ∈ ch
 ·exact hch T hc
 by_cases hf:T ∈ frs X.stack
 ·obtain ⟨_,o',ho',hd⟩:=I.stack.mem hf
  obtain ⟨sl,e⟩:=k4 T o' ho' hd
  rw [h1] at e
  cases e
  exact absurd h2 (hd ts)
 have hn:s.heap.get? T = none:=by
  cases q:s.heap.get? T with
  | none=>rfl
  | some o =>
   have:=PySem.W.hideAll_get (frs X.stack ++ ch) q fun z=>(List.mem_append.mp z).elim hf hc
   rw [hT] at this; cases this
 exact I.apart hex hn (I.unheld hn)
theorem Zg2 (I:Inv X pins σ H s) (hex:X.ex = []) (hst:X.stack = X.env :: X.outer) (hf:X.env.frame = some X.env.locals) (hA:A.frames = some X.stack) (F:FlA (Apart X pins H) (rawInt X.env.locals) C a s.heap)
  (h:∀ s',Inv X pins σ H s'→Fl (Apart X pins H) C a (rawInt X.env.locals) s'.heap→Q () s'):wpAny M A (noteFrame (.ref a) X.env) Q E s:=by
 rcases F with F | F | F
 ·obtain ⟨a0,oe,vs,T,oT,ts,eA,cA,dA,v1,nT,eT,dT,t3,pA,pT⟩:=F
  have hch:∀ b ∈ [a,T],Apart X pins H b:=fun b hb=>by
   rcases List.mem_cons.mp hb with rfl | hb
   ·exact pA
   ·rw [List.mem_singleton.mp hb]; exact pT
  have hen:(PySem.W.hideAll s.heap (frs X.stack ++ [a,T])).get? a = none:=PySem.W.hideAll_none _ (List.mem_append_right _ (.head _))
  have hTn:(PySem.W.hideAll s.heap (frs X.stack ++ [a,T])).get? T = none:=PySem.W.hideAll_none _ (List.mem_append_right _ (.tail _ (.head _)))
  have fr:=I.hidFrames (ch:=[a,T])
  refine wpAny_noteFrame_onW (base:=PySem.W.hideAll s.heap (frs X.stack ++ [a,T])) (outer:=X.outer) (hA.trans (by rw [hst])) (hst ▸ fr) hf ⟨oe,vs,T,oT,ts,eA,cA,dA,v1,hTn,nT,eT,dT,t3⟩ (fun b o e=>PySem.W.of_hideAll _ e) hen fun h' hN=>?_
  obtain ⟨k1,_,⟨oe',vs',T',oT',ts',e1,e2,e3,e4,e5,e6,e7,e8,e9⟩,k4⟩:=hN
  exact h _ (I.flyTo hch k1 k4) ⟨a0,oe',vs',T',oT',ts',e1,e2,e3,e4,e6,e7,e8,e9,pA,I.flyT hex hch k4 e5 e7 e8⟩
 ·obtain ⟨a0,oe,vs,eA,cA,dA,v1,pA⟩:=F
  have hch:∀ b ∈ [a],Apart X pins H b:=fun b hb=>by rw [List.mem_singleton.mp hb]; exact pA
  have hen:(PySem.W.hideAll s.heap (frs X.stack ++ [a])).get? a = none:=PySem.W.hideAll_none _ (List.mem_append_right _ (.head _))
  have fr:=I.hidFrames (ch:=[a])
  unfold noteFrame
  simp only [hf]
  refine wpAny_bind (wpAny_field eA dA v1 ?_)
  rw [if_neg (by decide)]
  refine wpAny_entryW (base:=PySem.W.hideAll s.heap (frs X.stack ++ [a])) (outer:=X.outer) (hA.trans (by rw [hst])) (hst ▸ fr) hf eA (fun b o e=>PySem.W.of_hideAll _ e) hen dA (Array.getElem?_eq_some_iff.mp v1).1 cA.2 fun h' hN=>?_
  obtain ⟨k1,_,⟨oe',vs',T',oT',ts',e1,e2,e3,e4,e5,e6,e7,e8,e9⟩,k4⟩:=hN
  exact h _ (I.flyTo hch k1 k4) ⟨a0,oe',vs',T',oT',ts',e1,⟨e2.1.trans cA.1,e2.2⟩,e3,e4,e6,e7,e8,e9,pA,I.flyT hex hch k4 e5 e7 e8⟩
 ·have F':=F
  obtain ⟨a0,oe,vs,T,oT,ts,eA,cA,dA,v1,nT,eT,dT,t3,pA,pT⟩:=F
  unfold noteFrame
  simp only [hf]
  refine wpAny_bind (wpAny_field eA dA v1 ?_)
  rw [if_pos (by rfl)]
  refine wpAny_bind (wpAny_field eT dT t3 ?_)
  rw [if_pos (by simp)]
  exact wpAny_pure (h s I F')
theorem Zg3 (I:Inv X pins σ H s) (hex:X.ex = []) {fl:Value} (F:Fl (Apart X pins H) C a fl s.heap)
  (h:∀ s',Inv X pins σ H s'→Fl (Apart X pins H) C a .none s'.heap→Q () s'):wpAny M A (setFlight (.ref a) none) Q E s:=by
 obtain ⟨a0,oe,vs,T,oT,ts,eA,cA,dA,v1,nT,eT,dT,t3,pA,pT⟩:=F
 have hch:∀ b ∈ [a,T],Apart X pins H b:=fun b hb=>by
  rcases List.mem_cons.mp hb with rfl | hb
  ·exact pA
  ·rw [List.mem_singleton.mp hb]; exact pT
 have hTn:(PySem.W.hideAll s.heap (frs X.stack ++ [a,T])).get? T = none:=PySem.W.hideAll_none _ (List.mem_append_right _ (.tail _ (.head _)))
 refine wpAny_setFlight_noneW (base:=PySem.W.hideAll s.heap (frs X.stack ++ [a,T])) (l:=X.stack) (fun b o e=>PySem.W.of_hideAll _ e) I.hidFrames ⟨oe,vs,T,oT,ts,eA,cA,dA,v1,hTn,nT,eT,dT,t3⟩ fun h' k1 _ k3 k4'=>?_
 have k4:∀ b o,s.heap.get? b = some o→(∀ vs,o.data ≠ .fields vs)→∃ sl,h'.get? b = some { o with slots:=sl }:=fun b o e n=>⟨o.slots,k4' b o e n⟩
 obtain ⟨oe',vs',T',oT',ts',e1,e2,e3,e4,e5,e6,e7,e8,e9⟩:=k3
 exact h _ (I.flyTo hch k1 k4) ⟨a0,oe',vs',T',oT',ts',e1,e2,e3,e4,e6,e7,e8,e9,pA,I.flyT hex hch k4 e5 e7 e8⟩
theorem Zn9 (I:Inv X pins σ H s) (hex:X.ex = []) (hst:X.stack = X.env :: X.outer) (hf:X.env.frame = some X.env.locals) (hA:A.frames = some X.stack) (F:FlA (Apart X pins H) (rawInt X.env.locals) C a s.heap)
  (h:∀ s',Inv X pins σ H s'→Fl (Apart X pins H) C a .none s'.heap→Q () s'):wpAny M A (leaving X.env (.ref a)) Q E s:=by
 unfold leaving
 exact wpAny_bind (Zg2 I hex hst hf hA F fun s1 I1 F1=>Zg3 I1 hex F1 h)
end
end
end L2
namespace L2
open PySem PySem.Spec PyProof.Rows
noncomputable def Zjq (K:PySem.W.Frag) (C:Addr):Prop:=PySem.W.excIn K C [.type "ValueError", .type "Exception", .type "BaseException", .type "object"] "ValueError.__new__" = true
theorem Zng {K:PySem.W.Frag} {h:Heap} {C:Addr} {bmB:List Value} {newId:String} (X:K.In h) (q:PySem.W.excIn K C bmB newId = true) :
  ∃ bm N nm qn bs hdct sn sub ab col dd k0 k1 k2 k3 k5 mN,h.get? C = some (excClassObj nm qn C N bs bm hdct sn sub ab col dd k0 k1 k2 k3 k5 newId)∧h.Ns N mN∧mN "__init__" = none∧OwnTail h bmB bm:=by
 unfold PySem.W.excIn at q
 split at q
 case h_2=>cases q
 rename_i dd cd sl ho
 split at q
 case h_2=>cases q
 rename_i C' bm k0 k1 k2 k3 n k5 hm hs
 simp only [Bool.and_eq_true,beq_iff_eq,Bool.not_eq_true'] at q
 obtain ⟨⟨⟨⟨⟨rfl,rfl⟩,e1⟩,e2⟩,e3⟩,e4⟩:=q
 obtain ⟨nm,bs,mro,ns,qn,hd,sn,sub,ab,col,del⟩:=cd
 dsimp only at hm e1 e3 e4
 subst hm e1
 obtain ⟨l⟩:=sl
 have e5:l = [k0,k1,k2,k3,some (.builtin n),k5]:=hs
 subst e5
 exact ⟨bm,ns,nm,qn,bs,hd,sn,sub,ab,col,dd,k0,k1,k2,k3,k5,_,X _ _ ho,.of_isNs (PySem.W.isNs_of_in X e3),PySem.W.nsMap_none_of_in X e3 e4,PySem.W.tail_of_in X e2⟩
noncomputable abbrev MXt:=Zc→(Addr→Zc→Prop)→Prop
noncomputable def XW (X:Cx) (C:MC X.K) (io:List Nat) (pins:List (Addr × Obj)) (ex:Addr→Prop) (H:Hp) (fp:Fp) (k:Addr→Zc→Prop) (e:Value) (s':Shared):Prop :=
 ∃ a cl σ' H' δ' fp',e = .ref a∧Inv X pins σ' H' s'∧FlA (Apart X pins H') (rawInt X.env.locals) cl a s'.heap∧Rel C io H' σ' δ' fp' ex∧Kp H fp H' fp'∧k cl δ'
noncomputable def XE (X:Cx) (io:List Nat) (e:Expr) (m:MXt):Prop:=∀ (C:MC X.K) (pins:List (Addr × Obj)) (s:Shared) (σ:St) (H:Hp) (δ:Zc) (fp:Fp) (ex:Addr→Prop) (k:Addr→Zc→Prop),Inv X pins σ H s→Rel C io H σ δ fp ex→m δ k →
 wpAny (model X.prog X.w) X.A (eval e X.env) (fun _ _=>False) (XW X C io pins ex H fp k) s
noncomputable def XS (X:Cx) (io:List Nat) (st:Stmt) (m:MXt):Prop:=∀ (C:MC X.K) (pins:List (Addr × Obj)) (s:Shared) (σ:St) (H:Hp) (δ:Zc) (fp:Fp) (ex:Addr→Prop) (k:Addr→Zc→Prop),Inv X pins σ H s→Rel C io H σ δ fp ex→m δ k →
 wpAny (model X.prog X.w) X.A (exec st X.env) (fun _ _=>False) (XW X C io pins ex H fp k) s
noncomputable def XSs (X:Cx) (io:List Nat) (sts:List Stmt) (m:MXt):Prop:=∀ (C:MC X.K) (pins:List (Addr × Obj)) (s:Shared) (σ:St) (H:Hp) (δ:Zc) (fp:Fp) (ex:Addr→Prop) (k:Addr→Zc→Prop),Inv X pins σ H s→Rel C io H σ δ fp ex→m δ k →
 wpAny (model X.prog X.w) X.A (execs sts X.env) (fun _ _=>False) (XW X C io pins ex H fp k) s
theorem XW.shift {X:Cx} {C:MC X.K} {io:List Nat} {pins:List (Addr × Obj)} {ex:Addr→Prop} {H H1:Hp} {fp fp1:Fp} {k:Addr→Zc→Prop} {e:Value} {s:Shared} (q:Kp H fp H1 fp1) (h:XW X C io pins ex H1 fp1 k e s):XW X C io pins ex H fp k e s:=by
 obtain ⟨a,cl,σ',H',δ',fp',e,I,F,R,K,hk⟩:=h
 exact ⟨a,cl,σ',H',δ',fp',e,I,F,R,q.trans K,hk⟩
noncomputable def Zom:MXt:=fun _ _=>False
noncomputable def Z4v (u:MSt) (w:MXt):MXt:=fun δ k=>u { nx:=fun δ'=>w δ' k,rt:=fun _ _=>False } δ
noncomputable def Z7u (t:MTt) (u w:MXt):MXt:=fun δ k=>t δ fun b δ'=>if b = true then u δ' k else w δ' k
noncomputable def Zo5 (cl:Addr):MXt:=fun δ k=>k cl δ
section
variable {X:Cx} {io:List Nat} {p c:Bool} {e:Expr} {es:List Expr} {mr:MAt} {m:MXt} {pos:Pos} {st:Stmt} {sts a b:List Stmt} {u:MSt} {w v:MXt} {mt:MTt} {i:Nat} {x:Str}
theorem Znq:XSs X io sts Zom:=fun _ _ _ _ _ _ _ _ _ _ _ h=>h.elim
theorem Zq5:XS X io st Zom:=fun _ _ _ _ _ _ _ _ _ _ _ h=>h.elim
theorem Zkf (h:XS X io st w):XSs X io (st :: sts) w:=fun C pins s σ H δ fp ex k I R hm=>wpAny_execs_cons (thn (h C pins s σ H δ fp ex k I R hm) fun _ _ z=>z.elim)
theorem Zrp (h:MS X io st u) (g:XSs X io sts w) (hx:X.xe = fun _ _=>False:=by rfl):XSs X io (st :: sts) (Z4v u w):=by
 obtain ⟨t,A,sS⟩:=h
 intro C pins s σ H δ fp ex k I R hm
 refine wpAny_execs_cons (wpAny_mono (A pins s σ H { nx:=fun σ1 H1=>∃ δ1 fp1,Rel C io H1 σ1 δ1 fp1 ex∧Kp H fp H1 fp1∧w δ1 k,rt:=fun _ _=>False } I
  (sS C H σ δ fp ex _ _ R hm ⟨fun H' σ' δ' fp' R' k' h'=>⟨δ',fp',R',k',h'⟩,fun _ _ _ _ _ _ z=>z.elim,fun _ _ _ _ _ _ z=>z.elim,fun _ _ _ _ _ _ _ _ _ _ _ z=>z.elim⟩)) (fun f s1 q=>?_) fun e s1 q=>by rw [hx] at q; exact q.elim)
 cases f with
 | next =>
  obtain ⟨σ1,H1,I1,δ1,fp1,R1,k1,h1⟩:=q
  exact wpAny_mono (g C pins s1 σ1 H1 δ1 fp1 ex k I1 R1 h1) (fun _ _ z=>z) fun e s2 z=>z.shift k1
 | ret v=>obtain ⟨_,_,_,_,_,z⟩:=q; exact z.elim
 | brk=>obtain ⟨_,_,_,z⟩:=q; exact z.elim
 | cont=>obtain ⟨_,_,_,z⟩:=q; exact z.elim
theorem Zl1 (ht:MT X io p e mt) (ha:XSs X io a w) (hb:XSs X io b v) (hx:X.xe = fun _ _=>False:=by rfl):XS X io (.If e a b pos) (Z7u mt w v):=by
 obtain ⟨t,A,sT⟩:=ht
 intro C pins s σ H δ fp ex k I R hm
 refine wpAny_If (wpAny_mono (A pins s σ H (fun r H1=>∃ δ1 fp1,Rel C io H1 σ δ1 fp1 ex∧Kp H fp H1 fp1∧if r = true then w δ1 k else v δ1 k) I
  (sT C H σ δ fp ex _ _ R hm fun H' r δ' fp' R' S' h'=>⟨δ',fp',R',S'.kp,h'⟩)) (fun r s1 q=>?_) fun e s1 q=>by rw [hx] at q; exact q.elim)
 obtain ⟨H1,I1,δ1,fp1,R1,k1,h1⟩:=q
 cases r with
 | true=>exact wpAny_mono (ha C pins s1 σ H1 δ1 fp1 ex k I1 R1 h1) (fun _ _ z=>z) fun e s2 z=>z.shift k1
 | false=>exact wpAny_mono (hb C pins s1 σ H1 δ1 fp1 ex k I1 R1 h1) (fun _ _ z=>z) fun e s2 z=>z.shift k1
theorem Zhf (he:XE X io e m) (hs:swapsWith e none pos.line X.env = pure false:=by rfl):XS X io (.Expr e pos) m:=fun C pins s σ H δ fp ex k I R hm =>
 wpAny_Expr_any (thn (he C pins s σ H δ fp ex k I R hm) fun _ _ z=>z.elim) I.quiet hs
theorem Z1e {pos':Pos} (he:XE X io e m) (hs:swapsWith e (some (.Name x pos')) pos.line X.env = pure false:=by rfl):XS X io (.Assign [.Name x pos'] e pos) m:=fun C pins s σ H δ fp ex k I R hm =>
 wpAny_Assign_Name (thn (he C pins s σ H δ fp ex k I R hm) fun _ _ z=>z.elim) hs
theorem Zbl {C:Addr} {x j:Str} {jk:Nat} {np cpos pos kp:Pos} (hex:X.ex = []) (hh:X.A.handled = none) (hg:Gl X x) (hm:X.mg x = some (.ref C)) (q:Zjq X.K C) (hd:(x == ("__debug__" : Str)) = false:=by decide) :
  XS X io (.Raise (some (.Call (.Name x np) [.Constant (.str j) jk kp] [] cpos)) none pos) (Zo5 C):=by
 intro M pins s σ H δ fp ex k I R hk
 obtain ⟨tl,N,nm,qn,bs,hdct,sn,sub,ab,col,dd,k0,k1,k2,k3,k5,mN,hC,hN,hni,TL⟩:=Zng I.ok.mod.kin q
 refine wpAny_Raise_call_subT (C:=C) (nm:=nm) (q:=qn) (N:=N) (bs:=bs) (bm:=tl) (hdct:=hdct) (sn:=sn) (sub:=sub) (ab:=ab) (col:=col) (dd:=dd) (k0:=k0) (k1:=k1) (k2:=k2) (k3:=k3) (k5:=k5)
  PySem.F.excBase_ValueError (mN:=mN) (TL.hasType PySem.F.excBase_ValueError.hasBase) hh rfl hni (Ze3 I hg hm ⟨rfl,?_⟩ hd)
 refine Calls.evalArgs_plain ?_
 refine Calls.spliced_cons ?_
 show wpAny _ _ (eval (.Constant (.str j) jk kp) X.env) _ _ _
 refine Calls.Constant_str ?_
 refine Calls.spliced_nil ?_
 have I1:=I.tok (s.toks + 1)
 refine ⟨rfl,by show 1 ≤ sizeLine; decide,I1.bk _ _ hC,hN.keeps I1.bk,TL.keeps I1.bk,fun h' e hx=>?_⟩
 obtain ⟨t,e1,_,_⟩:=hx.there
 have I2:=I1.kept (t':=s.toks + 1) hx.keeps
 exact ⟨e,C,σ,H,δ,fp,rfl,I2,.inr (.inl ⟨_,_,_,e1,⟨rfl,rfl⟩,rfl,rfl,I1.apart hex hx.new (I1.unheld hx.new)⟩),R,.refl _ _,hk⟩
end
end L2
namespace L2
open PySem PySem.Spec PyProof.Rows
noncomputable def CX1 (P:Program) (w:World):CXT:=fun outer H s E e s'=>∃ a C H',e = .ref a∧s'.os = s.os∧AllBare s'.gens∧Un (frs outer) [] H H' s.heap s'.heap∧HOk P w H' s'.heap∧Fl (fun b=>H' b = none∧s.heap.get? b = none) C a .none s'.heap∧E (.ref C) none H'
noncomputable def spX (G:PySem.W.Frag) (S:List PyData→Addr→Prop):Sp:=fun vs H Q E=>∃ L ds cl,Das G H L vs ds∧S ds cl∧∀ H',Same H H'→E (.ref cl) none H'
section
variable {P:Program} {w:World} {K:PySem.W.Frag} {mg:Str→Option Value} {base:Heap}
theorem Fun.okX {x qual:Str} {st:Stmt} {f:Addr} {fd:FuncData} {N ps:List Str} {n:Nat} {S:List PyData→Addr→Prop} (F:Fun K x qual st f fd) (Sc:Zw N ps (Zg st)) (len:∀ ds cl,S ds cl→ds.length = ps.length)
  (hbody:∀ (cdv:Value) (A:Around) (outer:List Env) (s:Shared) (H:Hp) (E:XK),Room n (A.deeper (envOfC qual (Zg st) s.heap.objs.size f cdv)) →
   ∃ m,XSs (Zp6 (CX1 P w) P w K mg base N qual (Zg st) f cdv A outer s H E).nox [] (Zo st) m∧∀ ds cl,S ds cl→m (Zft N ds) (fun c _=>c = cl)):FnOk P w K mg base (CX1 P w) (n + 1) f fd ps (spX K S):=by
 obtain ⟨oc,od,kV,doc,pm,an,cdv,ct,osl,rfl,lk,hcd⟩:=F.ex
 refine Zzu lk hcd Sc (fun vs H Q E h=>?_) fun A outer s H vs Q E hr hsp=>?_
 ·obtain ⟨L,ds,cl,h1,h2,_⟩:=h
  rw [h1.length]
  exact len ds cl h2
 obtain ⟨L,ds,cl,h1,h2,h3⟩:=hsp
 obtain ⟨m,hX,q⟩:=hbody cdv A outer s H E hr
 refine ⟨fun _ σ' H'=>σ' = start N vs∧H' = H,fun pins s1 σ1 H1 D I e=>?_,rfl,rfl⟩
 obtain ⟨rfl,rfl⟩:=e
 refine wpAny_mono (hX ⟨H1,fun _=>False,L,start N vs⟩ pins s1 _ _ _ _ _ (fun c _=>c = cl) (I.wish _) (Rel.entry h1) (q ds cl h2)) (fun _ _ z=>z.elim) fun e s' z=>?_
 obtain ⟨a,cl',σ',H',δ',fp',rfl,I',F',R',K',rfl⟩:=z
 exact Zn9 I' rfl rfl rfl I'.ok.frames F' fun s'' J FF=>⟨a,cl',H',rfl,J.os,J.bare,J.base,J.hok,FF.imp fun b ap=>⟨ap.fr,ap.new⟩,h3 H' fun b o e=>R'.fr b o e id⟩
end
theorem Rel.grown {G:PySem.W.Frag} {C:MC G} {io:List Nat} {H H':Hp} {σ:St} {δ:Zc} {fp:Fp} {ex:Addr→Prop} (R:Rel C io H σ δ fp ex) (s:Same H H'):Rel C io H' σ δ fp ex :=
 (R.made (new:=[]) s (fun a m=>nomatch m)).drop fun a z=>.inl z
noncomputable def Zta (S:List PyData→Addr→Prop) (mr:MAt):MXt:=fun δ k=>mr δ fun rs δ1=>∃ cl,S (OT.datas rs) cl∧k cl δ1
section
variable {X:Cx} {io:List Nat} {p c:Bool} {e:Expr} {es:List Expr} {mr:MAt} {pos pp:Pos} {k:Nat} {f:Addr} {fd:FuncData} {ps:List Str} {x:Str}
theorem Zea {S} (F:FnOk X.prog X.w X.K X.mg X.base (CX1 X.prog X.w) k f fd ps (spX X.K S)) (hr:Room k X.A) (hg:Gl X x) (hm:X.mg x = some (.ref f)) (hk:PySem.W.keepIn X.K (.ref f) = true) (hb:Binds X.K fd ps [])
  (ha:MA X io p c (e :: es) mr) (hex:X.ex = []:=by rfl) (hx:X.xe = fun _ _=>False:=by rfl) (hdb:(x == ("__debug__" : Str)) = false:=by decide) (he:starEach (e :: es) X.env = (false,eval e X.env) :: starEach es X.env:=by rfl) (hpl:(backTo pos (starEach es X.env)).any (·.1) = false:=by rfl) :
  XE X io (.Call (.Name x pp) (e :: es) [] pos) (Zta S mr):=by
 obtain ⟨t,A,sA⟩:=ha
 intro C pins s σ H δ fp ex kk I R hm'
 refine wpAny_Call_Name_kw (Ze3 I hg hm ?_ hdb)
 refine PySem.W.callWith_K (h₀:=X.base) I.ok.mod.kin hk (wpAny_mono (A pos pins s σ H (fun vs H1=>∃ δ1 fp1 L ds cl,Rel C io H1 σ δ1 fp1 ex∧Kp H fp H1 fp1∧Das X.K H1 L vs ds∧S ds cl∧kk cl δ1) I
  (sA C H σ δ fp ex _ _ R hm' fun H1 vs rs δ1 fp1 new r1 h1=>let ⟨cl,h2,h3⟩:=h1; ⟨δ1,fp1,_,_,cl,r1.base,r1.stp.kp,r1.das R,h2,h3⟩)) (fun us s1 ⟨vs,H1,I1,r,q⟩=>⟨I1.kIn,?_⟩) fun e s1 z=>by rw [hx] at z; exact z.elim) he hpl
 obtain ⟨δ1,fp1,L,ds,cl,R1,k1,hd,hS,hkk⟩:=q
 have hsp:spX X.K S vs H1 (fun _ _=>False) (fun c _ H'=>c = .ref cl∧Same H1 H'):=⟨L,ds,cl,hd,hS,fun H' s=>⟨rfl,s⟩⟩
 have hl:(us ++ []).length = ps.length:=by rw [List.append_nil,← r.length]; exact F.len _ _ _ _ hsp
 have hB:=hb s1 us I1.kIn hl
 rw [List.append_nil] at hB
 refine wpAny_call (codeAny_mono (F.run X.A X.stack s1 H1 ⟨us,[]⟩ us vs _ _ hr I1.env0 hB r hsp) fun res s' hq=>?_)
 cases res with
 | error e =>
  obtain ⟨a,C',H',rfl,ho,bare,un,hok,FF,eC,same⟩:=hq
  cases eC
  have J:=I1.call' (ch:=[]) ho un hok bare fun b z=>nomatch z
  exact ⟨a,cl,σ,H',δ1,fp1,rfl,J,.inl (FF.imp fun b z=>I1.apart hex z.2 z.1),R1.grown same,k1.trans (Stp.same same same.al),hkk⟩
 | ok fl =>
  cases fl with
  | ret u=>obtain ⟨_,_,_,_,_,_,_,z⟩:=hq; exact z.elim
  | next=>exact False.elim hq
  | brk=>exact False.elim hq
  | cont=>exact False.elim hq
end
section
variable {X:Cx} {pins:List (Addr × Obj)} {σ:St} {H:Hp} {s:Shared} {a C:Addr}
theorem Inv.track (I:Inv X pins σ H s) (A:Apart X pins H a) {φ:Heap→Prop} (h1:φ s.heap) (h2:∃ o,s.heap.get? a = some o) (h3:∀ g1 g2:Heap,φ g1→(∀ o,g1.get? a = some o→g2.get? a = some o)→φ g2):Inv X pins σ (upd H a (.ext φ)) s:=by
 have ne:∀ b u,H b = some u→b ≠ a:=fun b u e=>Z7 e A.fr
 refine ⟨I.ok,I.os,I.bare,⟨I.base.keep,I.base.slot,fun b o e n hx=>?_,I.base.there,fun b xs e=>?_,fun b o u e=>?_,fun b ps e=>?_⟩,I.loc,I.cell,?_,fun x c e=>?_,fun p hp=>?_,fun b u e=>?_,I.len⟩
 ·rw [Zj (fun z=>by rw [z,A.new] at e; cases e)]; exact I.base.free b o e n hx
 ·have:=I.base.tups b xs e; rw [Zj (ne _ _ this)]; exact this
 ·have:=I.base.frzs b o u e; rw [Zj (ne _ _ this)]; exact this
 ·obtain ⟨m,q⟩:=I.base.tbls b ps e; exact ⟨m,by rw [Zj (ne _ _ q)]; exact q⟩
 ·rw [Zj (Ne.symm A.loc)]; exact I.free
 ·rw [Zj (A.cel x c e)]; exact I.freeC x c e
 ·obtain ⟨e,n,r⟩:=I.pin p hp
  exact ⟨e,by rw [Zj (A.pin p hp)]; exact n,r⟩
 ·by_cases hb:b = a
  ·subst hb; rw [Zm] at e; cases e; exact ⟨h1,h2,h3⟩
  ·rw [Zj hb] at e
   exact (I.hok b u e).stay (fun c v _ q=>q) (fun c q=>by rw [Zj (ne _ _ q)]; exact q) fun c xs q=>by rw [Zj (ne _ _ q)]; exact q
noncomputable abbrev Cx.suite (X:Cx) (a:Addr):Cx:={ X with A:=X.A.mark (some (.ref a)),calm:=false }
theorem Inv.suite (I:Inv X pins σ H s) (a:Addr):Inv (X.suite a) pins σ H s :=
 ⟨⟨I.ok.mod,I.ok.kind,I.ok.glob,I.ok.blt,I.ok.above,I.ok.inj,I.ok.has,I.ok.cab,fun z=>(nomatch z),I.ok.frames,I.ok.stk,I.ok.exf,I.ok.bs,I.ok.bsz,I.ok.noex,I.ok.exfs,I.ok.funs,I.ok.frf⟩,I.os,I.bare,I.base,I.loc,I.cell,I.free,I.freeC,I.pin,I.hok,I.len⟩
theorem Inv.unsuite (ok:X.Ok) (I:Inv (X.suite a) pins σ H s):Inv X pins σ H s:=⟨ok,I.os,I.bare,I.base,I.loc,I.cell,I.free,I.freeC,I.pin,I.hok,I.len⟩
theorem name_goes {M:Model} {A:Around} {E:Value→Shared→Prop} {i:Nat} {x:Str} {pos:Pos} {Q:Unit→Shared→Prop} (I:Inv X pins σ H s) (hN:X.N.Nodup) (hi:X.N[i]? = some x) (hk:X.env.scope.names.lookup x = some .local)
  (h:∀ s',Inv X pins (σ.set i none) H s'→Q () s'):wpAny M A (do bindName X.env x .none; unbindBehindTheSuite X.env x pos) Q E s:=by
 obtain ⟨m,hn,hl⟩:=id I.loc
 have hcls:(X.env.scope.kind == .class || (X.env.scope.kind == .module && X.env.locals != X.env.globals)) = false:=by rw [I.ok.kind]; rfl
 refine wpAny_nameGoes_keeps hk hn hcls fun h' u hn' hs=>?_
 obtain ⟨oL,_,_,hoL,_⟩:=id hn
 have neL:∀ b o,X.s₀.heap.get? b = some o→b ≠ X.env.locals:=fun b o e=>Nat.ne_of_lt (Nat.lt_of_lt_of_le (Heap.lt_size e) I.ok.above)
 refine h _ ⟨I.ok,I.os,I.bare,⟨fun b o e n hb hx=>?_,fun b o e n hb hx=>?_,I.base.free,fun b o e hx=>?_,I.base.tups,I.base.frzs,I.base.tbls⟩,⟨_,hn',fun j y v' e1 e2 e3=>?_⟩,fun y c e=>?_,I.free,I.freeC,fun p hp=>?_,fun b ob e=>?_,by simpa using I.len⟩
 ·exact (hs.2 b (neL b o e)).trans (I.base.keep b o e n hb hx)
 ·obtain ⟨sl,e1⟩:=I.base.slot b o e n hb hx
  exact ⟨sl,(hs.2 b (neL b o e)).trans e1⟩
 ·obtain ⟨o',e1⟩:=I.base.there b o e hx
  exact ⟨o',(hs.2 b (neL b o e)).trans e1⟩
 ·by_cases hj:j = i
  ·subst hj
   have:j < σ.length:=by
    have z:=(List.getElem?_eq_some_iff.mp e2).1
    simpa using z
   rw [List.getElem?_set_self this] at e2
   cases e2
  ·rw [List.getElem?_set_ne (Ne.symm hj)] at e2
   obtain ⟨u',r',q⟩:=hl j y v' e1 e2 e3
   refine ⟨u',r',?_⟩
   rcases q with ⟨k,e⟩ | ⟨k,c,e,z⟩
   ·refine .inl ⟨k,?_⟩
    have:y ≠ x:=fun e=>hj (Zgg hN e1 (e ▸ hi))
    simp [this,e]
   ·exact .inr ⟨k,c,e,z.sameBut hs (I.cne y c e)⟩
 ·obtain ⟨w',z⟩:=I.cell y c e
  exact ⟨w',z.sameBut hs (I.cne y c e)⟩
 ·obtain ⟨e,n,ne,nf,d⟩:=I.pin p hp
  exact ⟨(hs.2 p.1 ne).trans e,n,ne,nf,d⟩
 ·refine (I.hok b ob e).stay (fun c w' hc q=>(hs.2 c ?_).trans q) (fun _ q=>q) fun _ _ q=>q
  rintro rfl
  rcases hc with rfl | hc
  ·rw [I.free] at e; cases e
  ·rw [I.free] at hc; cases hc
end
theorem Rel.forget {G:PySem.W.Frag} {C:MC G} {io:List Nat} {H:Hp} {σ:St} {δ:Zc} {fp:Fp} {ex:Addr→Prop} {i:Nat} (R:Rel C io H σ δ fp ex) (hio:i ∉ io):∃ fp',Rel C io H (σ.set i none) (δ.set i none) fp' ex∧Kp H fp H fp':=by
 have get:∀ j (t':OT),(δ.set i none)[j]? = some (some t')→j ≠ i∧δ[j]? = some (some t'):=fun j t' e=>by
  by_cases ej:j = i
  ·subst ej
   have hl:j < δ.length:=by simpa using (List.getElem?_eq_some_iff.mp e).1
   rw [List.getElem?_set_self hl] at e; cases e
  ·rw [List.getElem?_set_ne (Ne.symm ej)] at e; exact ⟨ej,e⟩
 have sub:∀ j a,a ∈ fpu fp i [] j→j ≠ i∧a ∈ fp j:=fun j a m=>by
  by_cases ej:j = i
  ·subst ej; rw [Zu] at m; exact nomatch m
  ·rw [Z9 ej] at m; exact ⟨ej,m⟩
 have lw:∀ a,Lf C fp ex a→Lf C (fpu fp i []) ex a:=fun a l=>⟨fun ⟨j,z⟩=>l.1 ⟨j,(sub j a z).2⟩,l.2⟩
 refine ⟨fpu fp i [],⟨by rw [List.length_set,List.length_set]; exact R.len,fun j t' e=>?_,fun j h=>?_,fun j=>?_,fun j k a h1 h2=>R.dj j k a (sub j a h1).2 (sub k a h2).2,fun j a h z=>R.dx j a (sub j a h).2 z,R.xa,R.fr,R.al,fun j a h=>R.new j a (sub j a h).2,fun j h=>?_⟩,fun b o e _=>e,fun z=>(nomatch z),fun a ⟨j,z⟩=>.inl ⟨j,(sub j a z).2⟩,fun b e=>e⟩
 ·obtain ⟨ej,e⟩:=get j t' e
  obtain ⟨w,e1,o⟩:=R.own j t' e
  exact ⟨w,by rw [List.getElem?_set_ne (Ne.symm ej)]; exact e1,by rw [Z9 ej]; exact o.wide fun a l _=>lw a l⟩
 ·by_cases ej:j = i
  ·subst ej; rw [Zu]
  ·rw [Z9 ej]
   exact R.emp j fun t' z=>h t' (by rw [List.getElem?_set_ne (Ne.symm ej)]; exact z)
 ·by_cases ej:j = i
  ·subst ej; rw [Zu]; exact .nil
  ·rw [Z9 ej]; exact R.nd j
 ·rw [List.getElem?_set_ne (fun z=>hio (by rw [z]; exact h))]; exact R.io j h
end L2
namespace L2
open PySem PySem.Spec PyProof.Rows
theorem Zrs {K:PySem.W.Frag} {M:Model} {A:Around} {E:Value→Shared→Prop} {h:Heap} {g:Array GenState} {d:Drawn} {t:Nat} {os:OsState} {e C D:Addr} {oe:Obj} {Q:Bool→Shared→Prop} (X:K.In h) (q:Zjq K D)
  (hs:PySem.W.subIn K (.ref C) (.ref D) = some true) (he:h.get? e = some oe) (hc:oe.cls = .ref C) (hQ:Q true ⟨h,g,d,t,os⟩):wpAny M A (excMatches (.ref e) (.ref D)) Q E ⟨h,g,d,t,os⟩:=by
 obtain ⟨bm,N,nm,qn,bs,hdct,sn,sub,ab,col,dd,k0,k1,k2,k3,k5,mN,hC,hN,hni,TL⟩:=Zng X q
 have L:=PySem.W.looks_subIn (M:=M) X hs
 have f:=tc_notTuple
 have hB:(Value.ref D :: bm).contains (.type "BaseException") = true:=by rw [List.contains_cons,TL.hasType PySem.F.excBase_ValueError.hasBase,Bool.or_true]
 unfold excMatches
 repeat (first | (with_reducible refine wpAny_loadPart_at he ?_; rw [hc]) | with_reducible refine wpAny_loadPart_at hC ?_ | (with_reducible refine wpAny_bind (PySem.W.Looks.at L ?_)) | (with_reducible refine PySem.W.Looks.at L ?_) | (with_reducible refine wpAny_isSubtype_exc hC ?_; rw [hB]) | wp_step)
 exact hQ
noncomputable def Z40 (G:PySem.W.Frag) (Dc:Addr) (i:Nat) (u:MSt) (x:MXt) (h:MSt):MSt:=fun D δ=>u D δ∨x δ fun cl δ'=>∃ xn,ClsAt G xn cl∧(Zcc G cl∧PySem.W.subIn G (.ref cl) (.ref Dc) = some true) ∧
 h { nx:=fun δ2=>D.nx (δ2.set i none),rt:=fun _ _=>False } (δ'.set i (some (.fz (exD xn))))
section
variable {X:Cx} {io:List Nat} {i:Nat} {n y:Str} {Dc:Addr} {b₀:Stmt} {body suite:List Stmt} {pos hpos np:Pos} {u h:MSt} {x:MXt}
theorem Z0m (hN:X.N.Nodup) (hi:X.N[i]? = some n) (hk:X.env.scope.names.lookup n = some .local) (hg:Gl X y) (hm:X.mg y = some (.ref Dc)) (q:Zjq X.K Dc) (hb:MSs X io body u) (hbx:XSs X io body x) (hs:∀ a,MSs (X.suite a) io (b₀ :: suite) h)
  (hio:i ∉ io:=by decide) (hex:X.ex = []:=by rfl) (hst:X.stack = X.env :: X.outer:=by rfl) (hf:X.env.frame = some X.env.locals:=by rfl) (hx:X.xe = fun _ _=>False:=by rfl) (hdb:(y == ("__debug__" : Str)) = false:=by decide) :
  MS X io (.Try body [.ExceptHandler (some (.Name y np)) (some n) (b₀ :: suite) hpos] [] [] pos) (Z40 X.K Dc i u x h):=by
 refine ⟨fun D' σ H=>∃ (C:MC X.K) (δ:Zc) (fp:Fp) (ex:Addr→Prop) (D:Zcz),Rel C io H σ δ fp ex∧Z40 X.K Dc i u x h D δ∧RelEnds C io ex H fp D D',?_,fun C H σ δ fp ex D D' R hm E=>⟨C,δ,fp,ex,D,R,hm,E⟩⟩
 intro pins s σ H D' I hq
 obtain ⟨C,δ,fp,ex,D,R,hm',EE⟩:=hq
 rcases hm' with hu | hr
 ·obtain ⟨tb,Ab,sb⟩:=hb
  refine wpAny_Try_except (wpAny_mono (Ab pins s σ H D' I (sb C H σ δ fp ex D D' R hu EE)) (fun f s1 z=>?_) fun e s1 z=>by rw [hx] at z; exact z.elim)
  cases f with
  | next=>exact wpAny_execs_nil z
  | ret v=>exact z
  | brk=>exact z
  | cont=>exact z
 refine wpAny_Try_except (wpAny_mono (hbx C pins s σ H δ fp ex _ I R hr) (fun _ _ z=>z.elim) fun e s1 z=>?_)
 obtain ⟨a,cl,σ1,H1,δ1,fp1,rfl,I1,F1,R1,K1,xn,hxn,⟨Z,hsub⟩,hh⟩:=z
 refine Zg2 I1 hex hst hf I1.ok.frames F1 fun s2 I2 F2=>Zg3 I2 hex F2 fun s3 I3 F3=>?_
 refine wpAny_handleBy_cons (codeAny_handlers_test (Ze3 (X:=X.suite a) (I3.suite a) hg hm ?_ hdb)) (by intro z; cases z)
 obtain ⟨oe,vs,e1,e2,e3⟩:=F3.exO
 have KI:=I3.kIn
 obtain ⟨g3,gg3,d3,t3,os3⟩:=s3
 refine Zrs KI q hsub e1 e2 (codeAny_handlers_suite_as ?_)
 refine Zg3 I3 hex F3 fun s4 I4 F4=>?_
 have ap:Apart X pins H1 a:=by obtain ⟨_,_,_,_,_,_,_,_,_,_,_,_,_,_,z,_⟩:=F4; exact z
 have x4:=F4.exO
 have I5:Inv X pins σ1 (upd H1 a (.ext (ExO cl a))) s4:=I4.track ap x4 (let ⟨o,_,e,_⟩:=x4; ⟨o,e⟩) fun g1 g2 ⟨o,vs,z1,z2⟩ k=>⟨o,vs,k o z1,z2⟩
 have sm:Same H1 (upd H1 a (.ext (ExO cl a))):=Z2 ap.fr _
 have R5:=R1.grown sm
 obtain ⟨fp2,R6,K6⟩:=RE.put (p:=true) (RE.fz (c:=true) R5 (Stp.refl true _ _ _) (.exc Z hxn Zm)) R5 hio
 refine Zgr (X:=X.suite a) (v:=.ref a) (I5.suite a) hN hi (.inl hk) rfl (fun s5 I6=>?_) (.inr hk)
 obtain ⟨ts,As,ss⟩:=hs a
 refine wpAny_mono (As pins s5 _ _ { nx:=fun σ' H'=>∃ δ' fp',Rel C io H' σ' δ' fp' ex∧Kp (upd H1 a (.ext (ExO cl a))) fp2 H' fp'∧D.nx (δ'.set i none),rt:=fun _ _=>False } I6
  (ss C _ _ _ fp2 ex _ _ R6 hh ⟨fun H' σ' δ' fp' R' k' h'=>⟨δ',fp',R',k',h'⟩,fun _ _ _ _ _ _ z=>z.elim,fun _ _ _ _ _ _ z=>z.elim,fun _ _ _ _ _ _ _ _ _ _ _ z=>z.elim⟩)) (fun f s6 z=>?_) fun e s6 z=>by
   have z':X.xe e s6:=z
   rw [hx] at z'
   exact z'.elim
 cases f with
 | next =>
  obtain ⟨σ7,H7,I7,δ7,fp7,R7,K7,h7⟩:=z
  obtain ⟨fp8,R8,K8⟩:=R7.forget hio
  exact name_goes (I7.unsuite I4.ok) hN hi hk fun s8 I8=>⟨_,_,I8,EE.nx H7 _ _ fp8 R8 (K1.trans ((Stp.same sm sm.al:Kp H1 fp1 _ fp1).trans (K6.trans (K7.trans K8)))) h7⟩
 | ret v=>obtain ⟨_,_,_,_,_,w⟩:=z; exact w.elim
 | brk=>obtain ⟨_,_,_,w⟩:=z; exact w.elim
 | cont=>obtain ⟨_,_,_,w⟩:=z; exact w.elim
end
end L2
namespace L2
open PySem PySem.Spec PyProof.Rows
theorem Zs5 (b:Bool) (k:Bool→Prop):asB (.bool b) k = k b:=rfl
theorem Da.exInv {G:PySem.W.Frag} {H:Hp} {L:Addr→Prop} {v:V} {x:Str} (q:Da G H L v (exD x)):∃ a C,v = .ref a∧Zcc G C∧ClsAt G x C∧H a = some (.ext (ExO C a)):=by
 generalize e:exD x = d at q
 cases q with
 | exc Z n h =>
  have e':=e
  unfold exD at e'
  injection e' with e'
  injection e' with e' _
  injection e' with e' _
  injection e' with e'
  subst e'
  exact ⟨_,_,rfl,Z,n,h⟩
 | _=>unfold exD at e; cases e
inductive ClsV:V→Value→Prop where
 | own (D:Addr):ClsV (.ref D) (.ref D)
 | ty (T:String):ClsV (.ty T) (.type T)
theorem ClsV.val {v:V} {c u:Value} (h:ClsV v c) (r:RelV v u):u = c:=by
 cases h with
 | own D=>exact r
 | ty T=>exact r
inductive ClsVs:List V→List Value→Prop where
 | nil:ClsVs [] []
 | cons {v:V} {c:Value} {vs:List V} {cs:List Value}:ClsV v c→ClsVs vs cs→ClsVs (v :: vs) (c :: cs)
theorem ClsVs.length:∀ {vs:List V} {cs:List Value},ClsVs vs cs→vs.length = cs.length
 | _,_,.nil=>rfl
 | _,_,.cons _ t=>by simp [t.length]
noncomputable def Z4r (G:PySem.W.Frag):List V→Hp→VK→Prop:=fun xs H Q=>∃ a C v c b,xs = [.ref a,v]∧Zcc G C∧H a = some (.ext (ExO C a))∧ClsV v c∧PySem.W.kitOne G (.ref C) c = some b∧Q (.bl b) H
theorem Znf {X:Cx}:Zcn X (.builtin "isinstance") (Z4r X.K):=by
 intro pins s σ H xs us Q I r h
 obtain ⟨a,C,v,c,b,rfl,Z,e,hc,hb,h⟩:=h
 obtain ⟨u,w',rfl,r1,r2⟩:=vals2 r
 cases (show u = Value.ref a from r1)
 rw [hc.val r2]
 obtain ⟨⟨o,vs,ho,hcl,_⟩,_,_⟩:=(show ObjOk X.prog X.w H s.heap a (.ext (ExO C a)) from I.hok a _ e)
 exact PySem.W.kia_one (Zk3 Z) I.kIn ⟨o,ho,hcl⟩ hb (fun z=>nomatch z) fun tk=>⟨.bl _,H,I.tok tk,rfl,h⟩
noncomputable def Zz6 (G:PySem.W.Frag) (c:Value) (m:MEt):MEt:=fun δ K=>m δ fun r δ'=>∃ x C b,r.data = exD x∧ClsAt G x C∧PySem.W.kitOne G (.ref C) c = some b∧K (.fz (.bool b)) δ'
section
variable {X:Cx} {io:List Nat} {p c:Bool} {a b:Expr} {ma:MEt} {pos pp p2:Pos}
theorem Z1s {v:V} {cv:Value} (hb:PE X b (tC v)) (hv:ClsV v cv) (hg:Gl X "isinstance") (hm:X.mg "isinstance" = none) (hbv:bootBuiltins "isinstance" = some (.builtin "isinstance")) (ha:ME X io p c a ma)
  (he:starEach [a,b] X.env = (false,eval a X.env) :: starEach [b] X.env:=by rfl) (he2:starEach [b] X.env = (false,eval b X.env) :: starEach [] X.env:=by rfl) (hpl:(backTo pos (starEach [b] X.env)).any (·.1) = false:=by rfl) :
  ME X io p true (.Call (.Name "isinstance" pp) [a,b] [] pos) (Zz6 X.K cv ma):=by
 obtain ⟨_,A,s⟩:=ha
 refine ⟨_,Zgh Znf hg hm hbv (Jx A (Jx hb Zdn he2) he) (by decide) (by decide) he hpl,?_⟩
 intro C H σ δ fp ex K' Q R h k
 refine s C H σ δ fp ex _ _ R h fun H' v r δ' fp' new r1 h1=>?_
 obtain ⟨xn,Cx,bb,e,hn,hk,h2⟩:=h1
 have q:=r1.da R
 rw [e] at q
 obtain ⟨a,C0,rfl,Z,hn0,eh⟩:=q.exInv
 have eC:C0 = Cx:=by
  have:=hn0.symm.trans hn
  injection this with this; injection this with this; injection this
 subst eC
 exact ⟨a,C0,_,cv,bb,rfl,Z,eh,hv,hk,k H' _ _ δ' fp' [] (.fz r1.base r1.stp (.bl _)) h2⟩
end
end L2
namespace L2
open PySem PySem.Spec PyProof.Rows PySem.P
section
variable {prog:Program} {w:World} {A:Around} {E:Value→Shared→Prop} {s:Shared} {e t0 C:Addr} {o:Obj} {vs:Array Value} {K:PySem.W.Frag} {m:Str} {tk:Tok}
structure Z95 (s:Shared) (e C t0:Addr) (m:Str) (tk:Tok):Prop where
 ob:∃ o vs,s.heap.get? e = some o∧o.cls = .ref C∧o.data = .fields vs∧vs[0]? = some (.ref t0)
 tx:s.heap.TupAt t0 [.str m tk]
end
section
variable {X:Cx} {C:Addr} {x j:Str} {jk:Nat} {np cpos pos kp p1:Pos}
end
end L2
namespace L2
open PySem PySem.Spec PyProof.Rows
variable {G:PySem.W.Frag}
section
variable {X:Cx} {io:List Nat} {p c:Bool} {e:Expr} {m:MEt} {pos apos cpos px:Pos} {i:Nat} {x:Str}
end
end L2
namespace L2
open PySem PySem.Spec PyProof.Rows
variable {G:PySem.W.Frag}
section
variable {X:Cx} {io:List Nat} {e:Expr} {pos apos cpos px pt pl p2:Pos} {i j:Nat} {x y:Str}
end
section
variable {X:Cx} {io:List Nat} {e:Expr} {i:Nat} {y:Str}
end
end L2
namespace L2
open PySem PySem.Spec PyProof.Rows
section
variable {X:Cx} {pins:List (Addr × Obj)} {σ:St} {H:Hp} {s:Shared} {M:Model} {A:Around} {E:Value→Shared→Prop} {Q:Unit→Shared→Prop} {C a L:Addr} {fl:Value}
theorem Zqm (I:Inv X pins σ H s) (F:Fl (Apart X pins H) C a fl s.heap)
  (h:∀ s',Inv X pins σ H s'→Fl (Apart X pins H) C a (rawInt L) s'.heap→Q () s'):wpAny M A (setFlight (.ref a) (some L)) Q E s:=by
 obtain ⟨a0,oe,vs,T,oT,ts,eA,cA,dA,v1,nT,eT,dT,t3,pA,pT⟩:=F
 have hsz:3 < ts.size:=(Array.getElem?_eq_some_iff.mp t3).1
 unfold setFlight
 refine wpAny_bind (wpAny_field eA dA v1 ?_)
 rw [if_pos (show (Value.ref T != Value.none) = true from by simp)]
 refine wpAny_setField eT dT hsz ?_
 have hm:Obj.mapFields (fun z=>z.setIfInBounds 3 ((some L:Option Addr).elim Value.none fun f=>rawInt f)) oT = { oT with data:=.fields (ts.setIfInBounds 3 (rawInt L)) }:=by
  obtain ⟨c1,c2,c3,c4⟩:=oT
  have dT':c3 = .fields ts:=dT
  subst dT'
  rfl
 have self:=Heap.get?_update_self (Obj.mapFields (fun z=>z.setIfInBounds 3 ((some L:Option Addr).elim Value.none fun f=>rawInt f))) eT (by rw [hm]; rfl)
 have other:∀ b o,b ≠ T→s.heap.get? b = some o→(s.heap.update T (Obj.mapFields (fun z=>z.setIfInBounds 3 ((some L:Option Addr).elim Value.none fun f=>rawInt f)))).get? b = some o:=fun b o n e=>(Heap.get?_update_other _ _ (Ne.symm n)).trans e
 rw [hm] at self
 refine h _ (I.flown (t':=s.toks) (ch:=[T]) (fun b hb=>by rw [List.mem_singleton.mp hb]; exact pT) (fun b o hf hc e=>other b o (fun z=>hc (by simp [z])) e) fun b o hb e=>?_) ⟨a0,oe,vs,T,_,_,other a oe (Ne.symm nT) eA,cA,dA,v1,nT,self,rfl,?_,pA,pT⟩
 ·obtain ⟨_,o',ho',hd⟩:=I.stack.mem hb
  have hbT:b ≠ T:=fun z=>by
   subst z
   rw [eT] at ho'
   cases ho'
   exact hd ts dT
  exact ⟨o.slots,other b o hbT e⟩
 ·simp [hsz]
theorem Zod {Cm:MC X.K} {io:List Nat} {ex:Addr→Prop} {fp:Fp} {k:Addr→Zc→Prop} (hex:X.ex = []:=by rfl) (hst:X.stack = X.env :: X.outer:=by rfl) (hf:X.env.frame = some X.env.locals:=by rfl) :
  PassesOwn (model X.prog X.w) X.A X.env (XW X Cm io pins ex H fp k):=by
 rintro e s' ⟨a,cl,σ',H',δ',fp',rfl,I,F,R,Kp,hk⟩
 refine Zg2 I hex hst hf I.ok.frames F fun s1 I1 F1=>?_
 have F1':=F1
 obtain ⟨a0,oe,vs,T,oT,ts,eA,cA,dA,v1,nT,eT,dT,t3,pA,pT⟩:=F1
 show wpAny _ _ _ _ _ s1
 refine wpAny_bind (wpAny_field eA dA v1 ?_)
 rw [if_neg (by simp)]
 rw [hf]
 exact Zqm I1 F1' fun s2 I2 F2=>⟨a,cl,σ',H',δ',fp',rfl,I2,.inr (.inr F2),R,Kp,hk⟩
end
end L2
namespace L2
open PySem PySem.Spec PyProof.Rows
noncomputable def Z22 (ds:List PyData) (g:MGt) (u:MSt) (x:MXt) (δ:Zc) (k:Addr→Zc→Prop):Prop:=∃ (I:Nat→Zc→Prop) (r:Nat),r < ds.length∧I 0 δ ∧
 (∀ i d δ',i < r→ds[i]? = some d→I i δ'→g d δ' fun δ2=>u { nx:=I (i + 1),ct:=I (i + 1),rt:=fun _ _=>False } δ2)∧∀ d δ',ds[r]? = some d→I r δ'→g d δ' fun δ2=>x δ2 k
noncomputable def Zzy (mi:MIt) (g:MGt) (u:MSt) (x:MXt):MXt:=fun δ k=>mi δ fun ds δ1=>Z22 ds g u x δ1 k
section
variable {X:Cx} {io:List Nat} {p:Bool} {tg iter:Expr} {body:List Stmt} {mi:MIt} {g:MGt} {u:MSt} {x:MXt} {pos:Pos}
theorem XW.unpin {C:MC X.K} {pins more:List (Addr × Obj)} {ex:Addr→Prop} {H:Hp} {fp:Fp} {k:Addr→Zc→Prop} {e:Value} {s:Shared} (h:XW X C io (pins ++ more) ex H fp k e s):XW X C io pins ex H fp k e s:=by
 obtain ⟨a,cl,σ',H',δ',fp',rfl,I,F,R,K,hk⟩:=h
 have ap:∀ b,Apart X (pins ++ more) H' b→Apart X pins H' b:=fun b z=>⟨z.fr,z.new,z.loc,z.cel,fun q hq=>z.pin q ((List.mem_append.mp hq).elim (fun m=>List.mem_append_left _ m) fun m=>List.mem_append_right _ (List.mem_append_left _ m))⟩
 refine ⟨a,cl,σ',H',δ',fp',rfl,I.unpinned,?_,R,K,hk⟩
 rcases F with F | F | F
 ·exact .inl (F.imp ap)
 ·obtain ⟨a0,oe,vs,eA,cA,dA,v1,pA⟩:=F
  exact .inr (.inl ⟨a0,oe,vs,eA,cA,dA,v1,ap _ pA⟩)
 ·exact .inr (.inr (F.imp ap))
theorem Zo0 (hc:X.calm = true) (hi:MI X io p true tg iter mi) (hg:MG X io true tg g) (hb:MSs X io body u) (hbx:XSs X io body x) (hx:X.xe = fun _ _=>False:=by rfl)
  (hex:X.ex = []:=by rfl) (hst:X.stack = X.env :: X.outer:=by rfl) (hf:X.env.frame = some X.env.locals:=by rfl) (hs:∀ x,foldedSetIterable iter X.env x = pure x:=by intro _; rfl):XS X io (.For tg iter body [] pos) (Zzy mi g u x):=by
 obtain ⟨_,A,sI⟩:=hi
 obtain ⟨gt,G,sg⟩:=hg
 obtain ⟨tb,B,sb⟩:=hb
 intro C pins s σ H δ fp ex k I R hm
 have hp:PassesOwn (model X.prog X.w) X.A X.env (XW X C io pins ex H fp k):=Zod hex hst hf
 have no:∀ (E:Value→Shared→Prop) (e:Value) (s':Shared),X.xe e s'→E e s':=fun E e s' z=>by rw [hx] at z; exact z.elim
 refine wpAny_For (wpAny_mono (A pins s σ H (fun J H1=>∃ W:Nat→Nat→St→Hp→Prop,(∃ m,W 0 m σ H1)∧∀ i m σ' H',W i m σ' H'→J.go i H'∧∃ N:St→Hp→Prop,(∀ σ2 H2,N σ2 H2→∃ m',m' < m∧W (i + 1) m' σ2 H2) ∧
   ∀ x' H3,J.yld i H' x' H3→gt x' σ' H3 fun σ4 H4=>tb { nx:=N,ct:=N,bk:=fun _ _=>False,rt:=fun _ _=>False } σ4 H4∨∃ δ4 fp4,Rel C io H4 σ4 δ4 fp4 ex∧Kp H fp H4 fp4∧x δ4 k) I (sI C H σ δ fp ex _ _ R hm fun J H1 ds δ1 fp1 R1 S1 it h1=>?_)) (fun v s1 h1=>wpAny_mono h1 (fun itv s2 h2=>?_) (no _)) (no _)) hs
 ·obtain ⟨I0,r,hr,h0,turn,last⟩:=h1
  refine ⟨fun i n σ' H'=>n = r - i∧i ≤ r∧∃ δ' fp',Rel C io H' σ' δ' fp' ex∧Kp H1 fp1 H' fp'∧I0 i δ',⟨r,rfl,Nat.zero_le _,δ1,fp1,R1,.refl _ _,h0⟩,?_⟩
  rintro i n σ2 H2 ⟨rfl,hle,δ2,fp2,R2,k2,i2⟩
  have itk:=it H2 (fun b o e q=>k2.keep b o e (.inr (q.resolve_left (by decide)))) i
  have hlt:i < ds.length:=by omega
  have hd:ds[i]? = some ds[i]:=List.getElem?_eq_getElem hlt
  obtain ⟨go,yl⟩:=itk.1 _ hd
  refine ⟨go,fun σ' H'=>i < r∧∃ δ' fp',Rel C io H' σ' δ' fp' ex∧Kp H1 fp1 H' fp'∧I0 (i + 1) δ',fun σ' H' ⟨hir,δ',fp',R',k',i'⟩=>⟨r - (i + 1),by omega,rfl,hir,δ',fp',R',k',i'⟩,fun x' H3 hy=>?_⟩
  obtain ⟨s3,q3⟩:=yl x' H3 hy
  have R3:=R2.mk0 s3
  have k3:Kp H1 fp1 H3 fp2:=k2.trans ⟨fun b o e _=>s3 _ _ e,fun z=>(nomatch z),fun a z=>.inl z,s3.al⟩
  by_cases hir:i < r
  ·refine sg C H3 σ2 δ2 fp2 ex x' _ _ _ R3 (IterOk.at (H':=H2) (J:=J) (ds:=ds) k2.grow q3) (turn i _ δ2 hir hd i2) fun σ4 δ4 fp4 R4 k4 h4=>?_
   have k5:=k3.trans k4
   exact .inl (sb C H3 σ4 δ4 fp4 ex _ _ R4 h4 ⟨fun H' σ' δ' fp' R' k' n'=>⟨hir,δ',fp',R',k5.trans k',n'⟩,fun _ _ _ _ _ _ z=>z.elim,fun H' σ' δ' fp' R' k' n'=>⟨hir,δ',fp',R',k5.trans k',n'⟩,fun _ _ _ _ _ _ _ _ _ _ _ z=>z.elim⟩)
  ·have e:i = r:=by omega
   subst e
   refine sg C H3 σ2 δ2 fp2 ex x' _ _ _ R3 (IterOk.at (H':=H2) (J:=J) (ds:=ds) k2.grow q3) (last _ δ2 hd i2) fun σ4 δ4 fp4 R4 k4 h4=>?_
   exact .inr ⟨δ4,fp4,R4,S1.kp.trans (k3.trans k4),h4⟩
 ·obtain ⟨it,fpi,tn,J,H2,e,I2,T,st2,f2,W,⟨m0,w0⟩,turn⟩:=h2
  subst e
  have stat:∀ {H':Hp},(∀ b ∈ fpi,H' b = none)→∀ b ∈ fpi,Zc0 X pins H' b:=fun hn b hb=>⟨hn b hb,(f2 b hb).2⟩
  refine codeAny_forLoop_any (fun n s'=>∃ i σ' H',Inv X pins σ' H' s'∧tn i s'.heap∧(∀ b ∈ fpi,H' b = none)∧W i n σ' H') ?_ m0 ⟨0,σ,H2,I2,st2,fun b hb=>(f2 b hb).1,w0⟩
  rintro n s3 ⟨i,σ3,H3,I3,st3,fr3,w3⟩
  obtain ⟨go,N,hN,step⟩:=turn i n σ3 H3 w3
  refine wpAny_passesOwn hp (wpAny_mono (T.item X rfl rfl rfl hc i pins s3 σ3 H3 X.xe I3 (stat fr3) st3 go) (fun r s4 qz9=>?_) (no _))
  obtain ⟨u',hr,h4⟩:=qz9
  subst hr
  refine wpAny_passesOwn hp (wpAny_mono h4 (fun _ s5 qz9=>?_) (no _))
  obtain ⟨x5,H5,I5,r5,y5,st5,fr5⟩:=qz9
  have I5':=I5.pinned (stat fr5) (T.obj _ _ st5)
  refine wpAny_passesOwn hp (wpAny_mono (G _ s5 σ3 H5 x5 u' _ I5' r5 (step x5 H5 y5)) (fun _ s6 qz9=>?_) (no _))
  obtain ⟨σ6,H6,I6,q6⟩:=qz9
  rcases q6 with q6 | ⟨δ4,fp4,R4,K4,h4⟩
  ·refine wpAny_passesOwn hp (wpAny_mono (B _ s6 σ6 H6 _ I6 q6) (fun f s7 q7=>?_) (no _))
   have again:∀ {σ7:St} {H7:Hp},Inv X (pins ++ Zf3 fpi s5.heap) σ7 H7 s7→N σ7 H7→∃ m,m < n∧∃ i σ' H',Inv X pins σ' H' s7∧tn i s7.heap∧(∀ b ∈ fpi,H' b = none)∧W i m σ' H':=fun {σ7 H7} I7 n7=>by
    obtain ⟨m',hm,w7⟩:=hN σ7 H7 n7
    refine ⟨m',hm,i + 1,σ7,H7,I7.unpinned,T.keep _ _ _ st5 fun b hb o e=>(I7.pin (b,o) (List.mem_append_right _ (List.mem_append_right _ (Jr hb e)))).1,fun b hb=>?_,w7⟩
    obtain ⟨o,e,d⟩:=T.obj _ _ st5 b hb
    exact (I7.pin (b,o) (List.mem_append_right _ (List.mem_append_right _ (Jr hb e)))).2.1
   cases f with
   | next=>obtain ⟨σ7,H7,I7,n7⟩:=q7; exact again I7 n7
   | cont=>obtain ⟨σ7,H7,I7,n7⟩:=q7; exact again I7 n7
   | brk=>obtain ⟨_,_,_,z⟩:=q7; exact z.elim
   | ret v=>obtain ⟨_,_,_,_,_,z⟩:=q7; exact z.elim
  ·exact wpAny_passesOwn hp (wpAny_mono (hbx C _ s6 σ6 H6 δ4 fp4 ex k I6 R4 h4) (fun _ _ z=>z.elim) fun e s7 z=>(z.shift K4).unpin)
end
end L2
namespace L2
open PySem PySem.Spec PyProof.Rows
noncomputable abbrev FE:=Zc→Option (OT × Zc)
noncomputable abbrev FA:=Zc→Option (List OT × Zc)
noncomputable abbrev FT:=Zc→Option (Bool × Zc)
noncomputable abbrev FI:=Zc→Option (List PyData × Zc)
noncomputable abbrev FO:=Zc→Option (Option Int × Zc)
noncomputable abbrev FG:=PyData→Zc→Option Zc
noncomputable abbrev FGs:=List PyData→Zc→Option Zc
noncomputable def o2 {α:Type} (f:Zc→Option (α × Zc)):Zc→(α→Zc→Prop)→Prop:=fun δ K=>∃ r δ',f δ = some (r,δ')∧K r δ'
noncomputable def oG (g:FG):MGt:=fun d δ k=>∃ δ',g d δ = some δ'∧k δ'
noncomputable def oGs (g:FGs):Zp7:=fun d δ k=>∃ δ',g d δ = some δ'∧k δ'
section
variable {X:Cx} {io:List Nat} {p c:Bool} {e tg:Expr} {es:List Expr} {m m':MEt} {mr mr':MAt} {mt mt':MTt} {mi mi':MIt} {g g':MGt} {gs gs':Zp7} {mo mo':MOt} {st:Stmt} {sts:List Stmt} {u u':MSt} {eo:Option Expr}
theorem ME.weak (h:ME X io p c e m) (w:∀ δ K,m' δ K→m δ K):ME X io p c e m':=let ⟨t,A,s⟩:=h; ⟨t,A,fun C H σ δ fp ex K Q R h k=>s C H σ δ fp ex K Q R (w δ K h) k⟩
theorem MA.weak (h:MA X io p c es mr) (w:∀ δ K,mr' δ K→mr δ K):MA X io p c es mr':=let ⟨t,A,s⟩:=h; ⟨t,A,fun C H σ δ fp ex K Q R h k=>s C H σ δ fp ex K Q R (w δ K h) k⟩
theorem MT.weak (h:MT X io p e mt) (w:∀ δ K,mt' δ K→mt δ K):MT X io p e mt':=let ⟨t,A,s⟩:=h; ⟨t,A,fun C H σ δ fp ex K Q R h k=>s C H σ δ fp ex K Q R (w δ K h) k⟩
theorem MW.weak (h:MW X io p e mt) (w:∀ δ K,mt' δ K→mt δ K):MW X io p e mt':=let ⟨t,A,s⟩:=h; ⟨t,A,fun C H σ δ fp ex K Q R h k=>s C H σ δ fp ex K Q R (w δ K h) k⟩
theorem MIfs.weak (h:MIfs X io p es mt) (w:∀ δ K,mt' δ K→mt δ K):MIfs X io p es mt':=let ⟨t,A,s⟩:=h; ⟨t,A,fun C H σ δ fp ex K Q R h k=>s C H σ δ fp ex K Q R (w δ K h) k⟩
theorem MI.weak (h:MI X io p c tg e mi) (w:∀ δ K,mi' δ K→mi δ K):MI X io p c tg e mi':=let ⟨t,A,s⟩:=h; ⟨t,A,fun C H σ δ fp ex K Q R h k=>s C H σ δ fp ex K Q R (w δ K h) k⟩
theorem MO.weak (h:MO X io p eo mo) (w:∀ δ K,mo' δ K→mo δ K):MO X io p eo mo':=let ⟨t,A,s⟩:=h; ⟨t,A,fun C H σ δ fp ex K Q R h k=>s C H σ δ fp ex K Q R (w δ K h) k⟩
theorem MG.weak (h:MG X io c tg g) (w:∀ d δ K,g' d δ K→g d δ K):MG X io c tg g':=let ⟨t,A,s⟩:=h; ⟨t,A,fun C H σ δ fp ex v d k Q R q h kk=>s C H σ δ fp ex v d k Q R q (w d δ k h) kk⟩
theorem MGs.weak (h:MGs X io c es gs) (w:∀ d δ K,gs' d δ K→gs d δ K):MGs X io c es gs':=let ⟨t,A,s⟩:=h; ⟨t,A,fun C H σ δ fp ex v d k Q R q h kk=>s C H σ δ fp ex v d k Q R q (w d δ k h) kk⟩
theorem MS.weak (h:MS X io st u) (w:∀ D δ,u' D δ→u D δ):MS X io st u':=let ⟨t,A,s⟩:=h; ⟨t,A,fun C H σ δ fp ex D D' R h E=>s C H σ δ fp ex D D' R (w D δ h) E⟩
theorem MSs.weak (h:MSs X io sts u) (w:∀ D δ,u' D δ→u D δ):MSs X io sts u':=let ⟨t,A,s⟩:=h; ⟨t,A,fun C H σ δ fp ex D D' R h E=>s C H σ δ fp ex D D' R (w D δ h) E⟩
end
noncomputable def Zd (i:Nat):FE:=fun δ=>match δ[i]? with | some (some (.fz d))=>some (.fz d,δ) | _=>none
noncomputable def J5 (i:Nat):FE:=fun δ=>match δ[i]? with | some (some t)=>some (.fz t.data,δ) | _=>none
noncomputable def fC (d:PyData):FE:=fun δ=>some (.fz d,δ)
noncomputable def Zb (g:PyData→PyData→Option PyData) (a b:FE):FE:=fun δ=>(a δ).bind fun p=>(b p.2).bind fun q=>(g p.1.data q.1.data).bind fun d=>some (.fz d,q.2)
noncomputable def Yx (g:PyData→PyData→Option OT) (a b:FE):FE:=fun δ=>(a δ).bind fun p=>(b p.2).bind fun q=>(g p.1.data q.1.data).bind fun d=>some (d,q.2)
noncomputable def fUn (g:PyData→Option PyData) (a:FE):FE:=fun δ=>(a δ).bind fun p=>(g p.1.data).bind fun d=>some (.fz d,p.2)
noncomputable def Zsi (a b:FE):FE:=fun δ=>(a δ).bind fun p=>match p.1.data with | .bool true=>b p.2 | .bool false=>some (.fz (.bool false),p.2) | _=>none
noncomputable def fOr (a b:FE):FE:=fun δ=>(a δ).bind fun p=>match p.1.data with | .bool true=>some (.fz (.bool true),p.2) | .bool false=>b p.2 | _=>none
noncomputable def fIf (t:FT) (a b:FE):FE:=fun δ=>(t δ).bind fun p=>if p.1 = true then a p.2 else b p.2
noncomputable def tV (e:FE):FT:=fun δ=>(e δ).bind fun p=>match p.1 with | .fz (.bool b)=>some (b,p.2) | _=>none
noncomputable def tNo (t:FT):FT:=fun δ=>(t δ).bind fun p=>some (!p.1,p.2)
noncomputable def tAn (t u:FT):FT:=fun δ=>(t δ).bind fun p=>if p.1 = true then u p.2 else some (false,p.2)
noncomputable def tO (t u:FT):FT:=fun δ=>(t δ).bind fun p=>if p.1 = true then some (true,p.2) else u p.2
noncomputable def tD (e:FE):FT:=fun δ=>(e δ).bind fun p=>(Zqg p.1.data).bind fun b=>some (b,p.2)
noncomputable def Zn:FA:=fun δ=>some ([],δ)
noncomputable def Ze (e:FE) (a:FA):FA:=fun δ=>(e δ).bind fun p=>(a p.2).bind fun q=>some (p.1 :: q.1,q.2)
noncomputable def Zi0 (a:FA):FE:=fun δ=>(a δ).bind fun p=>if p.1.length ≤ sizeLine then some (.fz (.tuple (OT.datas p.1)),p.2) else none
noncomputable def Zd0 (a:FA):FE:=fun δ=>(a δ).bind fun p=>if p.1.length ≤ sizeLine then some (.nd p.1,p.2) else none
noncomputable def Z6k (e:FE):FE:=fun δ=>(e δ).bind fun p=>if Jp p.1.data = true then some (.fz p.1.data,p.2) else none
noncomputable def Zyz (e:FE):FE:=fun δ=>(e δ).bind fun p=>if Zwh p.1 = true then some (p.1,p.2) else none
inductive RF where
 | ok (r:OT)
 | exn (c:Str)
 | bad
noncomputable abbrev FD:=List PyData→RF
noncomputable abbrev FIO:=OT→List PyData→Option (OT × OT)
noncomputable def Yh (F:FD) (a:FA):FE:=fun δ=>(a δ).bind fun p=>match F (OT.datas p.1) with | .ok r=>some (r,p.2) | _=>none
noncomputable def Ztj (i:Nat) (F:FIO) (a:FA):FE:=fun δ=>match δ[i]? with
 | some (some _)=>(a δ).bind fun p=>match p.2[i]? with
  | some (some t)=>(F t (OT.datas p.1)).bind fun q=>some (q.1,p.2.set i (some q.2))
  | _=>none
 | _=>none
noncomputable def Zas (g:List PyData→Option PyData) (a:FA):FE:=fun δ=>(a δ).bind fun p=>(g (OT.datas p.1)).bind fun d=>some (.fz d,p.2)
noncomputable def fBl (g:List PyData→Option OT) (a:FA):FE:=fun δ=>(a δ).bind fun p=>(g (OT.datas p.1)).bind fun d=>some (d,p.2)
noncomputable def Zpz (T:String) (e:FE):FE:=fun δ=>(e δ).bind fun p=>if Zfe p.1.data = true then none else some (.fz (.bool (Zme T p.1.data)),p.2)
noncomputable def oN:FO:=fun δ=>some (none,δ)
noncomputable def oI (e:FE):FO:=fun δ=>(e δ).bind fun p=>match p.1.data with | .int i=>some (some i,p.2) | _=>none
noncomputable def fSl (e:FE) (lo hi:FO):FE:=fun δ=>(e δ).bind fun p=>(lo p.2).bind fun q=>(hi q.2).bind fun r=>match p.1.data with | .list ds=>some (.nd ((cutD ds q.1 r.1).map OT.fz),r.2) | _=>none
noncomputable def Zh0 (f g:Int→Int→Bool) (a b c:FE):FE:=fun δ=>(a δ).bind fun p=>(b p.2).bind fun q=>match p.1.data,q.1.data with
 | .int i,.int j=>if f i j = true then (c q.2).bind fun r=>match r.1.data with | .int k=>some (.fz (.bool (g j k)),r.2) | _=>none else some (.fz (.bool false),q.2)
 | _,_=>none
noncomputable def Zbw (e:FE):FI:=fun δ=>(e δ).bind fun p=>match p.1.data with | .list ds=>some (ds,p.2) | _=>none
noncomputable def iTp (e:FE):FI:=fun δ=>(e δ).bind fun p=>match p.1.data with | .tuple ds=>some (ds,p.2) | _=>none
noncomputable def rOk (j:Int):Bool:=decide (-(2 ^ 62) ≤ j) && decide (j < 2 ^ 62)
theorem Zep {j:Int} (h:rOk j = true):-(2 ^ 62) ≤ j∧j < 2 ^ 62:=by
 unfold rOk at h
 rw [Bool.and_eq_true] at h
 exact ⟨of_decide_eq_true h.1,of_decide_eq_true h.2⟩
theorem Zmo {j:Int} (h0:-1000000 ≤ j) (h1:j ≤ 1000000):rOk j = true:=by
 unfold rOk
 rw [decide_eq_true (show -(2 ^ 62) ≤ j by omega),decide_eq_true (show j < 2 ^ 62 by omega)]; rfl
noncomputable def iRa (a:FA):FI:=fun δ=>(a δ).bind fun p=>match OT.datas p.1 with | [.int j]=>if rOk j = true then some (Zcw 0 j.toNat,p.2) else none | _=>none
noncomputable def iRb (a:FA):FI:=fun δ=>(a δ).bind fun p=>match OT.datas p.1 with | [.int i,.int j]=>if (rOk i && rOk j) = true then some (Zcw i (j - i).toNat,p.2) else none | _=>none
noncomputable def Zzz (a:FA):FI:=fun δ=>(a δ).bind fun p=>match OT.datas p.1 with | [.list as,.list bs]=>some (Zi8 as bs,p.2) | _=>none
noncomputable def gNm (i:Nat):FG:=fun d δ=>some (δ.set i (some (.fz d)))
noncomputable def Z12 (i:Nat):FG:=fun d δ=>if Jp d = true then some (δ.set i (some (.fz d))) else none
noncomputable def gNl:FGs:=fun ds δ=>match ds with | []=>some δ | _=>none
noncomputable def gCn (g:FG) (gs:FGs):FGs:=fun ds δ=>match ds with | d :: r=>(g d δ).bind (gs r) | []=>none
noncomputable def gTp (n:Nat) (gs:FGs):FG:=fun d δ=>match d with | .tuple ds=>if ds.length = n then gs ds δ else none | _=>none
noncomputable def gLs (n:Nat) (gs:FGs):FG:=fun d δ=>match d with | .list ds=>if ds.length = n then gs ds δ else none | _=>none
noncomputable def compLoop (g:FG) (t:FT) (e:FE):List PyData→Zc→Option (List OT × Zc)
 | [],δ=>some ([],δ)
 | d :: ds,δ=>(g d δ).bind fun δ1=>(t δ1).bind fun p=>if p.1 = true then (e p.2).bind fun q=>(compLoop g t e ds q.2).bind fun z=>some (q.1 :: z.1,z.2) else compLoop g t e ds p.2
noncomputable def Wu (n:Nat) (caps:List Nat) (it:FI) (g:FG) (t:FT) (e:FE):FE:=fun δ=>(it δ).bind fun p=>if p.1.length ≤ sizeLine then (compLoop g t e p.1 (blk n caps p.2)).bind fun z=>some (.nd z.1,p.2) else none
noncomputable def Zk9:FT:=fun δ=>some (true,δ)
inductive RS where
 | nx (δ:Zc)
 | rt (r:OT) (δ:Zc)
 | bk (δ:Zc)
 | ct (δ:Zc)
 | ex (c:Str) (δ:Zc)
 | bad
noncomputable abbrev FS:=Zc→RS
noncomputable def RS.fits (D:Zcz):RS→Prop
 | .nx δ=>D.nx δ
 | .rt r δ=>D.rt r δ
 | .bk δ=>D.bk δ
 | .ct δ=>D.ct δ
 | _=>False
noncomputable def oS (f:FS):MSt:=fun D δ=>(f δ).fits D
noncomputable def xS (K:PySem.W.Frag) (f:FS):MXt:=fun δ k=>∃ c C δ',f δ = .ex c δ'∧ClsAt K c C∧k C δ'
noncomputable def Zz (f g:FS):FS:=fun δ=>match f δ with | .nx δ'=>g δ' | r=>r
noncomputable def fNx:FS:=fun δ=>.nx δ
noncomputable def Z9i:FS:=fun δ=>.bk δ
noncomputable def Z9p:FS:=fun δ=>.ct δ
noncomputable def wE (e:FE) (k:OT→Zc→RS):FS:=fun δ=>match e δ with | some (r,δ')=>k r δ' | none=>.bad
noncomputable def wX (F:FD) (a:FA) (k:OT→Zc→RS):FS:=fun δ=>match a δ with
 | some (rs,δ1)=>match F (OT.datas rs) with
  | .ok r=>k r δ1
  | .exn c=>.ex c δ1
  | .bad=>.bad
 | none=>.bad
noncomputable def Zi6:OT→Zc→RS:=fun _ δ=>.nx δ
noncomputable def Za1:OT→Zc→RS:=fun r δ=>.rt r δ
noncomputable def Z6j:OT→Zc→RS:=fun r δ=>if Jp r.data = true then .rt (.fz r.data) δ else .bad
noncomputable def Jh (i:Nat):OT→Zc→RS:=fun r δ=>.nx (δ.set i (some (.fz r.data)))
noncomputable def Zlj (i:Nat):OT→Zc→RS:=fun r δ=>if Jp r.data = true then .nx (δ.set i (some (.fz r.data))) else .bad
noncomputable def Jf (i:Nat):OT→Zc→RS:=fun r δ=>.nx (δ.set i (some r))
noncomputable def Z85 (g:FG):OT→Zc→RS:=fun r δ=>match g r.data δ with | some δ'=>.nx δ' | none=>.bad
noncomputable def Z6g:FS:=fun δ=>.rt (.fz .none) δ
noncomputable def Zb8 (i:Nat):FS:=fun δ=>match δ[i]? with | some (some t)=>.rt t (δ.set i none) | _=>.bad
noncomputable def W0 (t:FT) (u w:FS):FS:=fun δ=>match t δ with | some (b,δ')=>if b = true then u δ' else w δ' | none=>.bad
noncomputable def Za0 (c:Str):FS:=fun δ=>.ex c δ
noncomputable def Yi (i:Nat) (e:FE):FS:=fun δ=>match δ[i]? with
 | some (some (.nd _))=>wE e (fun r δ1=>match δ1[i]? with
  | some (some (.nd ts))=>if ts.length < sizeLine then .nx (δ1.set i (some (.nd (ts ++ [.fz r.data])))) else .bad
  | _=>.bad) δ
 | _=>.bad
noncomputable def Zko (i:Nat) (e:FE):FS:=fun δ=>match δ[i]? with
 | some (some (.nd _))=>wE e (fun r δ1=>match δ1[i]? with
  | some (some (.nd ts))=>if ts.length < sizeLine then .nx (δ1.set i (some (.nd (ts ++ [r])))) else .bad
  | _=>.bad) δ
 | _=>.bad
noncomputable def Z7e (i:Nat) (e j:FE):FS:=wE e fun r δ1=>match δ1[i]? with
 | some (some (.nd ts))=>wE j (fun n _=>match n.data with
  | .int k=>match ixN ts.length k with
   | some j=>.nx (δ1.set i (some (.nd (ts.set j (.fz r.data)))))
   | none=>.bad
  | _=>.bad) δ1
 | _=>.bad
noncomputable def Zaq (i:Nat) (u:FS):FS:=fun δ=>match δ[i]? with | some (some t)=>u (δ.set i (some (.fz t.data))) | _=>.bad
noncomputable def forLoop (g:FG) (u:FS):List PyData→Zc→RS
 | [],δ=>.nx δ
 | d :: ds,δ=>match g d δ with
  | none=>.bad
  | some δ1=>match u δ1 with
   | .nx δ2=>forLoop g u ds δ2
   | .ct δ2=>forLoop g u ds δ2
   | .bk δ2=>.nx δ2
   | r=>r
noncomputable def Zaf (it:FI) (g:FG) (u:FS):FS:=fun δ=>match it δ with | some (ds,δ1)=>forLoop g u ds δ1 | none=>.bad
noncomputable def whileLoop (t:FT) (u:FS):Nat→Zc→RS
 | 0,_=>.bad
 | n + 1,δ=>match t δ with
  | none=>.bad
  | some (b,δ1)=>if b = true then match u δ1 with
   | .nx δ2=>whileLoop t u n δ2
   | .ct δ2=>whileLoop t u n δ2
   | .bk δ2=>.nx δ2
   | .rt r δ2=>.rt r δ2
   | _=>.bad
   else .nx δ1
open Classical in
noncomputable def Zgd (t:FT) (u:FS):FS:=fun δ=>if h:∃ n,whileLoop t u n δ ≠ .bad then whileLoop t u (Classical.choose h) δ else .bad
noncomputable def Zsw (c d:Str):Bool:=c == d || d == ("CutError" : Str) || d == ("ValueError" : Str)
noncomputable def Zys (xs:List Str) (u:FS) (D:Str) (i:Nat) (h:FS):FS:=fun δ=>match u δ with
 | .ex c δ'=>if (xs.contains c && Zsw c D) = true then match h (δ'.set i (some (.fz (exD c)))) with
   | .nx δ2=>.nx (δ2.set i none)
   | _=>.bad
  else .bad
 | r=>r
noncomputable def Zac (n:Nat) (ds:List PyData):Zc:=ds.map (fun d=>some (.fz d)) ++ List.replicate (n - ds.length) none
noncomputable def Z53 (n:Nat) (t:OT) (ds:List PyData):Zc:=some t :: (ds.map (fun d=>some (.fz d)) ++ List.replicate (n - (ds.length + 1)) none)
noncomputable def RS.told:RS→RF
 | .nx _=>.ok (.fz .none)
 | .rt r _=>.ok r
 | .ex c _=>.exn c
 | _=>.bad
noncomputable def J8 (np n:Nat) (S:FS):FD:=fun ds=>if ds.length = np then (S (Zac n ds)).told else .bad
end L2
namespace L2
open PySem PySem.Spec PyProof.Rows
noncomputable def sD (F:FD):List PyData→(OT→Prop)→Prop:=fun ds k=>∃ r,F ds = .ok r∧k r
noncomputable def sI (F:FIO):OT→List PyData→(OT→OT→Prop)→Prop:=fun t ds k=>∃ r t',F t ds = some (r,t')∧k r t'
noncomputable def sX (K:PySem.W.Frag) (F:FD):List PyData→Addr→Prop:=fun ds cl=>∃ c,F ds = .exn c∧ClsAt K c cl
theorem bs {α β:Type} {x:Option α} {f:α→Option β} {b:β} (h:x.bind f = some b):∃ a,x = some a∧f a = some b:=Option.bind_eq_some_iff.mp h
section
variable {X:Cx} {io:List Nat} {p c:Bool} {e tg:Expr} {es:List Expr} {st:Stmt} {sts:List Stmt} {eo:Option Expr} {fa fb fc:FE} {ra:FA} {ta tb:FT} {i:Nat}
theorem Z2z (h:ME X io p c e (Z3s i)):ME X io p c e (o2 (Zd i)):=h.weak fun δ K q91=>by
 obtain ⟨r,δ',h,k⟩:=q91
 unfold Zd at h; unfold Z3s
 split at h
 ·rename_i d hd; (try rw [hd]); cases h; exact k
 ·cases h
theorem Z1r (h:ME X io p c e (Z3c i)):ME X io p c e (o2 (J5 i)):=h.weak fun δ K q92=>by
 obtain ⟨r,δ',h,k⟩:=q92
 unfold J5 at h; unfold Z3c
 split at h
 ·rename_i d hd; (try rw [hd]); cases h; exact k
 ·cases h
theorem Ziz {d:PyData} (h:ME X io p c e (mC d)):ME X io p c e (o2 (fC d)):=h.weak fun δ K ⟨r,δ',h,k⟩=>by cases h; exact k
noncomputable def ByS (g:PyData→PyData→Option PyData) (rp:PyData→PyData→(PyData→Prop)→Prop):Prop:=∀ d e r k,g d e = some r→k r→rp d e k
noncomputable def ByO (g:PyData→PyData→Option OT) (rp:PyData→PyData→(OT→Prop)→Prop):Prop:=∀ d e r k,g d e = some r→k r→rp d e k
theorem Zsp {g rp} (G:ByS g rp) {δ:Zc} {K:OT→Zc→Prop} (h:o2 (Zb g fa fb) δ K):Zjv rp (o2 fa) (o2 fb) δ K:=by
 obtain ⟨r,δ',h,k⟩:=h
 obtain ⟨⟨x,δ1⟩,h1,h⟩:=bs h
 obtain ⟨⟨y,δ2⟩,h2,h⟩:=bs h
 obtain ⟨d,h3,h⟩:=bs h
 cases h
 exact ⟨x,δ1,h1,y,δ2,h2,G _ _ _ _ h3 k⟩
theorem Wj {g rp} (G:ByS g rp) (h:ME X io p c e (Zjv rp (o2 fa) (o2 fb))):ME X io p c e (o2 (Zb g fa fb)):=h.weak fun δ K z=>Zsp G z
theorem Z6w {f:FE} {δ:Zc} {K:Bool→Zc→Prop} (h:o2 (tV f) δ K):o2 f δ (kB K):=by
 obtain ⟨b,δ',h,k⟩:=h
 obtain ⟨⟨x,δ1⟩,h1,h⟩:=bs h
 refine ⟨x,δ1,h1,?_⟩
 unfold kB
 try dsimp only at h ⊢
 split at h
 ·cases h; exact k
 ·cases h
theorem Zco {g rp} (G:ByS g rp) (h:MT X io p e (fun δ K=>Zjv rp (o2 fa) (o2 fb) δ (kB K))):MT X io p e (o2 (tV (Zb g fa fb))):=h.weak fun δ K z=>Zsp G (Z6w z)
theorem Zay {g rp} (G:ByO g rp) (h:ME X io p c e (Z14 rp (o2 fa) (o2 fb))):ME X io p c e (o2 (Yx g fa fb)):=h.weak fun δ K h=>by
 obtain ⟨r,δ',h,k⟩:=h
 obtain ⟨⟨x,δ1⟩,h1,h⟩:=bs h
 obtain ⟨⟨y,δ2⟩,h2,h⟩:=bs h
 obtain ⟨d,h3,h⟩:=bs h
 cases h
 exact ⟨x,δ1,h1,y,δ2,h2,G _ _ _ _ h3 k⟩
noncomputable def Z18:PyData→Option PyData | .int i=>some (.int (-i)) | _=>none
noncomputable def Z3p:PyData→Option PyData | .bool b=>some (.bool (!b)) | _=>none
theorem Zyp (h:ME X io p c e (Z80 (o2 fa))):ME X io p c e (o2 (fUn Z18 fa)):=h.weak fun δ K h=>by
 obtain ⟨r,δ',h,k⟩:=h
 obtain ⟨⟨x,δ1⟩,h1,h⟩:=bs h
 obtain ⟨d,h3,h⟩:=bs h
 cases h
 refine ⟨x,δ1,h1,?_⟩
 dsimp only at h3 ⊢
 cases q:x.data <;> rw [q] at h3 <;> cases h3
 exact k
theorem Zu5 (h:ME X io p c e (Zza (o2 fa))):ME X io p c e (o2 (fUn Z3p fa)):=h.weak fun δ K h=>by
 obtain ⟨r,δ',h,k⟩:=h
 obtain ⟨⟨x,δ1⟩,h1,h⟩:=bs h
 obtain ⟨d,h3,h⟩:=bs h
 cases h
 refine ⟨x,δ1,h1,?_⟩
 dsimp only at h3 ⊢
 cases q:x.data <;> rw [q] at h3 <;> cases h3
 exact k
theorem Zhd (h:ME X io p c e (Z2p (o2 fa) (o2 fb))):ME X io p c e (o2 (Zsi fa fb)):=h.weak fun δ K h=>by
 obtain ⟨r,δ',h,k⟩:=h
 obtain ⟨⟨x,δ1⟩,h1,h⟩:=bs h
 refine ⟨x,δ1,h1,?_⟩
 try dsimp only at h ⊢
 split at h
 ·rename_i q; (try rw [q]); rw [Zs5,if_pos rfl]; exact ⟨r,δ',h,k⟩
 ·rename_i q; (try rw [q]); cases h; rw [Zs5,if_neg Bool.false_ne_true]; exact k
 ·cases h
theorem Z0y (h:MT X io p e (Z8i (o2 ta))):MT X io p e (o2 (tNo ta)):=h.weak fun δ K h=>by
 obtain ⟨r,δ',h,k⟩:=h
 obtain ⟨⟨x,δ1⟩,h1,h⟩:=bs h
 cases h
 exact ⟨x,δ1,h1,k⟩
theorem Zhq (h:MW X io p e (mOr (o2 ta) (o2 tb))):MW X io p e (o2 (tO ta tb)):=h.weak fun δ K h=>by
 obtain ⟨r,δ',h,k⟩:=h
 obtain ⟨⟨x,δ1⟩,h1,h⟩:=bs h
 refine ⟨x,δ1,h1,?_⟩
 try dsimp only at h ⊢
 split at h
 ·rename_i q; rw [if_pos q]; cases h; exact k
 ·rename_i q; rw [if_neg q]; exact ⟨r,δ',h,k⟩
theorem Wl (h:MT X io p e (Z70 (o2 fa))):MT X io p e (o2 (tD fa)):=h.weak fun δ K h=>by
 obtain ⟨r,δ',h,k⟩:=h
 obtain ⟨⟨x,δ1⟩,h1,h⟩:=bs h
 obtain ⟨d,h3,h⟩:=bs h
 cases h
 refine ⟨x,δ1,h1,?_⟩
 dsimp only at h3 ⊢
 rw [h3]
 exact k
theorem Zya (h:MA X io p c es Z7c):MA X io p c es (o2 Zn):=h.weak fun δ K ⟨r,δ',h,k⟩=>by cases h; exact k
theorem Zvk (h:MA X io p c es (Zzf (o2 fa) (o2 ra))):MA X io p c es (o2 (Ze fa ra)):=h.weak fun δ K h=>by
 obtain ⟨r,δ',h,k⟩:=h
 obtain ⟨⟨x,δ1⟩,h1,h⟩:=bs h
 obtain ⟨⟨y,δ2⟩,h2,h⟩:=bs h
 cases h
 exact ⟨x,δ1,h1,y,δ2,h2,k⟩
theorem Zx5 (h:ME X io p c e (Z7q (o2 ra))):ME X io p c e (o2 (Zi0 ra)):=h.weak fun δ K h=>by
 obtain ⟨r,δ',h,k⟩:=h
 obtain ⟨⟨x,δ1⟩,h1,h⟩:=bs h
 refine ⟨x,δ1,h1,?_⟩
 dsimp only at h
 split at h
 ·rename_i q; cases h; exact ⟨q,k⟩
 ·cases h
theorem Zzh (h:ME X io p c e (Z64 (o2 ra))):ME X io p c e (o2 (Zd0 ra)):=h.weak fun δ K h=>by
 obtain ⟨r,δ',h,k⟩:=h
 obtain ⟨⟨x,δ1⟩,h1,h⟩:=bs h
 refine ⟨x,δ1,h1,?_⟩
 dsimp only at h
 split at h
 ·rename_i q; cases h; exact ⟨q,k⟩
 ·cases h
theorem Zwy {F:FD} (h:ME X io p c e (Zwt (sD F) (o2 ra))):ME X io p c e (o2 (Yh F ra)):=h.weak fun δ K h=>by
 obtain ⟨r,δ',h,k⟩:=h
 obtain ⟨⟨x,δ1⟩,h1,h⟩:=bs h
 refine ⟨x,δ1,h1,?_⟩
 dsimp only at h
 split at h
 ·rename_i q; cases h; exact ⟨_,q,k⟩
 ·cases h
theorem Zav {g rp} (G:∀ ds r k,g ds = some r→k r→rp ds k) (h:ME X io p c e (Z3m rp (o2 ra))):ME X io p c e (o2 (Zas g ra)):=h.weak fun δ K h=>by
 obtain ⟨r,δ',h,k⟩:=h
 obtain ⟨⟨x,δ1⟩,h1,h⟩:=bs h
 obtain ⟨d,h3,h⟩:=bs h
 cases h
 exact ⟨x,δ1,h1,G _ _ _ h3 k⟩
theorem Z1k {g rp} (G:∀ ds r k,g ds = some r→k r→rp ds k) (h:ME X io p c e (mBl rp (o2 ra))):ME X io p c e (o2 (fBl g ra)):=h.weak fun δ K h=>by
 obtain ⟨r,δ',h,k⟩:=h
 obtain ⟨⟨x,δ1⟩,h1,h⟩:=bs h
 obtain ⟨d,h3,h⟩:=bs h
 cases h
 exact ⟨x,δ1,h1,G _ _ _ h3 k⟩
theorem Zh3 {T:String} (h:ME X io p c e (Z7y T (o2 fa))):ME X io p c e (o2 (Zpz T fa)):=h.weak fun δ K h=>by
 obtain ⟨r,δ',h,k⟩:=h
 obtain ⟨⟨x,δ1⟩,h1,h⟩:=bs h
 by_cases hf:Zfe x.data = true
 ·have h':(if Zfe x.data = true then none else some (OT.fz (.bool (Zme T x.data)),δ1)) = some (r,δ'):=h
  rw [if_pos hf] at h'
  cases h'
 ·have h':(if Zfe x.data = true then none else some (OT.fz (.bool (Zme T x.data)),δ1)) = some (r,δ'):=h
  rw [if_neg hf] at h'
  injection h' with h'
  injection h' with e1 e2
  subst e1 e2
  exact ⟨x,_,h1,Bool.eq_false_iff.mpr hf,k⟩
theorem Zez (h:MO X io p eo Znl):MO X io p eo (o2 oN):=h.weak fun δ K ⟨r,δ',h,k⟩=>by cases h; exact k
theorem Zc4 (h:MO X io p eo (Zy8 (o2 fa))):MO X io p eo (o2 (oI fa)):=h.weak fun δ K h=>by
 obtain ⟨r,δ',h,k⟩:=h
 obtain ⟨⟨x,δ1⟩,h1,h⟩:=bs h
 refine ⟨x,δ1,h1,?_⟩
 try dsimp only at h ⊢
 split at h
 ·rename_i q; (try rw [q]); cases h; exact k
 ·cases h
theorem Zx7 {lo hi:FO} (h:ME X io p c e (mSl (o2 fa) (o2 lo) (o2 hi))):ME X io p c e (o2 (fSl fa lo hi)):=h.weak fun δ K h=>by
 obtain ⟨r,δ',h,k⟩:=h
 obtain ⟨⟨x,δ1⟩,h1,h⟩:=bs h
 obtain ⟨⟨y,δ2⟩,h2,h⟩:=bs h
 obtain ⟨⟨z,δ3⟩,h3,h⟩:=bs h
 refine ⟨x,δ1,h1,y,δ2,h2,z,δ3,h3,?_⟩
 try dsimp only at h ⊢
 split at h
 ·rename_i q; (try rw [q]); cases h; exact k
 ·cases h
theorem Zv3 {f g:Int→Int→Bool} {δ:Zc} {K:OT→Zc→Prop} (h:o2 (Zh0 f g fa fb fc) δ K):Zkl f g (o2 fa) (o2 fb) (o2 fc) δ K:=by
 obtain ⟨r,δ',h,k⟩:=h
 obtain ⟨⟨x,δ1⟩,h1,h⟩:=bs h
 obtain ⟨⟨y,δ2⟩,h2,h⟩:=bs h
 refine ⟨x,δ1,h1,y,δ2,h2,?_⟩
 try dsimp only at h ⊢
 split at h
 case h_2=>cases h
 rename_i i j q1 q2
 (try rw [q1,q2])
 show (if f i j = true then _ else _)
 split at h
 ·rename_i hf
  rw [if_pos hf]
  obtain ⟨⟨z,δ3⟩,h3,h⟩:=bs h
  refine ⟨z,δ3,h3,?_⟩
  try dsimp only at h ⊢
  split at h
  ·rename_i q; (try rw [q]); cases h; exact k
  ·cases h
 ·rename_i hf
  rw [if_neg hf]
  cases h
  exact k
theorem Zql {f g:Int→Int→Bool} (h:ME X io p c e (Zkl f g (o2 fa) (o2 fb) (o2 fc))):ME X io p c e (o2 (Zh0 f g fa fb fc)):=h.weak fun δ K z=>Zv3 z
theorem Zu1 (h:MI X io p c tg e (iL (o2 fa))):MI X io p c tg e (o2 (Zbw fa)):=h.weak fun δ K h=>by
 obtain ⟨r,δ',h,k⟩:=h
 obtain ⟨⟨x,δ1⟩,h1,h⟩:=bs h
 refine ⟨x,δ1,h1,?_⟩
 try dsimp only at h ⊢
 split at h
 ·rename_i q; (try rw [q]); cases h; exact k
 ·cases h
theorem Zzl (h:MI X io p c tg e (iT (o2 fa))):MI X io p c tg e (o2 (iTp fa)):=h.weak fun δ K h=>by
 obtain ⟨r,δ',h,k⟩:=h
 obtain ⟨⟨x,δ1⟩,h1,h⟩:=bs h
 refine ⟨x,δ1,h1,?_⟩
 try dsimp only at h ⊢
 split at h
 ·rename_i q; (try rw [q]); cases h; exact k
 ·cases h
theorem Zc8 (h:MI X io p c tg e (iR1 (o2 ra))):MI X io p c tg e (o2 (iRa ra)):=h.weak fun δ K h=>by
 obtain ⟨r,δ',h,k⟩:=h
 obtain ⟨⟨x,δ1⟩,h1,h⟩:=bs h
 refine ⟨x,δ1,h1,?_⟩
 try dsimp only at h ⊢
 split at h
 case h_2=>cases h
 rename_i q
 (try rw [q])
 try dsimp only
 split at h
 ·rename_i b; cases h; exact ⟨Zep b,k⟩
 ·cases h
theorem Zv7 (h:MI X io p c tg e (iR2 (o2 ra))):MI X io p c tg e (o2 (iRb ra)):=h.weak fun δ K h=>by
 obtain ⟨r,δ',h,k⟩:=h
 obtain ⟨⟨x,δ1⟩,h1,h⟩:=bs h
 refine ⟨x,δ1,h1,?_⟩
 try dsimp only at h ⊢
 split at h
 case h_2=>cases h
 rename_i q
 (try rw [q])
 try dsimp only
 split at h
 ·rename_i b
  cases h
  rw [Bool.and_eq_true] at b
  exact ⟨⟨(Zep b.1).1,(Zep b.1).2,(Zep b.2).1,(Zep b.2).2⟩,k⟩
 ·cases h
theorem Zut (h:MG X io c tg (dName i)):MG X io c tg (oG (gNm i)):=h.weak fun d δ K ⟨δ',h,k⟩=>by cases h; exact k
theorem Zqr (h:MG X io c tg (Zss i)):MG X io c tg (oG (Z12 i)):=h.weak fun d δ K q93=>by
 obtain ⟨δ',h,k⟩:=q93
 unfold Z12 at h
 split at h
 ·rename_i q; cases h; exact ⟨q,k⟩
 ·cases h
theorem Zva (h:MGs X io c es Z63):MGs X io c es (oGs gNl):=h.weak fun d δ K q94=>by
 obtain ⟨δ',h,k⟩:=q94
 unfold gNl at h
 split at h
 ·cases h; exact ⟨rfl,k⟩
 ·cases h
theorem Zk6 {g:FG} {gs:FGs} (h:MGs X io c es (Z01 (oG g) (oGs gs))):MGs X io c es (oGs (gCn g gs)):=h.weak fun d δ K q95=>by
 obtain ⟨δ',h,k⟩:=q95
 unfold gCn at h
 split at h
 ·obtain ⟨δ1,h1,h⟩:=bs h
  exact ⟨δ1,h1,δ',h,k⟩
 ·cases h
theorem Z0l {n:Nat} {gs:FGs} (h:MG X io c tg (dTup n (oGs gs))):MG X io c tg (oG (gTp n gs)):=h.weak fun d δ K q96=>by
 obtain ⟨δ',h,k⟩:=q96
 unfold gTp at h
 split at h
 case h_2=>cases h
 split at h
 ·rename_i q; exact ⟨q,δ',h,k⟩
 ·cases h
theorem Zc6 (h:MIfs X io p es Zzq):MIfs X io p es (o2 Zk9):=h.weak fun δ K ⟨r,δ',h,k⟩=>by cases h; exact k
theorem Zuw {g:FG} {t:FT} {me:FE} {ds:List PyData} {δ0:Zc} {zs:List OT} {δe:Zc} (h:compLoop g t me ds δ0 = some (zs,δe)) :
  ∃ I:Nat→List OT→Zc→Prop,I 0 [] δ0 ∧
 (∀ (i:Nat) (d:PyData) (rs:List OT) (δ':Zc),ds[i]? = some d→I i rs δ'→oG g d δ' fun δ2=>o2 t δ2 fun b δ3=>if b = true then o2 me δ3 fun r δ4=>I (i + 1) (rs ++ [r]) δ4 else I (i + 1) rs δ3) ∧
 ∀ rs δ',I ds.length rs δ'→rs = zs∧δ' = δe:=by
 refine ⟨fun i rs δ'=>∃ ys,rs ++ ys = zs∧compLoop g t me (ds.drop i) δ' = some (ys,δe),⟨zs,rfl,by rw [List.drop_zero]; exact h⟩,?_,?_⟩
 ·rintro i d rs δ' hd ⟨ys,e,hl⟩
  obtain ⟨hi,hdi⟩:=List.getElem?_eq_some_iff.mp hd
  rw [List.drop_eq_getElem_cons hi,hdi] at hl
  unfold compLoop at hl
  obtain ⟨δ1,h1,hl⟩:=bs hl
  obtain ⟨⟨b,δ2⟩,h2,hl⟩:=bs hl
  refine ⟨δ1,h1,b,δ2,h2,?_⟩
  dsimp only at hl
  split at hl
  ·rename_i hb
   rw [if_pos hb]
   obtain ⟨⟨r,δ3⟩,h3,hl⟩:=bs hl
   obtain ⟨⟨ws,δ4⟩,h4,hl⟩:=bs hl
   cases hl
   exact ⟨r,δ3,h3,ws,by rw [List.append_assoc]; exact e,h4⟩
  ·rename_i hb
   rw [if_neg hb]
   exact ⟨ys,e,hl⟩
 ·rintro rs δ' ⟨ys,e,hl⟩
  rw [List.drop_length] at hl
  unfold compLoop at hl
  cases hl
  exact ⟨by rw [← e,List.append_nil],rfl⟩
theorem Zn3 {n:Nat} {caps:List Nat} {it:FI} {g:FG} {t:FT} {me:FE} {δ:Zc} {K:OT→Zc→Prop} (h:o2 (Wu n caps it g t me) δ K):Zfm n caps (o2 it) (oG g) (o2 t) (o2 me) δ K:=by
 obtain ⟨r,δ',h,k⟩:=h
 obtain ⟨⟨ds,δ1⟩,h1,h⟩:=bs h
 refine ⟨ds,δ1,h1,?_⟩
 dsimp only at h
 split at h
 case isFalse=>cases h
 rename_i hz
 obtain ⟨⟨zs,δe⟩,h2,h⟩:=bs h
 cases h
 obtain ⟨I,i0,st,en⟩:=Zuw h2
 refine ⟨hz,I,i0,st,fun rs δ'' q=>?_⟩
 obtain ⟨rfl,rfl⟩:=en rs δ'' q
 exact k
theorem Za8 {n:Nat} {caps:List Nat} {it:FI} {g:FG} {t:FT} {me:FE} (h:ME X io p c e (Zfm n caps (o2 it) (oG g) (o2 t) (o2 me))):ME X io p c e (o2 (Wu n caps it g t me)):=h.weak fun δ K z=>Zn3 z
end
end L2
namespace L2
open PySem PySem.Spec PyProof.Rows
section
variable {X:Cx} {io:List Nat} {p c:Bool} {e tg iter:Expr} {es:List Expr} {st:Stmt} {sts:List Stmt} {fa fb fc:FE} {ra:FA} {ta tb:FT} {i:Nat} {f g u w:FS}
theorem Z2i (h:MSs X io sts (Z5l (oS f) (oS g))):MSs X io sts (oS (Zz f g)):=h.weak fun D δ h=>by
 unfold oS Zz at h; unfold Z5l oS
 cases q:f δ <;> rw [q] at h <;> exact h
theorem Zt2 (h:MSs X io sts Z2y):MSs X io sts (oS fNx):=h.weak fun D δ h=>h
theorem Zkm {k:OT→Zc→RS} {D:Zcz} {δ:Zc} (h:oS (wE fa k) D δ):o2 fa δ fun r δ'=>(k r δ').fits D:=by
 unfold oS wE at h
 split at h
 ·rename_i q; exact ⟨_,_,q,h⟩
 ·exact h.elim
theorem o2.imp {α:Type} {f:Zc→Option (α × Zc)} {δ:Zc} {K K':α→Zc→Prop} (h:o2 f δ K) (k:∀ r δ',K r δ'→K' r δ'):o2 f δ K':=let ⟨r,δ',e,q⟩:=h; ⟨r,δ',e,k r δ' q⟩
theorem J7 {P:Prop} [Decidable P] {a:RS} {D:Zcz} (h:(if P then a else .bad:RS).fits D):P∧a.fits D:=by
 split at h
 ·exact ⟨‹_›,h⟩
 ·exact h.elim
theorem Zcg (h:MS X io st (Z2x (o2 fa))):MS X io st (oS (wE fa Zi6)):=h.weak fun D δ h=>Zkm h
theorem Z2v (h:MS X io st (Z8b (o2 fa))):MS X io st (oS (wE fa Za1)):=h.weak fun D δ h=>Zkm h
theorem Zce (h:MS X io st (Zrf i)):MS X io st (oS (Zb8 i)):=h.weak fun D δ h=>by
 unfold oS Zb8 at h; unfold Zrf
 split at h
 ·rename_i q; (try rw [q]); exact h
 ·exact h.elim
theorem Z3x (h:MS X io st (Z8d (o2 ta) (oS u) (oS w))):MS X io st (oS (W0 ta u w)):=h.weak fun D δ h=>by
 unfold oS W0 at h
 split at h
 ·rename_i b δ' q
  refine ⟨b,δ',q,?_⟩
  split at h
  ·rename_i hb; rw [if_pos hb]; exact h
  ·rename_i hb; rw [if_neg hb]; exact h
 ·exact h.elim
theorem Zfw (h:MS X io st (Zxy i (o2 fa))):MS X io st (oS (wE fa (Jh i))):=h.weak fun D δ h=>Zkm h
theorem Zxl (h:MS X io st (Zvt i (o2 fa))):MS X io st (oS (wE fa (Zlj i))):=h.weak fun D δ h=>(Zkm h).imp fun r δ' q=>J7 q
theorem Zpi (h:MS X io st (Zl6 i (o2 fa))):MS X io st (oS (wE fa (Jf i))):=h.weak fun D δ h=>Zkm h
section
variable {n:Nat} {caps:List Nat} {o q:Nat} {it:FI} {gg:FG} {t:FT} {me:FE}
theorem Zgq (h:MS X io st (if true = true then Zl6 i (Zfm n caps (o2 it) (oG gg) (o2 t) (o2 me)) else Zxy i (Zfm n caps (o2 it) (oG gg) (o2 t) (o2 me)))):MS X io st (oS (wE (Wu n caps it gg t me) (Jf i))) :=
 h.weak fun D δ h=>by rw [if_pos rfl]; exact Zn3 (Zkm h)
theorem Zvq (h:MS X io st (if false = true then Zl6 i (Zfm n caps (o2 it) (oG gg) (o2 t) (o2 me)) else Zxy i (Zfm n caps (o2 it) (oG gg) (o2 t) (o2 me)))):MS X io st (oS (wE (Wu n caps it gg t me) (Jh i))) :=
 h.weak fun D δ h=>by rw [if_neg Bool.false_ne_true]; exact Zn3 (Zkm h)
end
theorem J1 (h:MS X io st (Zgn i (o2 fa))):MS X io st (oS (Yi i fa)):=h.weak fun D δ h=>by
 unfold oS Yi at h; unfold Zgn
 split at h
 case h_2=>exact h.elim
 rename_i q; (try rw [q])
 refine (Zkm h).imp fun r δ' z=>?_
 split at z
 ·rename_i q2; (try rw [q2]); exact J7 z
 ·exact z.elim
theorem Zh4 (h:MS X io st (Zgs i (oS u))):MS X io st (oS (Zaq i u)):=h.weak fun D δ h=>by
 unfold oS Zaq at h; unfold Zgs
 split at h
 ·rename_i q; (try rw [q]); exact h
 ·exact h.elim
theorem Jg {gg:FG} {d:PyData} {ds:List PyData} {δ:Zc}:forLoop gg u (d :: ds) δ = match gg d δ with
  | none=>.bad
  | some δ1=>match u δ1 with
   | .nx δ2=>forLoop gg u ds δ2
   | .ct δ2=>forLoop gg u ds δ2
   | .bk δ2=>.nx δ2
   | r=>r:=rfl
theorem Zy1 {it:FI} {gg:FG} (h:MS X io st (Zzg (o2 it) (oG gg) (oS u))):MS X io st (oS (Zaf it gg u)):=h.weak fun D δ h=>by
 unfold oS Zaf at h
 split at h
 case h_2=>exact h.elim
 rename_i ds δ1 q
 refine ⟨ds,δ1,q,fun i δ'=>(forLoop gg u (ds.drop i) δ').fits D,by show RS.fits D (forLoop gg u (ds.drop 0) δ1); rw [List.drop_zero]; exact h,fun i d δ' hd z=>?_,fun δ' z=>?_⟩
 ·obtain ⟨hi,hdi⟩:=List.getElem?_eq_some_iff.mp hd
  replace z:RS.fits D (forLoop gg u (ds.drop i) δ'):=z
  rw [List.drop_eq_getElem_cons hi,hdi,Jg] at z
  split at z
  case h_1=>exact z.elim
  rename_i δ2 q2
  refine ⟨δ2,q2,?_⟩
  unfold oS
  cases q3:u δ2 <;> rw [q3] at z <;> (try rw [q3]) <;> exact z
 ·replace z:RS.fits D (forLoop gg u (ds.drop ds.length) δ'):=z
  rw [List.drop_length] at z; exact z
theorem Zq2 (h:MS X io st (Ztl (o2 ta) (oS u))):MS X io st (oS (Zgd ta u)):=h.weak fun D δ h=>by
 unfold oS Zgd at h
 split at h
 case isFalse=>exact h.elim
 rename_i hn
 refine ⟨fun n δ'=>(whileLoop ta u n δ').fits D,⟨_,h⟩,fun n δ' z=>?_⟩
 cases n with
 | zero=>exact z.elim
 | succ n =>
  unfold whileLoop at z
  split at z
  case h_1=>exact z.elim
  rename_i b δ1 q
  refine ⟨b,δ1,q,?_⟩
  split at z
  ·rename_i hb
   rw [if_pos hb]
   refine ⟨fun δ''=>(whileLoop ta u n δ'').fits D,fun δ'' y=>⟨n,Nat.lt_succ_self n,y⟩,?_⟩
   unfold oS
   cases q3:u δ1 <;> rw [q3] at z <;> exact z
  ·rename_i hb
   rw [if_neg hb]
   exact z
theorem Zbr {n m:Nat}:∀ {δ:Zc},whileLoop ta u n δ ≠ .bad→whileLoop ta u (n + m) δ = whileLoop ta u n δ:=by
 induction n with
 | zero=>intro δ h; exact absurd rfl h
 | succ n ih =>
  intro δ h
  rw [Nat.succ_add]
  unfold whileLoop at h ⊢
  cases q:ta δ with
  | none=>rfl
  | some x =>
   obtain ⟨b,δ1⟩:=x
   rw [q] at h
   try dsimp only at h ⊢
   split
   ·rename_i hb
    rw [if_pos hb] at h
    cases q3:u δ1 <;> rw [q3] at h <;> first | exact ih h | rfl
   ·rfl
theorem Znd {r:RS} {δ:Zc} (n:Nat) (h:whileLoop ta u n δ = r) (hr:r ≠ .bad):Zgd ta u δ = r:=by
 have hn:∃ n,whileLoop ta u n δ ≠ .bad:=⟨n,by rw [h]; exact hr⟩
 unfold Zgd
 rw [dif_pos hn]
 have h1:=Classical.choose_spec hn
 have e1:=Zbr (m:=n) h1
 have e2:=Zbr (m:=Classical.choose hn) (show whileLoop ta u n δ ≠ .bad by rw [h]; exact hr)
 rw [Nat.add_comm] at e2
 rw [← e1,e2,h]
theorem Yy {cn:Str}:MS X io st (oS (Za0 cn)):=Zr1.weak fun D δ h=>h
theorem Zrl {F:FD} {k:OT→Zc→RS} (h:MS X io st (oS (wE (Yh F ra) k))):MS X io st (oS (wX F ra k)):=h.weak fun D δ h=>by
 unfold oS wX at h; unfold oS wE Yh
 split at h
 case h_2=>exact h.elim
 rename_i rs δ1 q
 (try rw [q])
 dsimp only [Option.bind]
 split at h
 ·rename_i q2; (try rw [q2]); exact h
 ·exact h.elim
 ·exact h.elim
theorem Z1f {xs:List Str} {D:Str} {Dc:Addr} {h0:FS} (hk:∀ cn ∈ xs,Zsw cn D = true→∃ C,ClsAt X.K cn C∧Zcc X.K C∧PySem.W.subIn X.K (.ref C) (.ref Dc) = some true) (h:MS X io st (Z40 X.K Dc i (oS u) (xS X.K u) (oS h0))):MS X io st (oS (Zys xs u D i h0)):=h.weak fun DD δ h=>by
 unfold oS Zys at h
 split at h
 ·rename_i cn δ' q
  refine .inr ?_
  obtain ⟨hc,h⟩:=J7 h
  rw [Bool.and_eq_true] at hc
  obtain ⟨C,k1,k2,k3⟩:=hk cn (by simpa using hc.1) hc.2
  refine ⟨cn,C,δ',q,k1,cn,k1,⟨k2,k3⟩,?_⟩
  unfold oS
  split at h
  ·rename_i q2; (try rw [q2]); exact h
  ·exact h.elim
 ·exact .inl h
theorem XS.weak {m m':MXt} (h:XS X io st m) (w:∀ δ k,m' δ k→m δ k):XS X io st m':=fun C pins s σ H δ fp ex k I R hm=>h C pins s σ H δ fp ex k I R (w δ k hm)
theorem XSs.weak {m m':MXt} (h:XSs X io sts m) (w:∀ δ k,m' δ k→m δ k):XSs X io sts m':=fun C pins s σ H δ fp ex k I R hm=>h C pins s σ H δ fp ex k I R (w δ k hm)
theorem XE.weak {m m':MXt} (h:XE X io e m) (w:∀ δ k,m' δ k→m δ k):XE X io e m':=fun C pins s σ H δ fp ex k I R hm=>h C pins s σ H δ fp ex k I R (w δ k hm)
class NoEx (f:FS):Prop where
 no:∀ δ cn δ',f δ ≠ .ex cn δ'
class NoExK (k:OT→Zc→RS):Prop where
 no:∀ r δ cn δ',k r δ ≠ .ex cn δ'
theorem Zii (f:FS) [NoEx f]:XS X io st (xS X.K f):=Zq5.weak fun δ k ⟨cn,_,δ',h,_⟩=>(NoEx.no δ cn δ' h).elim
theorem Zbx (f:FS) [NoEx f]:XSs X io sts (xS X.K f):=Znq.weak fun δ k ⟨cn,_,δ',h,_⟩=>(NoEx.no δ cn δ' h).elim
instance nx_kDrop_k:NoExK Zi6:=⟨fun _ _ _ _ h=>by cases h⟩
instance nx_kRet_k:NoExK Za1:=⟨fun _ _ _ _ h=>by cases h⟩
instance nx_kSet_k:NoExK (Jh i):=⟨fun _ _ _ _ h=>by cases h⟩
instance nx_kSetO_k:NoExK (Jf i):=⟨fun _ _ _ _ h=>by cases h⟩
instance nx_wE {k:OT→Zc→RS} [NoExK k]:NoEx (wE fa k):=⟨fun δ cn δ' h=>by
 unfold wE at h
 split at h
 ·exact NoExK.no _ _ _ _ h
 ·cases h⟩
instance nx_fSeq [NoEx f] [NoEx g]:NoEx (Zz f g):=⟨fun δ cn δ' h=>by
 unfold Zz at h
 split at h
 ·exact NoEx.no _ _ _ h
 ·exact NoEx.no _ _ _ h⟩
instance nx_fNx:NoEx fNx:=⟨fun _ _ _ h=>by cases h⟩
instance nx_fRetO:NoEx (Zb8 i):=⟨fun _ _ _ h=>by unfold Zb8 at h; split at h <;> cases h⟩
instance nx_fIfS [NoEx u] [NoEx w]:NoEx (W0 ta u w):=⟨fun δ cn δ' h=>by
 unfold W0 at h
 split at h
 ·split at h
  ·exact NoEx.no _ _ _ h
  ·exact NoEx.no _ _ _ h
 ·cases h⟩
theorem Zjn {k:OT→Zc→RS} {δ:Zc} (n:∀ r δ cn δ',k r δ ≠ .ex cn δ') {cn:Str} {δ':Zc} (h:wE fa k δ = .ex cn δ'):False:=by
 unfold wE at h
 split at h
 ·exact n _ _ _ _ h
 ·cases h
instance nx_fAppend:NoEx (Yi i fa):=⟨fun δ cn δ' h=>by
 unfold Yi at h
 split at h
 ·exact Zjn (fun r δ1 _ _ z=>by
   split at z
   ·split at z <;> cases z
   ·cases z) h
 ·cases h⟩
theorem Za4 [NoEx u] {gg:FG} {cn:Str} {δ':Zc}:∀ (ds:List PyData) (δ:Zc),forLoop gg u ds δ ≠ .ex cn δ'
 | [],δ=>fun h=>by cases h
 | d :: ds,δ=>fun h=>by
  rw [Jg] at h
  split at h
  ·cases h
  ·split at h
   ·exact Za4 ds _ h
   ·exact Za4 ds _ h
   ·cases h
   ·exact NoEx.no _ _ _ h
instance nx_fFor [NoEx u] {it:FI} {gg:FG}:NoEx (Zaf it gg u):=⟨fun δ cn δ' h=>by
 unfold Zaf at h
 split at h
 ·exact Za4 _ _ h
 ·cases h⟩
theorem Zbn {cn:Str} {C:Addr} (hc:ClsAt X.K cn C) (h:XS X io st (Zo5 C)):XS X io st (xS X.K (Za0 cn)):=h.weak fun δ k z=>by
 obtain ⟨c',C',δ',h,k1,k2⟩:=z
 cases h
 have:=k1.symm.trans hc
 injection this with this; injection this with this; injection this with this
 subst this
 exact k2
theorem Ze8 {F:FD} {k:OT→Zc→RS} [NoExK k] (h:XE X io e (Zta (sX X.K F) (o2 ra))):XE X io e (xS X.K (wX F ra k)):=h.weak fun δ kk z=>by
 obtain ⟨c',C',δ',h,k1,k2⟩:=z
 unfold wX at h
 split at h
 case h_2=>cases h
 rename_i rs δ1 q
 refine ⟨rs,δ1,q,?_⟩
 split at h
 ·exact (NoExK.no _ _ _ _ h).elim
 ·rename_i q2
  cases h
  exact ⟨C',⟨_,q2,k1⟩,k2⟩
 ·cases h
theorem Jd (h1:XS X io st (xS X.K f)) (m1:MS X io st (oS f)) (h2:XSs X io sts (xS X.K g)) (hx:X.xe = fun _ _=>False:=by rfl):XSs X io (st :: sts) (xS X.K (Zz f g)):=by
 intro C pins s σ H δ fp ex k I R hm
 obtain ⟨cn,C',δ',h,k1,k2⟩:=hm
 unfold Zz at h
 split at h
 ·rename_i δ1 q
  exact Zrp m1 h2 hx C pins s σ H δ fp ex k I R (by
   show (f δ).fits _
   (try rw [q])
   exact ⟨cn,C',δ',h,k1,k2⟩)
 ·exact Zkf h1 C pins s σ H δ fp ex k I R ⟨cn,C',δ',h,k1,k2⟩
theorem J2 (h1:XS X io st (xS X.K f)):XSs X io [st] (xS X.K f):=Zkf h1
theorem Zls {a b:List Stmt} {pos:Pos} (h:XS X io (.If e a b pos) (Z7u (o2 ta) (xS X.K u) (xS X.K w))):XS X io (.If e a b pos) (xS X.K (W0 ta u w)):=h.weak fun δ k z=>by
 obtain ⟨cn,C',δ',h,k1,k2⟩:=z
 unfold W0 at h
 split at h
 case h_2=>cases h
 rename_i b δ1 q
 refine ⟨b,δ1,q,?_⟩
 split at h
 ·rename_i hb; rw [if_pos hb]; exact ⟨cn,C',δ',h,k1,k2⟩
 ·rename_i hb; rw [if_neg hb]; exact ⟨cn,C',δ',h,k1,k2⟩
theorem Zfy {gg:FG} {cn:Str} {δ':Zc}:∀ (ds:List PyData) (δ:Zc),forLoop gg u ds δ = .ex cn δ'→∃ (S:Nat→Zc) (r:Nat),r < ds.length∧S 0 = δ ∧
  (∀ i d,i < r→ds[i]? = some d→∃ δ1,gg d (S i) = some δ1∧(u δ1 = .nx (S (i + 1))∨u δ1 = .ct (S (i + 1))))∧∀ d,ds[r]? = some d→∃ δ1,gg d (S r) = some δ1∧u δ1 = .ex cn δ'
 | [],δ,h=>by cases h
 | d :: ds,δ,h=>by
  rw [Jg] at h
  split at h
  ·cases h
  rename_i δ1 q
  have go:∀ δ2,(u δ1 = .nx δ2∨u δ1 = .ct δ2)→forLoop gg u ds δ2 = .ex cn δ'→∃ (S:Nat→Zc) (r:Nat),r < (d :: ds).length∧S 0 = δ ∧
    (∀ i d',i < r→(d :: ds)[i]? = some d'→∃ δ1,gg d' (S i) = some δ1∧(u δ1 = .nx (S (i + 1))∨u δ1 = .ct (S (i + 1))))∧∀ d',(d :: ds)[r]? = some d'→∃ δ1,gg d' (S r) = some δ1∧u δ1 = .ex cn δ':=fun δ2 hu hl=>by
   obtain ⟨S,r,h1,h2,h3,h4⟩:=Zfy ds δ2 hl
   refine ⟨fun i=>match i with | 0=>δ | i + 1=>S i,r + 1,by simpa using h1,rfl,fun i d' hi hd=>?_,fun d' hd=>h4 d' (by simpa using hd)⟩
   cases i with
   | zero =>
    have:d = d':=by simpa using hd
    subst this
    exact ⟨δ1,q,by show _ = RS.nx (S 0)∨_ = RS.ct (S 0); rw [h2]; exact hu⟩
   | succ i=>exact h3 i d' (by omega) (by simpa using hd)
  split at h
  ·rename_i q2; exact go _ (.inl q2) h
  ·rename_i q2; exact go _ (.inr q2) h
  ·cases h
  ·rename_i q2 _ _ _
   exact ⟨fun _=>δ,0,by simp,rfl,fun i d' hi=>absurd hi (Nat.not_lt_zero i),fun d' hd=>by
    have:d = d':=by simpa using hd
    subst this
    exact ⟨δ1,q,h⟩⟩
theorem Zo9 {it:FI} {gg:FG} (h:XS X io st (Zzy (o2 it) (oG gg) (oS u) (xS X.K u))):XS X io st (xS X.K (Zaf it gg u)):=h.weak fun δ k z=>by
 obtain ⟨cn,C',δ',h,k1,k2⟩:=z
 unfold Zaf at h
 split at h
 case h_2=>cases h
 rename_i ds δ1 q
 refine ⟨ds,δ1,q,?_⟩
 obtain ⟨S,r,h1,h2,h3,h4⟩:=Zfy ds δ1 h
 refine ⟨fun i δ=>δ = S i,r,h1,h2.symm,fun i d δ2 hi hd e=>?_,fun d δ2 hd e=>?_⟩
 ·subst e
  obtain ⟨δ3,a,b⟩:=h3 i d hi hd
  refine ⟨δ3,a,?_⟩
  unfold oS
  rcases b with b | b <;> rw [b] <;> rfl
 ·subst e
  obtain ⟨δ3,a,b⟩:=h4 d hd
  exact ⟨δ3,a,cn,C',δ',b,k1,k2⟩
end
section
variable {P:Program} {w:World} {K:PySem.W.Frag} {mg:Str→Option Value} {base:Heap} {x qual:Str} {st:Stmt} {f:Addr} {fd:FuncData} {N ps:List Str} {n np nn:Nat} {S:FS}
theorem RS.told_fits {r:RS} {o:OT} {k:OT→Prop} (h:r.told = .ok o) (hk:k o):r.fits (Zvu k):=by
 cases r <;> unfold RS.told at h <;> first | (cases h; exact hk) | cases h
theorem Wf (F:Fun K x qual st f fd) (Sc:Zw N ps (Zg st)) (hN:N.length = nn) (hp:np = ps.length)
  (hb:∀ (cdv:Value) (A:Around) (outer:List Env) (s:Shared) (H:Hp) (E:XK),Room n (A.deeper (envOfC qual (Zg st) s.heap.objs.size f cdv))→MSs (Zp6 CX0 P w K mg base N qual (Zg st) f cdv A outer s H E).nox [] (Zo st) (oS S)) :
  FnOk P w K mg base CX0 (n + 1) f fd ps (spD K (sD (J8 np nn S))):=by
 subst hN hp
 refine F.okD Sc (fun ds k h=>?_) fun cdv A outer s H E hr=>⟨_,hb cdv A outer s H E hr,fun ds k h=>?_⟩
 ·obtain ⟨r,h,_⟩:=h
  unfold J8 at h
  split at h
  ·assumption
  ·cases h
 ·obtain ⟨r,h,hk⟩:=h
  unfold J8 at h
  split at h
  ·exact RS.told_fits h hk
  ·cases h
theorem Zhu (F:Fun K x qual st f fd) (Sc:Zw N ps (Zg st)) (hN:N.length = nn) (hp:np = ps.length)
  (hb:∀ (cdv:Value) (A:Around) (outer:List Env) (s:Shared) (H:Hp) (E:XK),Room n (A.deeper (envOfC qual (Zg st) s.heap.objs.size f cdv))→XSs (Zp6 (CX1 P w) P w K mg base N qual (Zg st) f cdv A outer s H E).nox [] (Zo st) (xS K S)) :
  FnOk P w K mg base (CX1 P w) (n + 1) f fd ps (spX K (sX K (J8 np nn S))):=by
 subst hN hp
 refine F.okX Sc (fun ds cl h=>?_) fun cdv A outer s H E hr=>⟨_,hb cdv A outer s H E hr,fun ds cl h=>?_⟩
 ·obtain ⟨r,h,_⟩:=h
  unfold J8 at h
  split at h
  ·assumption
  ·cases h
 ·obtain ⟨c,h,hc⟩:=h
  unfold J8 at h
  split at h
  case isFalse=>cases h
  have e:Zac N.length ds = Zft N ds:=rfl
  rw [e] at h
  cases q:S (Zft N ds) <;> rw [q] at h <;> unfold RS.told at h <;> cases h
  exact ⟨_,cl,_,q,hc,rfl⟩
end
end L2
namespace L2
open PySem PySem.Spec PyProof.Rows
noncomputable def i2 (g:Int→Int→PyData):PyData→PyData→Option PyData:=fun d e=>match d,e with | .int i,.int j=>some (g i j) | _,_=>none
noncomputable def i2c (c:Int→Int→Bool) (g:Int→Int→PyData):PyData→PyData→Option PyData:=fun d e=>match d,e with | .int i,.int j=>if c i j = true then some (g i j) else none | _,_=>none
theorem Zo7 {g:Int→Int→PyData}:ByS (i2 g) (Zsn g):=fun d e r k h hk=>by
 unfold i2 at h
 split at h
 ·cases h; exact hk
 ·cases h
theorem Zjy {c:Int→Int→Bool} {C:Int→Int→Prop} {g:Int→Int→PyData} (hc:∀ i j,c i j = true→C i j):ByS (i2c c g) (d2I C g):=fun d e r k h hk=>by
 unfold i2c at h
 split at h
 ·split at h
  ·cases h; exact ⟨hc _ _ ‹_›,hk⟩
  ·cases h
 ·cases h
noncomputable def Zxv (a b:Int):Bool:=!(decide (Builtin.Int.intBits a > shortFactorBits) && decide (Builtin.Int.intBits b > shortFactorBits) && Builtin.Int.intTooBig (Builtin.Int.intBits a + Builtin.Int.intBits b))
noncomputable def Zy5 (_ j:Int):Bool:=decide (j ≠ 0) && decide (j.natAbs.log2 < 9000)
noncomputable def Z72 (_ j:Int):Bool:=decide (j ≠ 0)
noncomputable def Z98 (i j:Int):Bool:=decide (0 ≤ j∧j ≤ 1000000∧i.natAbs < 2 ^ 64)
theorem Zhh {a b:Int}:Zxv a b = true ↔ IntMulOk a b:=by
 unfold Zxv IntMulOk
 rw [Bool.not_eq_true',Bool.not_eq_true]
noncomputable def Jq:=i2 fun i j=>.int (i + j)
noncomputable def gSb:=i2 fun i j=>.int (i - j)
noncomputable def Zfd:=i2c Zxv fun i j=>.int (i * j)
noncomputable def Zad:=i2c Zy5 fun i j=>.int (i.fdiv j)
noncomputable def Za2:=i2c Z72 fun i j=>.int (i.fmod j)
noncomputable def Zq0:=i2c Z98 fun i j=>.int (i ^ j.toNat)
noncomputable def gLt:=i2 fun i j=>.bool (decide (i < j))
noncomputable def gLe:=i2 fun i j=>.bool (decide (i ≤ j))
noncomputable def gGt:=i2 fun i j=>.bool (decide (j < i))
noncomputable def gGe:=i2 fun i j=>.bool (decide (j ≤ i))
theorem Z5u:ByS Jq (Zsn fun i j=>.int (i + j)):=Zo7
theorem Z36:ByS gSb (Zsn fun i j=>.int (i - j)):=Zo7
theorem Z6o:ByS Zfd (d2I MulOk fun i j=>.int (i * j)):=Zjy fun i j h=>⟨Zhh.mp h⟩
theorem Zx6:ByS Zad (d2I Z6v fun i j=>.int (i.fdiv j)):=Zjy fun i j h=>⟨by
 unfold Zy5 at h
 rw [Bool.and_eq_true] at h
 exact ⟨of_decide_eq_true h.1,of_decide_eq_true h.2⟩⟩
theorem Z5s:ByS Za2 (d2I (fun _ j=>j ≠ 0) fun i j=>.int (i.fmod j)):=Zjy fun i j h=>of_decide_eq_true h
theorem Z5m:ByS Zq0 (d2I Z7s fun i j=>.int (i ^ j.toNat)):=Zjy fun i j h=>⟨(of_decide_eq_true h:0 ≤ j∧j ≤ 1000000∧i.natAbs < 2 ^ 64)⟩
theorem Z92:ByS gLt (Zsn fun i j=>.bool (decide (i < j))):=Zo7
theorem Yaj:ByS gGt (Zsn fun i j=>.bool (decide (j < i))):=Zo7
theorem Z86:ByS gGe (Zsn fun i j=>.bool (decide (j ≤ i))):=Zo7
noncomputable def gEq:PyData→PyData→Option PyData:=fun d e=>if (SeqAt.shaped d && SeqAt.shaped e) = true then some (.bool (PyData.eqv d e)) else none
noncomputable def gNe:PyData→PyData→Option PyData:=fun d e=>if (SeqAt.shaped d && SeqAt.shaped e) = true then some (.bool (!PyData.eqv d e)) else none
theorem Zxw:ByS gEq dEq:=fun d e r k h hk=>by
 unfold gEq at h
 split at h
 ·rename_i q
  rw [Bool.and_eq_true] at q
  cases h
  exact ⟨⟨q.1⟩,⟨q.2⟩,hk⟩
 ·cases h
theorem Z83:ByS gNe dNe:=fun d e r k h hk=>by
 unfold gNe at h
 split at h
 ·rename_i q
  rw [Bool.and_eq_true] at q
  cases h
  exact ⟨⟨q.1⟩,⟨q.2⟩,hk⟩
 ·cases h
noncomputable def gIs:PyData→PyData→Option PyData:=fun d e=>match e with | .none=>some (.bool (Zgi d)) | _=>none
noncomputable def Zyk:PyData→PyData→Option PyData:=fun d e=>match e with | .none=>some (.bool (!Zgi d)) | _=>none
noncomputable def Zhm (neg:Bool):PyData→PyData→Option PyData:=fun d e=>match Zj0 e with
 | some ds=>if (scD d && ds.all scD) = true then some (.bool (if neg then !memS d ds else memS d ds)) else none
 | none=>none
theorem Zr7 {neg:Bool}:ByS (Zhm neg) (dIn neg):=fun d e r k h hk=>by
 unfold Zhm at h
 split at h
 case h_2=>cases h
 rename_i ds q
 split at h
 case isFalse=>cases h
 rename_i q2
 rw [Bool.and_eq_true] at q2
 cases h
 refine ⟨q2.1,?_⟩
 cases e <;> cases q
 ·exact ⟨q2.2,hk⟩
 ·exact ⟨q2.2,hk⟩
noncomputable def gIx:PyData→PyData→Option OT:=fun d e=>(ixD d e).bind fun x=>some (.fz x)
theorem Yal:ByO gIx dIx:=fun d e r k h hk=>by
 obtain ⟨x,h1,h2⟩:=bs h
 cases h2
 unfold dIx
 rw [h1]
 exact hk
noncomputable def Zp9:PyData→PyData→Option OT:=fun d e=>match d,e with | .list ds,.list es=>if ds.length + es.length ≤ sizeLine then some (.nd ((ds ++ es).map OT.fz)) else none | _,_=>none
theorem Zx9:ByO Zp9 dCat:=fun d e r k h hk=>by
 unfold Zp9 at h
 split at h
 ·split at h
  ·cases h; exact ⟨‹_›,hk⟩
  ·cases h
 ·cases h
noncomputable def Zb7:List PyData→Option PyData:=fun ds=>match ds with | [d]=>(Zsa d).bind fun n=>some (.int n) | _=>none
theorem Z5x:∀ ds r k,Zb7 ds = some r→k r→Z6y ds k:=fun ds r k h hk=>by
 unfold Zb7 at h
 split at h
 ·obtain ⟨n,h1,h2⟩:=bs h
  cases h2
  show match Zsa _ with | some n=>_ | none=>_
  rw [h1]
  exact hk
 ·cases h
noncomputable def Z4j:List PyData→Option PyData:=fun ds=>match ds with | [.int i]=>some (.int (if i < 0 then -i else i)) | _=>none
noncomputable def Yaf:List PyData→Option PyData:=fun ds=>match ds with | [.int i,.int j]=>some (.int (if j > i then j else i)) | _=>none
noncomputable def Z9c:List PyData→Option PyData:=fun ds=>match ds with | [.int i,.int j]=>some (.int (if j < i then j else i)) | _=>none
noncomputable def Z77:List PyData→Option PyData:=fun ds=>match ds with | [.int i]=>some (.int i) | [.bool b]=>some (.int (if b then 1 else 0)) | _=>none
noncomputable def Zoe:List PyData→Option OT:=fun ds=>match ds with | [d]=>(Zj0 d).bind fun es=>some (.nd (es.map OT.fz)) | _=>none
theorem Zsd:∀ ds r k,Zoe ds = some r→k r→Z0j ds k:=fun ds r k h hk=>by
 unfold Zoe at h
 split at h
 ·obtain ⟨n,h1,h2⟩:=bs h
  cases h2
  show match Zj0 _ with | some n=>_ | none=>_
  rw [h1]
  exact hk
 ·cases h
noncomputable def Zl5:List PyData→Option (List Int)
 | []=>some []
 | .int i :: r=>(Zl5 r).bind fun l=>some (i :: l)
 | _ :: _=>none
theorem Zg6:∀ {ds:List PyData} {ns:List Int},Zl5 ds = some ns→ds = ns.map PyData.int
 | [],_,h=>by cases h; rfl
 | .int i :: r,_,h=>by
  obtain ⟨l,h1,h2⟩:=bs h
  cases h2
  rw [Zg6 h1]; rfl
 | .none :: _,_,h=>by cases h
 | .bool _ :: _,_,h=>by cases h
 | .str _ :: _,_,h=>by cases h
 | .list _ :: _,_,h=>by cases h
 | .tuple _ :: _,_,h=>by cases h
 | .dict _ :: _,_,h=>by cases h
@[simp] theorem Zno:∀ ns:List Int,Zl5 (ns.map PyData.int) = some ns
 | []=>rfl
 | n :: ns=>by rw [List.map_cons,Zl5,Zno ns]; rfl
section
variable {X:Cx} {io:List Nat} {p c:Bool} {e tg:Expr} {es:List Expr} {st:Stmt} {fa fb fc:FE} {ra:FA} {i:Nat}
noncomputable def Z8z (a:FA):FE:=fun δ=>(a δ).bind fun p=>match OT.datas p.1 with | [.int j]=>if rOk j = true∧j.toNat ≤ sizeLine then some (.nd ((Zcw 0 j.toNat).map OT.fz),p.2) else none | _=>none
noncomputable def Z8g (a b:FE):FE:=fun δ=>(a δ).bind fun p=>(b p.2).bind fun q=>match q.1.data with | .int k=>if rOk k = true∧k.toNat ≤ sizeLine then some (.nd (List.replicate k.toNat (.fz p.1.data)),p.2) else none | _=>none
noncomputable def Zj4:PyData→Option Str | .dict [(.str x,.none)]=>some x | _=>none
theorem Zna {d:PyData} {x:Str} (h:Zj4 d = some x):d = exD x:=by
 unfold Zj4 at h
 split at h
 ·cases h; rfl
 ·cases h
noncomputable def Zrg (xs:List Str) (D:Str) (a:FE):FE:=fun δ=>(a δ).bind fun p=>(Zj4 p.1.data).bind fun x=>if xs.contains x = true then some (.fz (.bool (Zsw x D)),p.2) else none
theorem Zw3 {xs:List Str} {D:Str} {cv:Value} (hk:∀ x ∈ xs,∃ C,ClsAt X.K x C∧PySem.W.kitOne X.K (.ref C) cv = some (Zsw x D)) (h:ME X io p c e (Zz6 X.K cv (o2 fa))):ME X io p c e (o2 (Zrg xs D fa)):=h.weak fun δ K h=>by
 obtain ⟨r,δ',h,k⟩:=h
 obtain ⟨⟨x,δ1⟩,h1,h⟩:=bs h
 obtain ⟨n,h2,h⟩:=bs h
 split at h
 case isFalse=>cases h
 rename_i q
 cases h
 obtain ⟨C,k1,k2⟩:=hk n (by simpa using q)
 exact ⟨x,δ1,h1,n,C,_,Zna h2,k1,k2,k⟩
end
end L2
namespace L2
open PySem PySem.Spec PyProof.Rows
variable {G:PySem.W.Frag}
section
variable {X:Cx} {io:List Nat} {p c:Bool} {e a b:Expr} {es:List Expr} {m ma mb:MEt} {mr:MAt} {pos apos cpos px py pt sp kp:Pos} {i j:Nat} {x y:Str} {fa fb:FE} {ra:FA} {st:Stmt}
noncomputable def Z6n (a:FA):FE:=fun δ=>(a δ).bind fun p=>if p.1.length ≤ sizeLine then some (.tp p.1,p.2) else none
noncomputable def Zk4 (i c:Nat) (m:MEt):MSt:=fun D δ=>match δ[i]? with
 | some (some (.tp ts))=>match ts[c]? with
  | some (.nd us)=>m δ fun r _=>us.length < sizeLine∧D.nx (δ.set i (some (.tp (ts.set c (.nd (us ++ [.fz r.data]))))))
  | _=>False
 | _=>False
theorem Zqc (i c:Nat) {kk:Nat} (he:ME X io true true e m) (hN:X.N[i]? = some x:=by rfl) (hv:Vis X.env.scope x:=by first | exact Or.inl rfl | exact Or.inr (Or.inl rfl) | exact Or.inr (Or.inr rfl)) (hd:(x == ("__debug__" : Str)) = false:=by decide)
  (hcd:(x == ("__classdict__" : Str)) = false:=by decide)
  (hbase:attributeBase (.Subscript (.Name x px) (.Constant (.int c) kk kp) sp) "append" X.env (eval (.Subscript (.Name x px) (.Constant (.int c) kk kp) sp) X.env) = eval (.Subscript (.Name x px) (.Constant (.int c) kk kp) sp) X.env:=by rfl)
  (hfew:((backTo cpos (starEach [e] X.env)).all (fun x=>!x.1) && (backToKw cpos (keywordEach [] X.env)).all (fun x=>x.1.isSome)
   && decide ([e].length + ([]:List Keyword).length + (if ([]:List Keyword).isEmpty then 0 else 1) < 30)) = true:=by rfl)
  (hline:(apos.endLine == cpos.line) = true:=by rfl) (hs:starEach [e] X.env = (false,eval e X.env) :: starEach [] X.env:=by rfl) (hplain:(backTo cpos (starEach [] X.env)).any (·.1) = false:=by rfl)
  (hsw:swapsWith (.Call (.Attribute (.Subscript (.Name x px) (.Constant (.int c) kk kp) sp) "append" apos) [e] [] cpos) none pos.line X.env = pure false:=by rfl) :
  MS X io (.Expr (.Call (.Attribute (.Subscript (.Name x px) (.Constant (.int c) kk kp) sp) "append" apos) [e] [] cpos) pos) (Zk4 i c m):=by
 obtain ⟨_,A,s⟩:=he
 refine ⟨_,Zc3 (Zmb PySem.F.plainAttrs_list PySem.F.slot_list_append PySem.F.type_list_append Zck (Zwb (Zca rfl) (pv i hN hv hd hcd) Zsm (fun _ _=>rfl)) (Jx A Zdn hs) hbase hfew hline hs hplain) hsw,fun C H σ δ fp ex D D' R h E=>?_⟩
 unfold Zk4 at h
 split at h
 case h_2=>exact h.elim
 rename_i ts hi
 split at h
 case h_2=>exact h.elim
 rename_i us hus
 obtain ⟨v0,hv0,ow⟩:=R.own i _ hi
 generalize hfi:fp i = as at ow
 cases ow with
 | tp hx o =>
  rename_i a' xs
  obtain ⟨xr,cr,hxr,orow,hsub⟩:=o.get hus
  cases orow with
  | nd hb r0 =>
   rename_i b' ws bs4
   refine ⟨_,hv0,.inr (.inl ⟨a',xs,c,V.ref b',rfl,rfl,.inl (.inl hx),?_,?_⟩)⟩
   ·unfold atI ixN
    have hc:c < xs.length:=(List.getElem?_eq_some_iff.mp hxr).1
    rw [if_pos (by omega),if_pos (by omega)]
    simpa using hxr
   refine ⟨.inl ⟨rfl,ws,.inl (.inl hb)⟩,?_⟩
   refine s.pureAfter R h fun H1 v r R1 s1 q h1=>?_
   have hbm:b' ∈ fp i:=by rw [hfi]; exact hsub.subset (.head _)
   have hLb:¬ Lf C fp ex b':=fun l=>l.1 ⟨i,hbm⟩
   have q':=q.wide (L':=Lf C fp ex) fun a l _=>l rfl
   have o1:Owns X.K H1 (Lf C fp ex) xs ts as:=o.same s1
   have nd1:as.Nodup:=hfi ▸ R.nd i
   obtain ⟨as',oo,ss,_⟩:=Owns.deep (ws':=ws ++ [v]) (us':=us ++ [.fz r.data]) (s1 _ _ hb) hLb (fun cs hcs=>⟨cs,by have:=hcs.snoc (.fz q'); simpa using this,List.Sublist.refl _⟩) o1 nd1 hxr hus
   refine ⟨b',ws,v,rfl,rfl,s1 _ _ hb,by rw [r0.length]; exact h1.1,?_⟩
   have sub:∀ a,a ∈ as'→a ∈ fp i:=fun a m=>by rw [hfi]; exact ss.subset m
   have kpp:∀ b o,H1 b = some o→b ≠ b'→upd H1 b' (.lst (ws ++ [v])) b = some o:=fun b o e n=>by rw [Zj n]; exact e
   have lw:∀ a,Lf C fp ex a→upd H1 b' (.lst (ws ++ [v])) a ≠ none→Lf C (fpu fp i as') (exu ex []) a:=fun a l _=>⟨fun z=>by
    rcases z.of_u with z | ⟨j,_,z⟩
    ·exact l.1 ⟨i,sub a z⟩
    ·exact l.1 ⟨j,z⟩,fun z=>l.2.1 (Zae.mp z),l.2.2⟩
   have hab:a' ≠ b':=fun z=>by rw [z,hb] at hx; cases hx
   obtain ⟨R4,S4⟩:=R1.change (new:=[]) (as':=as') (t':=.tp (ts.set c (.nd (us ++ [.fz r.data])))) (H':=upd H1 b' (.lst (ws ++ [v]))) hi hv0 (fun b o e nb=>kpp b o e fun z=>nb (by rw [z]; exact hbm)) (fun b e=>by
    by_cases q:b = b'
    ·subst q; rw [Zm] at e; cases e
    ·rwa [Zj q] at e) (.tp (by rw [Zj hab]; exact s1 _ _ hx) (oo.wide lw)) (nd1.sublist ss) (fun a m=>.inl (sub a m)) (fun a m=>nomatch m)
   have k1:Kp H fp H1 fp:=⟨fun b o e _=>s1 _ _ e,fun z=>(nomatch z),fun a z=>.inl z,s1.al⟩
   exact E.nx _ σ _ _ (R4.drop fun a z=>.inl z) (k1.trans S4.kp) h1.2
noncomputable def Zdt (i c:Nat) (e:FE):FS:=fun δ=>match δ[i]? with
 | some (some (.tp ts))=>match ts[c]? with
  | some (.nd us)=>wE e (fun r _=>if us.length < sizeLine then .nx (δ.set i (some (.tp (ts.set c (.nd (us ++ [.fz r.data])))))) else .bad) δ
  | _=>.bad
 | _=>.bad
theorem Zqs {c:Nat} (h:MS X io st (Zk4 i c (o2 fa))):MS X io st (oS (Zdt i c fa)):=h.weak fun D δ h=>by
 unfold oS Zdt at h; unfold Zk4
 split at h
 case h_2=>exact h.elim
 rename_i q; (try rw [q]); (try dsimp only)
 split at h
 case h_2=>exact h.elim
 rename_i q2; (try rw [q2]); (try dsimp only)
 exact (Zkm h).imp fun r δ' z=>J7 z
instance nx_fAppAt {c:Nat}:NoEx (Zdt i c fa):=⟨fun δ cn δ' h=>by
 unfold Zdt at h
 split at h
 ·split at h
  ·exact Zjn (fun r δ1 _ _ z=>by split at z <;> cases z) h
  ·cases h
 ·cases h⟩
noncomputable def Z7v (i j:Nat) (a:FA):FS:=fun δ=>match a δ with
 | some (rs,δ1)=>match OT.datas rs with
  | [d,e]=>.nx ((δ1.set i (some (.fz d))).set j (some (.fz e)))
  | _=>.bad
 | none=>.bad
end
class NoStar (e:Expr):Prop where
 h:∀ es env,starEach (e :: es) env = (false,eval e env) :: starEach es env
instance nx_Name {x:Str} {p:Pos}:NoStar (.Name x p):=⟨fun _ _=>rfl⟩
instance nx_Constant {x k} {p:Pos}:NoStar (.Constant x k p):=⟨fun _ _=>rfl⟩
instance nx_BinOp {a o b} {p:Pos}:NoStar (.BinOp a o b p):=⟨fun _ _=>rfl⟩
instance nx_Call {f a k} {p:Pos}:NoStar (.Call f a k p):=⟨fun _ _=>rfl⟩
instance nx_Subscript {a b} {p:Pos}:NoStar (.Subscript a b p):=⟨fun _ _=>rfl⟩
instance nx_ListComp {a b s} {p:Pos}:NoStar (.ListComp a b s p):=⟨fun _ _=>rfl⟩
theorem Zi {X:Cx} {io:List Nat} {p p' c c' p2 c2:Bool} {e:Expr} {es:List Expr} {fa:FE} {ra:FA} [NoStar e] (ha:ME X io p c e (o2 fa)) (hr:MA X io p' c' es (o2 ra)) (hc:p' = true∨c = true:=by first | exact Or.inl rfl | exact Or.inr rfl) (h2:(p && p') = p2:=by rfl) (h3:(c && c') = c2:=by rfl):MA X io p2 c2 (e :: es) (o2 (Ze fa ra)) :=
 h2 ▸ h3 ▸ Zvk (Zt1 ha hr hc (NoStar.h es X.env))
theorem Zfb {X:Cx} {io:List Nat} {p p' c c':Bool} {e:Expr} {m:MEt} (h:ME X io p c e m) (h2:p = p':=by rfl) (h3:c = c':=by rfl):ME X io p' c' e m:=h2 ▸ h3 ▸ h
end L2
namespace L2
open PySem PySem.Spec PyProof.Rows
variable {G:PySem.W.Frag}
section
variable {X:Cx} {io:List Nat} {p c:Bool} {e a b:Expr} {es:List Expr} {m ma mb:MEt} {mr:MAt} {pos apos cpos px py pt sp kp:Pos} {i j:Nat} {x y:Str} {fa fb:FE} {ra:FA} {st:Stmt} {u:FS}
end
end L2
namespace L2
open PySem PySem.Spec PyProof.Rows
structure Gives (P:Program) (w:World) (it:Addr) (f:List Addr) (St:Heap→Prop) (x:Value) (St':Heap→Prop):Prop where
 mem:it ∈ f
 run:∀ {A:Around} {E:Value→Shared→Prop} {s:Shared} {Q:Value→Shared→Prop},St s.heap→(∀ h',St' h'→Heap.SameBut it s.heap h'→Q x { s with heap:=h' })→wpAny (model P w) A (Builtin.SmallTypes.nextOf (.ref it)) Q E s
 keep:∀ h h',(∀ c ∈ f,∀ o,h.get? c = some o→h'.get? c = some o)→St h→St h'
 keep':∀ h h',(∀ c ∈ f,∀ o,h.get? c = some o→h'.get? c = some o)→St' h→St' h'
structure Zfq (P:Program) (w:World) (it:Addr) (f:List Addr) (St:Heap→Prop):Prop where
 mem:it ∈ f
 run:∀ {A:Around} {E:Value→Shared→Prop} {s:Shared} {Q:Value→Shared→Prop},A.handled = none→St s.heap→(∀ h' e,Heap.ExtBut it s.heap h'→(∃ o,h'.get? e = some o∧o.cls = .type "StopIteration")→E (.ref e) { s with heap:=h' })→wpAny (model P w) A (Builtin.SmallTypes.nextOf (.ref it)) Q E s
 keep:∀ h h',(∀ c ∈ f,∀ o,h.get? c = some o→h'.get? c = some o)→St h→St h'
structure ZA (z TI TO i1 i2:Addr) (f1 f2:List Addr):Prop where
 TIz:TI ≠ z
 TOz:TO ≠ z
 a1:∀ c ∈ f1,c ≠ z∧c ≠ TO∧c ≠ i2
 a2:∀ c ∈ f2,c ≠ z∧c ≠ TO∧c ≠ i1
section
variable {P:Program} {w:World} {A:Around} {E:Value→Shared→Prop} {s:Shared}
theorem Zbm {T:Addr} {a b x:Value} {k:Nat} {Q:Unit→Shared→Prop} (hT:IsPair s.heap T a b) (h:∀ h',h'.get? T = some { cls:=.type "tuple", data:=.seq ((#[a,b]:Array Value).setIfInBounds k x) }→Heap.SameBut T s.heap h'→Q () { s with heap:=h' }) :
  wpAny (model P w) A (updateSeq T (·.setIfInBounds k x)) Q E s:=wpAny_updateSeq_pair hT h
theorem Zps {z TI TO i1 i2:Addr} {f1 f2:List Addr} {S1 T1 S2 T2:Heap→Prop} {x y a b:Value} {Q:Value→Shared→Prop} (D:ZA z TI TO i1 i2 f1 f2) (G1:Gives P w i1 f1 S1 x T1) (G2:Gives P w i2 f2 S2 y T2)
  (hz:IsZip s.heap z TI TO .none) (hTI:IsPair s.heap TI (.ref i1) (.ref i2)) (hTO:IsPair s.heap TO a b) (h1:S1 s.heap) (h2:S2 s.heap)
  (hQ:∀ h',IsZip h' z TI TO (rawInt s.heap.objs.size)→IsPair h' TO x y→T1 h'→T2 h'→IsPair h' s.heap.objs.size x y →
   (∀ c o,c ∉ [z,TO,i1,i2]→s.heap.get? c = some o→h'.get? c = some o)→Q (.ref s.heap.objs.size) { s with heap:=h' }) :
  wpAny (model P w) A (Builtin.«zip.__next__» ⟨[.ref z],[]⟩) (fun fin s'=>∃ v,fin = .done (.ret v)∧Q v s') E s:=by
 obtain ⟨i1z,i1O,i12⟩:=D.a1 i1 G1.mem
 obtain ⟨i2z,i2O,i21⟩:=D.a2 i2 G2.mem
 have r1:z ∉ f1∧TO ∉ f1∧i2 ∉ f1:=⟨fun m=>(D.a1 z m).1 rfl,fun m=>(D.a1 TO m).2.1 rfl,fun m=>(D.a1 i2 m).2.2 rfl⟩
 have r2:z ∉ f2∧TO ∉ f2∧i1 ∉ f2:=⟨fun m=>(D.a2 z m).1 rfl,fun m=>(D.a2 TO m).2.1 rfl,fun m=>(D.a2 i1 m).2.2 rfl⟩
 have st:∀ {b:Addr} {h h':Heap} {f:List Addr},Heap.SameBut b h h'→b ∉ f→∀ c ∈ f,∀ o,h.get? c = some o→h'.get? c = some o:=fun sb hb c hc o e=>sb.extBut _ _ (fun q=>hb (q ▸ hc)) e
 show wpAny _ _ (field (.ref z) 2 >>= _) _ _ _
 refine wpAny_bind (wpAny_field hz rfl (x:=.bool false) rfl ?_)
 show wpAny _ _ (field (.ref z) 3 >>= _) _ _ _
 refine wpAny_bind (wpAny_field hz rfl (x:=.ref TI) rfl (wpAny_bind (wpAny_seqItems hTI rfl ?_)))
 show wpAny _ _ (Builtin.SmallTypes.ownedTupleIsFree (.ref z) >>= _) _ _ _
 refine wpAny_bind ?_
 unfold Builtin.SmallTypes.ownedTupleIsFree
 refine wpAny_bind (wpAny_field hz rfl (x:=.none) rfl (wpAny_pure ?_))
 simp only [if_true]
 refine wpAny_bind (wpAny_rule (wpAny_bind (wpAny_field hz rfl (x:=.ref TO) rfl (wpAny_bind (wpAny_setField_rec hz (by simp) fun h3 z3 b3=>?_)))))
 replace z3:IsZip h3 z TI TO .ellipsis:=z3
 refine wpAny_bind ?_
 simp only [List.zipIdx_cons,List.zipIdx_nil,List.forIn_cons,List.forIn_nil]
 refine wpAny_bind (wpAny_bind (wpAny_onRaise ?_))
 show wpAny _ _ (Builtin.SmallTypes.nextOf (.ref i1) >>= _) _ _ _
 refine wpAny_bind (G1.run (s:={ s with heap:=h3 }) (G1.keep _ _ (st b3 r1.1) h1) fun h4 k4 b4=>wpAny_pure ?_)
 have o4:IsPair h4 TO a b:=b4.extBut _ _ i1O.symm (b3.extBut _ _ D.TOz hTO)
 refine wpAny_bind (wpAny_seqItems o4 rfl (wpAny_bind (Zbm (s:={ s with heap:=h4 }) o4 fun h5 o5 b5=>wpAny_bind (wpAny_letGo (wpAny_pure ?_)))))
 replace o5:IsPair h5 TO x b:=o5
 refine wpAny_bind (wpAny_bind (wpAny_onRaise ?_))
 show wpAny _ _ (Builtin.SmallTypes.nextOf (.ref i2) >>= _) _ _ _
 refine wpAny_bind (G2.run (s:={ s with heap:=h5 }) (G2.keep _ _ (st b5 r2.2.1) (G2.keep _ _ (st b4 r2.2.2) (G2.keep _ _ (st b3 r2.1) h2))) fun h6 k6 b6=>wpAny_pure ?_)
 have o6:IsPair h6 TO x b:=b6.extBut _ _ i2O.symm o5
 refine wpAny_bind (wpAny_seqItems o6 rfl (wpAny_bind (Zbm (s:={ s with heap:=h6 }) o6 fun h7 o7 b7=>wpAny_bind (wpAny_letGo (wpAny_pure (wpAny_pure ?_))))))
 replace o7:IsPair h7 TO x y:=o7
 refine wpAny_bind (wpAny_seqItems o7 rfl (wpAny_bind (wpAny_newTuple ?_)))
 have sz:h7.objs.size = s.heap.objs.size:=by rw [b7.1,b6.1,b5.1,b4.1,b3.1]
 have z7:IsZip h7 z TI TO .ellipsis:=b7.extBut _ _ D.TOz.symm (b6.extBut _ _ i2z.symm (b5.extBut _ _ D.TOz.symm (b4.extBut _ _ i1z.symm z3)))
 have t1:T1 h7:=G1.keep' _ _ (st b7 r1.2.1) (G1.keep' _ _ (st b6 r1.2.2) (G1.keep' _ _ (st b5 r1.2.1) k4))
 have t2:T2 h7:=G2.keep' _ _ (st b7 r2.2.1) k6
 have old:∀ c o,c ∉ [z,TO,i1,i2]→s.heap.get? c = some o→h7.get? c = some o:=fun c o n e=>by
  simp only [List.mem_cons,List.not_mem_nil,or_false,not_or] at n
  exact b7.extBut _ _ n.2.1 (b6.extBut _ _ n.2.2.2 (b5.extBut _ _ n.2.1 (b4.extBut _ _ n.2.2.1 (b3.extBut _ _ n.1 e))))
 show wpAny _ _ (Builtin.SmallTypes.ownedTupleHandOut (.ref z) (.ref h7.objs.size) >>= _) _ _ _
 refine wpAny_bind ?_
 unfold Builtin.SmallTypes.ownedTupleHandOut
 have zp:IsZip (h7.push { cls:=.type "tuple", data:=.seq #[x,y] }) z TI TO .ellipsis:=Heap.get?_push_of_some _ z7
 refine wpAny_bind (wpAny_setField_rec zp (by simp) fun h8 z8 b8=>?_)
 replace z8:IsZip h8 z TI TO (rawInt h7.objs.size):=z8
 refine wpAny_setField_rec z8 (by simp) fun h9 z9 b9=>?_
 replace z9:IsZip h9 z TI TO (rawInt h7.objs.size):=z9
 have up:∀ c o,c ≠ z→h7.get? c = some o→h9.get? c = some o:=fun c o n e=>b9.extBut _ _ n (b8.extBut _ _ n (Heap.get?_push_of_some _ e))
 have nz:h7.objs.size ≠ z:=Nat.ne_of_gt (Heap.lt_size z7)
 have p9:IsPair h9 h7.objs.size x y:=b9.extBut _ _ nz (b8.extBut _ _ nz (Heap.get?_push_size _ rfl))
 refine wpAny_pure ⟨_,rfl,?_⟩
 show Q (.ref h7.objs.size) _
 rw [sz] at z9 p9 ⊢
 exact hQ h9 z9 (up _ _ D.TOz o7) (G1.keep' _ _ (fun c hc o e=>up c o (fun q=>r1.1 (q ▸ hc)) e) t1) (G2.keep' _ _ (fun c hc o e=>up c o (fun q=>r2.1 (q ▸ hc)) e) t2) p9 fun c o n e=>up c o (fun q=>n (by simp [q])) (old c o n e)
theorem Zr2 {z TI TO i1 i2:Addr} {f1 f2:List Addr} {S1 T1 S2:Heap→Prop} {a b:Value} {Q:Fin→Shared→Prop} (hh:A.handled = none) (D:ZA z TI TO i1 i2 f1 f2) (g1:Zfq P w i1 f1 S1∨(∃ x,Gives P w i1 f1 S1 x T1)∧Zfq P w i2 f2 S2)
  (hz:IsZip s.heap z TI TO .none) (hTI:IsPair s.heap TI (.ref i1) (.ref i2)) (hTO:IsPair s.heap TO a b) (h1:S1 s.heap) (h2:S2 s.heap)
  (hE:∀ h' e,(∀ c o,c ∉ [z,TO,i1,i2]→s.heap.get? c = some o→h'.get? c = some o)→(∃ o,h'.get? e = some o∧o.cls = .type "StopIteration")→E (.ref e) { s with heap:=h' }) :
  wpAny (model P w) A (Builtin.«zip.__next__» ⟨[.ref z],[]⟩) Q E s:=by
 have r1:z ∉ f1∧TO ∉ f1∧i2 ∉ f1:=⟨fun m=>(D.a1 z m).1 rfl,fun m=>(D.a1 TO m).2.1 rfl,fun m=>(D.a1 i2 m).2.2 rfl⟩
 have r2:z ∉ f2∧TO ∉ f2∧i1 ∉ f2:=⟨fun m=>(D.a2 z m).1 rfl,fun m=>(D.a2 TO m).2.1 rfl,fun m=>(D.a2 i1 m).2.2 rfl⟩
 have st:∀ {b:Addr} {h h':Heap} {f:List Addr},Heap.SameBut b h h'→b ∉ f→∀ c ∈ f,∀ o,h.get? c = some o→h'.get? c = some o:=fun sb hb c hc o e=>sb.extBut _ _ (fun q=>hb (q ▸ hc)) e
 show wpAny _ _ (field (.ref z) 2 >>= _) _ _ _
 refine wpAny_bind (wpAny_field hz rfl (x:=.bool false) rfl ?_)
 show wpAny _ _ (field (.ref z) 3 >>= _) _ _ _
 refine wpAny_bind (wpAny_field hz rfl (x:=.ref TI) rfl (wpAny_bind (wpAny_seqItems hTI rfl ?_)))
 show wpAny _ _ (Builtin.SmallTypes.ownedTupleIsFree (.ref z) >>= _) _ _ _
 refine wpAny_bind ?_
 unfold Builtin.SmallTypes.ownedTupleIsFree
 refine wpAny_bind (wpAny_field hz rfl (x:=.none) rfl (wpAny_pure ?_))
 simp only [if_true]
 refine wpAny_bind (wpAny_rule (wpAny_bind (wpAny_field hz rfl (x:=.ref TO) rfl (wpAny_bind (wpAny_setField_rec hz (by simp) fun h3 z3 b3=>?_)))))
 replace z3:IsZip h3 z TI TO .ellipsis:=z3
 refine wpAny_bind ?_
 simp only [List.zipIdx_cons,List.zipIdx_nil,List.forIn_cons,List.forIn_nil]
 refine wpAny_bind (wpAny_bind (wpAny_onRaise ?_))
 show wpAny _ _ (Builtin.SmallTypes.nextOf (.ref i1) >>= _) _ _ _
 rcases g1 with G1 | ⟨⟨x,G1⟩,G2⟩
 ·obtain ⟨i1z,i1O,i12⟩:=D.a1 i1 G1.mem
  refine wpAny_bind (G1.run (s:={ s with heap:=h3 }) hh (G1.keep _ _ (st b3 r1.1) h1) fun h4 e b4 he=>?_)
  obtain ⟨oe,hoe,hce⟩:=he
  have z4:IsZip h4 z TI TO .ellipsis:=b4 _ _ i1z.symm z3
  have ez:e ≠ z:=fun q=>by subst q; rw [z4] at hoe; cases hoe; simp at hce
  refine wpAny_setField_rec z4 (by simp) fun h5 _ b5=>hE h5 e (fun c o n q=>?_) ⟨oe,b5.extBut _ _ ez hoe,hce⟩
  simp only [List.mem_cons,List.not_mem_nil,or_false,not_or] at n
  exact b5.extBut _ _ n.1 (b4 _ _ n.2.2.1 (b3.extBut _ _ n.1 q))
 ·obtain ⟨i1z,i1O,i12⟩:=D.a1 i1 G1.mem
  obtain ⟨i2z,i2O,i21⟩:=D.a2 i2 G2.mem
  refine wpAny_bind (G1.run (s:={ s with heap:=h3 }) (G1.keep _ _ (st b3 r1.1) h1) fun h4 k4 b4=>wpAny_pure ?_)
  have o4:IsPair h4 TO a b:=b4.extBut _ _ i1O.symm (b3.extBut _ _ D.TOz hTO)
  refine wpAny_bind (wpAny_seqItems o4 rfl (wpAny_bind (Zbm (s:={ s with heap:=h4 }) o4 fun h5 o5 b5=>wpAny_bind (wpAny_letGo (wpAny_pure ?_)))))
  refine wpAny_bind (wpAny_bind (wpAny_onRaise ?_))
  show wpAny _ _ (Builtin.SmallTypes.nextOf (.ref i2) >>= _) _ _ _
  refine wpAny_bind (G2.run (s:={ s with heap:=h5 }) hh (G2.keep _ _ (st b5 r2.2.1) (G2.keep _ _ (st b4 r2.2.2) (G2.keep _ _ (st b3 r2.1) h2))) fun h6 e b6 he=>?_)
  obtain ⟨oe,hoe,hce⟩:=he
  have z6:IsZip h6 z TI TO .ellipsis:=b6 _ _ i2z.symm (b5.extBut _ _ D.TOz.symm (b4.extBut _ _ i1z.symm z3))
  have ez:e ≠ z:=fun q=>by subst q; rw [z6] at hoe; cases hoe; simp at hce
  refine wpAny_setField_rec z6 (by simp) fun h7 _ b7=>hE h7 e (fun c o n q=>?_) ⟨oe,b7.extBut _ _ ez hoe,hce⟩
  simp only [List.mem_cons,List.not_mem_nil,or_false,not_or] at n
  exact b7.extBut _ _ n.1 (b6 _ _ n.2.2.2 (b5.extBut _ _ n.2.1 (b4.extBut _ _ n.2.2.1 (b3.extBut _ _ n.1 q))))
theorem Zl7 {z TI TO i1 i2:Addr} {f1 f2:List Addr} {S1 T1 S2 T2:Heap→Prop} {x y a b:Value} {Q:Option Value→Shared→Prop} (D:ZA z TI TO i1 i2 f1 f2) (G1:Gives P w i1 f1 S1 x T1) (G2:Gives P w i2 f2 S2 y T2)
  (hz:IsZip s.heap z TI TO .none) (hTI:IsPair s.heap TI (.ref i1) (.ref i2)) (hTO:IsPair s.heap TO a b) (h1:S1 s.heap) (h2:S2 s.heap)
  (hQ:∀ h',IsZip h' z TI TO (rawInt s.heap.objs.size)→IsPair h' TO x y→T1 h'→T2 h'→IsPair h' s.heap.objs.size x y →
   (∀ c o,c ∉ [z,TO,i1,i2]→s.heap.get? c = some o→h'.get? c = some o)→Q (some (.ref s.heap.objs.size)) { s with heap:=h' }):wpAny (model P w) A (pyNext (.ref z)) Q E s:=by
 have hT:s.TypeIs (.ref z) "zip" := ⟨_,hz,rfl⟩
 unfold pyNext
 exact wpAny_bind (wpAny_attempt (wpAny_callSpecial?_slot (name:=Str.ofString "__next__") hT F.slot_zip_next (wpAny_call_entry F.slot_zip_next hT F.entry_zip_next (Zps D G1 G2 hz hTI hTO h1 h2 fun h' a1 a2 a3 a4 a5 a6=>wpAny_pure (hQ h' a1 a2 a3 a4 a5 a6)) (F.args_zip_next_1 _))))
theorem Zos {z TI TO i1 i2:Addr} {f1 f2:List Addr} {S1 T1 S2:Heap→Prop} {a b:Value} {Q:Option Value→Shared→Prop} (hh:A.handled = none) (D:ZA z TI TO i1 i2 f1 f2) (g1:Zfq P w i1 f1 S1∨(∃ x,Gives P w i1 f1 S1 x T1)∧Zfq P w i2 f2 S2)
  (hz:IsZip s.heap z TI TO .none) (hTI:IsPair s.heap TI (.ref i1) (.ref i2)) (hTO:IsPair s.heap TO a b) (h1:S1 s.heap) (h2:S2 s.heap)
  (hQ:∀ h',(∀ c o,c ∉ [z,TO,i1,i2]→s.heap.get? c = some o→h'.get? c = some o)→Q none { s with heap:=h' }):wpAny (model P w) A (pyNext (.ref z)) Q E s:=by
 have hT:s.TypeIs (.ref z) "zip" := ⟨_,hz,rfl⟩
 unfold pyNext
 refine wpAny_bind (wpAny_attempt (wpAny_callSpecial?_slot (name:=Str.ofString "__next__") hT F.slot_zip_next (wpAny_call_entry F.slot_zip_next hT F.entry_zip_next (Zr2 hh D g1 hz hTI hTO h1 h2 fun h' e hk he=>?_) (F.args_zip_next_1 _))))
 obtain ⟨o,ho,hc⟩:=he
 exact wpAny_bind (wpAny_isInstance (T := "StopIteration") (b:=true) ⟨o,ho,hc⟩ isSubtype_stop (wpAny_pure (hQ _ hk)))
theorem Zpm {it t:Addr} {i:Nat} {items:Array Value} {x:Value} (hx:items[i]? = some x):Gives P w it [it,t] (fun h=>IsTupIter h it t i∧IsTup h t items) x (fun h=>IsTupIter h it t (i + 1)) where
 mem:=by simp
 run:=fun {A E s Q} ⟨hit,ht⟩ hQ=>by
  obtain ⟨o,ho,hc,hd⟩:=id hit
  obtain ⟨ol,hol,_,nl,hdl⟩:=ht
  unfold Builtin.SmallTypes.nextOf
  refine wpAny_bind (wpAny_callSpecial?_slot (name:=Str.ofString "__next__") hit.typeIs slot_tupleiter_next (wpAny_call_entry slot_tupleiter_next hit.typeIs entry_tupleiter_next ?_ (args_tupleiter_next _)))
  show wpAny _ _ (field (.ref it) 0 >>= _) _ _ s
  refine wpAny_bind (wpAny_field ho hd (x:=.ref t) rfl ?_)
  show wpAny _ _ (if (Value.ref t == Value.none) = true then _ else _) _ _ s
  rw [if_neg (show ¬ ((Value.ref t == Value.none) = true) from Bool.false_ne_true)]
  show wpAny _ _ (field (.ref it) 1 >>= _) _ _ s
  refine wpAny_bind (wpAny_field ho hd (x:=.int i 0) rfl ?_)
  show wpAny _ _ (seqItems? (.ref t) >>= _) _ _ s
  refine wpAny_bind (wpAny_seqItems hol hdl ?_)
  simp only [Int.toNat_natCast,hx]
  refine wpAny_bind (wpAny_setField ho hd (by simp) (wpAny_pure ⟨x,rfl,wpAny_pure (hQ _ ?_ (Heap.SameBut.update ..))⟩))
  exact ⟨_,Heap.get?_update_self _ ho (Obj.isFreed_of_fields (Obj.data_mapFields hd _)),(Obj.cls_mapFields ..).trans hc,by rw [Obj.data_mapFields hd]; simp [rawInt]⟩
 keep:=fun h h' k ⟨⟨o,a1,a2⟩,⟨o',b1,b2⟩⟩=>⟨⟨o,k it (by simp) o a1,a2⟩,⟨o',k t (by simp) o' b1,b2⟩⟩
 keep':=fun h h' k ⟨o,a1,a2⟩=>⟨o,k it (by simp) o a1,a2⟩
theorem Zrv {it t:Addr} {i:Nat} {items:Array Value} (hx:items[i]? = none):Zfq P w it [it,t] (fun h=>IsTupIter h it t i∧IsTup h t items) where
 mem:=by simp
 run:=fun {A E s Q} hh ⟨hit,ht⟩ hE=>by
  obtain ⟨o,ho,hc,hd⟩:=id hit
  obtain ⟨ol,hol,_,nl,hdl⟩:=ht
  unfold Builtin.SmallTypes.nextOf
  refine wpAny_bind (wpAny_callSpecial?_slot (name:=Str.ofString "__next__") hit.typeIs slot_tupleiter_next (wpAny_call_entry slot_tupleiter_next hit.typeIs entry_tupleiter_next ?_ (args_tupleiter_next _)))
  show wpAny _ _ (field (.ref it) 0 >>= _) _ _ s
  refine wpAny_bind (wpAny_field ho hd (x:=.ref t) rfl ?_)
  show wpAny _ _ (if (Value.ref t == Value.none) = true then _ else _) _ _ s
  rw [if_neg (show ¬ ((Value.ref t == Value.none) = true) from Bool.false_ne_true)]
  show wpAny _ _ (field (.ref it) 1 >>= _) _ _ s
  refine wpAny_bind (wpAny_field ho hd (x:=.int i 0) rfl ?_)
  show wpAny _ _ (seqItems? (.ref t) >>= _) _ _ s
  refine wpAny_bind (wpAny_seqItems hol hdl ?_)
  simp only [Int.toNat_natCast,hx]
  refine wpAny_bind (wpAny_rule (wpAny_bind (wpAny_setField ho hd (by simp) ?_)))
  show wpAny _ _ (newExc (.type "StopIteration") [] >>= _) _ _ _
  refine wpAny_bind ?_
  simp only [newExc,newTuple]
  refine wpAny_bind (wpAny_newObj_type ?_ (by size_fits))
  refine wpAny_bind (m:=firstArgMember _ _) (wpAny_of_eq (a:=Value.none) (by first | rfl | (simp only [firstArgMember]; rfl)) ?_)
  refine wpAny_newObj_type ?_ (by size_fits)
  simp only [raiseNew]
  refine wpAny_bind (wpAny_handled ?_)
  first | rw [show A.in1.handled = none from hh] | rw [hh]
  exact wpAny_bind (wpAny_pure (wpAny_throw (hE _ _ (((Heap.SameBut.update ..).extBut.push _).push _) ⟨_,Heap.get?_push_size _ rfl,rfl⟩)))
 keep:=fun h h' k ⟨⟨o,a1,a2⟩,⟨o',b1,b2⟩⟩=>⟨⟨o,k it (by simp) o a1,a2⟩,⟨o',k t (by simp) o' b1,b2⟩⟩
end
noncomputable abbrev zT1 (h:Heap) (a:Addr):Heap:=h.push { cls:=.type "tuple_iterator", data:=.fields #[.ref a,.int 0 0] }
noncomputable abbrev zT2 (h:Heap) (a b:Addr):Heap:=(zT1 h a).push { cls:=.type "tuple_iterator", data:=.fields #[.ref b,.int 0 0] }
noncomputable abbrev zT3 (h:Heap) (a b:Addr):Heap:=(zT2 h a b).push { cls:=.type "tuple", data:=.seq #[.ref h.objs.size,.ref (zT1 h a).objs.size] }
noncomputable abbrev zT4 (h:Heap) (a b:Addr):Heap:=(zT3 h a b).push { cls:=.type "tuple", data:=.seq #[.none,.none] }
noncomputable abbrev zT5 (h:Heap) (a b:Addr):Heap:=(zT4 h a b).push { cls:=.type "zip", data:=.fields #[.none,.bool false,.bool false,.ref (zT2 h a b).objs.size,.ref (zT3 h a b).objs.size] }
theorem Zru (a b:Addr) (xs ys:Array Value) :
  Meets (Builtin.«zip.__new__» ⟨[.type "zip", .ref a,.ref b],[]⟩) (fun _ R s=>IsTup s.heap a xs∧IsTup s.heap b ys∧R (.ok (.ret (.ref (zT4 s.heap a b).objs.size))) { s with heap:=zT5 s.heap a b }) :=
 .of_wp fun prog w A R s h=>by
  obtain ⟨hp,g,d,tk,os⟩:=s
  obtain ⟨h1,h2,h⟩:=h
  have hsub:=sub_zip
  have hL1:IsTup (Shared.heap ⟨hp,g,d,tk,os⟩) a xs:=h1
  have hL2:IsTup (Shared.heap ⟨hp.push { cls:=.type "tuple_iterator", data:=.fields #[.ref a,.int 0 0] },g,d,tk,os⟩) b ys:=h2.push _
  wp_walk using iter_tuple hL1,iter_tuple hL2
  exact ⟨_,rfl,h⟩
section
variable {P:Program} {w:World} {A:Around} {E:Value→Shared→Prop} {s:Shared}
theorem Znw {a b:Addr} {xs ys:Array Value} {Q:Value→Shared→Prop} (h1:IsTup s.heap a xs) (h2:IsTup s.heap b ys)
  (h:∀ h' n,n = s.heap.objs.size→IsZip h' (n + 4) (n + 2) (n + 3) .none→IsPair h' (n + 2) (.ref n) (.ref (n + 1))→IsPair h' (n + 3) .none .none→IsTupIter h' n a 0→IsTupIter h' (n + 1) b 0 →
   (∀ c o,s.heap.get? c = some o→h'.get? c = some o)→Q (.ref (n + 4)) { s with heap:=h' }):wpAny (model P w) A (call (.type "zip") [.ref a,.ref b]) Q E s:=by
 refine callType_new F.called_zip (by decide) (F.typeCall_zip_2 _ _) (F.newCall_zip_2 _ _) (fun obj=>F.args_object_init_3 obj _ _) F.entry_zip_new (Zru a b xs ys) ⟨h1,h2,?_⟩
 have e1:(zT1 s.heap a).objs.size = s.heap.objs.size + 1:=Heap.size_push ..
 have e2:(zT2 s.heap a b).objs.size = s.heap.objs.size + 2:=by rw [Heap.size_push,e1]
 have e3:(zT3 s.heap a b).objs.size = s.heap.objs.size + 3:=by rw [Heap.size_push,e2]
 have e4:(zT4 s.heap a b).objs.size = s.heap.objs.size + 4:=by rw [Heap.size_push,e3]
 have up:∀ {c o},(zT1 s.heap a).get? c = some o→(zT5 s.heap a b).get? c = some o:=fun x=>Heap.get?_push_of_some _ (Heap.get?_push_of_some _ (Heap.get?_push_of_some _ (Heap.get?_push_of_some _ x)))
 have p5:(zT5 s.heap a b).get? (zT4 s.heap a b).objs.size = some _:=Heap.get?_push_size _ rfl
 have p4:(zT5 s.heap a b).get? (zT3 s.heap a b).objs.size = some _:=Heap.get?_push_of_some _ (Heap.get?_push_size _ rfl)
 have p3:(zT5 s.heap a b).get? (zT2 s.heap a b).objs.size = some _:=Heap.get?_push_of_some _ (Heap.get?_push_of_some _ (Heap.get?_push_size _ rfl))
 have p2:(zT5 s.heap a b).get? (zT1 s.heap a).objs.size = some _:=Heap.get?_push_of_some _ (Heap.get?_push_of_some _ (Heap.get?_push_of_some _ (Heap.get?_push_size _ rfl)))
 have p1:(zT5 s.heap a b).get? s.heap.objs.size = some _:=up (Heap.get?_push_size _ rfl)
 show _∧_
 rw [e2,e3,e4] at p5
 rw [e1,e2] at p3
 rw [e3] at p4
 rw [e1] at p2
 rw [e4]
 exact ⟨⟨_,p5,rfl⟩,h _ _ rfl p5 p3 p4 ⟨_,p1,rfl,rfl⟩ ⟨_,p2,rfl,rfl⟩ fun c o x=>up (Heap.get?_push_of_some _ x)⟩
end
theorem nad {c d:Nat} (h:c < d∨d < c):c ≠ d:=by omega
theorem ZA.new {n a b:Nat} (h1:a < n) (h2:b < n):ZA (n + 4) (n + 2) (n + 3) n (n + 1) [n,a] [n + 1,b] where
 TIz:=nad (by omega)
 TOz:=nad (by omega)
 a1:=fun c hc=>by
  simp only [List.mem_cons,List.not_mem_nil,or_false] at hc
  rcases hc with rfl | rfl
  ·exact ⟨nad (by omega),nad (by omega),nad (by omega)⟩
  ·exact ⟨nad (by omega),nad (by omega),nad (by omega)⟩
 a2:=fun c hc=>by
  simp only [List.mem_cons,List.not_mem_nil,or_false] at hc
  rcases hc with rfl | rfl
  ·exact ⟨nad (by omega),nad (by omega),nad (by omega)⟩
  ·exact ⟨nad (by omega),nad (by omega),nad (by omega)⟩
theorem ZA.new2 (n:Nat):(n + 2:Nat) ≠ n + 3∧(n + 2:Nat) ≠ n∧(n + 2:Nat) ≠ n + 1:=⟨by omega,by omega,by omega⟩
section
variable {X:Cx} {io:List Nat} {p c:Bool} {a b:Expr} {mr:MAt}
noncomputable def Z1p (ds:List PyData):Option (List PyData):=match ds with | [.list as,.list bs]=>some (Zi8 as bs) | [.tuple as,.tuple bs]=>some (Zi8 as bs) | _=>none
noncomputable def Zpp (a:FA):FI:=fun δ=>(a δ).bind fun p=>(Z1p (OT.datas p.1)).bind fun ds=>some (ds,p.2)
end
end L2
namespace L2
open PySem PySem.Spec PyProof.Rows
noncomputable def Zc7 {α:Type} (xs:List α) (lo hi st:Option Int):List α :=
 (sliceRange (sliceBounds lo hi st xs.length).1 (sliceBounds lo hi st xs.length).2.1 (sliceBounds lo hi st xs.length).2.2).filterMap (xs[·]?)
theorem Vals.places:∀ {xs:List V} {its:List Value},Vals xs its→∀ js:List Nat,Vals (js.filterMap (xs[·]?)) (js.filterMap (its[·]?))
 | _,_,_,[]=>.nil
 | xs,its,h,j :: js=>by
  have ih:=Vals.places h js
  cases hn:xs[j]? with
  | some x =>
   obtain ⟨u,hu,ru⟩:=h.get hn
   simp only [List.filterMap_cons,hn,hu]
   exact .cons ru ih
  | none =>
   have hv:its[j]? = none:=by
    rw [List.getElem?_eq_none_iff] at hn ⊢
    rw [← h.length]; exact hn
   simp only [List.filterMap_cons,hn,hv]
   exact ih
theorem Das.places {G:PySem.W.Frag} {H:Hp} {L:Addr→Prop} {xs:List V} {ds:List PyData} (h:Das G H L xs ds):∀ js:List Nat,Das G H L (js.filterMap (xs[·]?)) (js.filterMap (ds[·]?))
 | []=>.nil
 | j :: js=>by
  have ih:=Das.places h js
  cases hn:ds[j]? with
  | some x =>
   obtain ⟨u,hu,ru⟩:=h.get hn
   simp only [List.filterMap_cons,hn,hu]
   exact .cons ru ih
  | none =>
   have hv:xs[j]? = none:=by
    rw [List.getElem?_eq_none_iff] at hn ⊢
    rw [h.length]; exact hn
   simp only [List.filterMap_cons,hn,hv]
   exact ih
theorem Das.pick {G:PySem.W.Frag} {H:Hp} {L:Addr→Prop} {xs:List V} {ds:List PyData} (h:Das G H L xs ds) (lo hi st:Option Int):Das G H L (Zc7 xs lo hi st) (Zc7 ds lo hi st):=by
 unfold Zc7
 rw [h.length]
 exact h.places _
theorem Vals.pick {xs:List V} {its:List Value} (h:Vals xs its) (lo hi st:Option Int):Vals (Zc7 xs lo hi st) (slicePick its.toArray lo hi st).toList:=by
 have e:(slicePick its.toArray lo hi st).toList = (sliceRange (sliceBounds lo hi st xs.length).1 (sliceBounds lo hi st xs.length).2.1 (sliceBounds lo hi st xs.length).2.2).filterMap (its[·]?):=by
  simp [slicePick,h.length]
 rw [e]
 exact h.places _
theorem Zes {xs:List V} {its:List Value} (h:Vals xs its) (lo hi st:Option Int):(Zc7 xs lo hi st).length ≤ xs.length:=by
 have e:=(h.pick lo hi st).length
 have s:=slicePick_size_le its.toArray lo hi st
 have l:=h.length
 simp only [Array.length_toList,List.size_toArray] at e s
 omega
section
variable {X:Cx} {e:Expr} {te:TE} {lo hi:Option Expr} {se:Expr} {tl th ts:TO} {pos p2:Pos}
noncomputable def tSt (K:PySem.W.Frag) (te:TE) (tl th ts:TO):TE:=fun σ H Q=>te σ H fun x H1=>tl σ H1 fun l H2=>th σ H2 fun u H3=>ts σ H3 fun k H4=>∃ a xs,x = .ref a∧SqL K H4 a xs∧k ≠ some 0∧∀ p,H4 p = none→Q (.ref p) (upd H4 p (.lst (Zc7 xs l u k)))
theorem Zup (he:PE X e te) (hl:PO X lo tl) (hu:PO X hi th) (hst:PO X (some se) ts):PE X (.Subscript e (.Slice lo hi (some se) p2) pos) (tSt X.K te tl th ts):=by
 intro pins s σ H Q I h
 refine Subscript_ (thn (he pins s σ H _ I h) fun v s1 qz9=>?_)
 obtain ⟨x,H1,I1,r1,q1⟩:=qz9
 refine wpAny_Slice (thn (hl pins s1 σ H1 _ I1 q1) fun vl s2 qz9=>?_)
 obtain ⟨l,H2,I2,pl,q2⟩:=qz9
 refine thn (hu pins s2 σ H2 _ I2 q2) fun vu s3 qz9=>?_
 obtain ⟨u,H3,I3,pu,q3⟩:=qz9
 refine thn (hst pins s3 σ H3 _ I3 q3) fun vs s4 qz9=>?_
 obtain ⟨k,H4,I4,ps,q4⟩:=qz9
 obtain ⟨a,xs,rfl,hx,hk,q⟩:=q4
 cases r1
 have I5:Inv X pins σ H4 { s4 with heap:=s4.heap.push { cls:=.type "slice", data:=.fields #[vl,vu,vs] } }:=I4.kept (t':=s4.toks) fun b ob q=>Heap.get?_push_of_some _ q
 obtain ⟨its,r,ht,hz⟩:=I5.list hx
 have hlen:=r.length
 show wpAny (model X.prog X.w) X.A (subscriptTail e (.Slice lo hi (some se) p2) (.ref a) (.ref s4.heap.objs.size)) (EP X pins σ Q) X.xe { s4 with heap:=s4.heap.push { cls:=.type "slice", data:=.fields #[vl,vu,vs] } }
 refine tail_any (ops:=[.ref a,.ref s4.heap.objs.size]) ht.isList.typeIs slot_list_getitem.lookup ?_ (by with_unfolding_all rfl)
 refine wpAny_getItem_list_slice ht.isList (Heap.IsSliceOf.new ..) pl pu ps hk ?_ (by rw [List.size_toArray] <;> omega)
 refine ⟨.ref _,_,I5.laid (t':=s4.toks) (o:=.lst (Zc7 xs l u k)) (fun b ob q=>Heap.get?_push_of_some _ q) (Nat.le_refl _) ?_,rfl,q _ (I5.hok.fresh (Nat.le_refl _))⟩
 exact ⟨Nat.le_trans (Zes r l u k) hz,_,0,r.pick l u k,Heap.get?_push_size _ rfl⟩
end
section
variable {X:Cx} {io:List Nat} {p c:Bool} {a e:Expr} {ma:MEt} {lo hi:Option Expr} {se:Expr} {ml mh ms:MOt} {pos p2:Pos} {fa:FE}
noncomputable def Z0t (m:MEt) (ml mh ms:MOt):MEt:=fun δ K=>m δ fun r δ1=>ml δ1 fun lo δ2=>mh δ2 fun hi δ3=>ms δ3 fun st δ4=>st ≠ some 0∧asL r.data fun ds=>K (.nd ((Zc7 ds lo hi st).map OT.fz)) δ4
theorem Z0g (ha:ME X io true c a ma) (hl:MO X io true lo ml) (hh:MO X io true hi mh) (hs:MO X io true (some se) ms):ME X io true c (.Subscript a (.Slice lo hi (some se) p2) pos) (Z0t ma ml mh ms):=by
 obtain ⟨_,A,s⟩:=ha
 obtain ⟨_,B,sl⟩:=hl
 obtain ⟨_,D,sh⟩:=hh
 obtain ⟨_,F,ss⟩:=hs
 refine ⟨_,Zup A B D F,?_⟩
 intro C H σ δ fp ex K' Q R h k
 refine s C H σ δ fp ex _ _ R h fun H1 v r δ1 fp1 new r1 h1=>?_
 refine sl C H1 σ δ1 fp1 ex _ _ r1.base h1 fun H2 l δ2 fp2 R2 S2 h2=>?_
 refine sh C H2 σ δ2 fp2 ex _ _ R2 h2 fun H3 u δ3 fp3 R3 S3 h3=>?_
 refine ss C H3 σ δ3 fp3 ex _ _ R3 h3 fun H4 w δ4 fp4 R4 S4 h4=>?_
 obtain ⟨hw,h4⟩:=h4
 have s2:Same H1 H2:=fun b o e=>S2.keep b o e (.inl rfl)
 have s3:Same H2 H3:=fun b o e=>S3.keep b o e (.inl rfl)
 have s4:Same H3 H4:=fun b o e=>S4.keep b o e (.inl rfl)
 obtain ⟨e3,e4⟩:=S2.env rfl
 obtain ⟨e5,e6⟩:=S3.env rfl
 obtain ⟨e7,e8⟩:=S4.env rfl
 have q:=(((r1.da R).same s2).same s3).same s4
 obtain ⟨a',xs,ds,rfl,e,qs,h4⟩:=q.lstInv h4
 refine ⟨a',xs,rfl,e,hw,fun p hp=>?_⟩
 have S:=((r1.stp.trans S2).trans S3).trans S4
 refine k _ _ _ δ4 fp4 [p] (RE.tree R R4 S (Z2 hp _) (Zb3 hp) (Zdv p) (Own.list hp ((qs.pick l u w).wide fun a l _=>?_))) h4
 rw [e8,e6,e4]
 exact l
noncomputable def stepOf (d:PyData) (lo hi st:Option Int):Option OT:=match d with | .list ds=>if st = some 0 then none else some (.nd ((Zc7 ds lo hi st).map OT.fz)) | _=>none
noncomputable def Zq7 (e:FE) (lo hi st:FO):FE:=fun δ=>(e δ).bind fun p=>(lo p.2).bind fun q=>(hi q.2).bind fun r=>(st r.2).bind fun t=>(stepOf p.1.data q.1 r.1 t.1).bind fun o=>some (o,t.2)
theorem Zwn {lo hi st:FO} (h:ME X io p c e (Z0t (o2 fa) (o2 lo) (o2 hi) (o2 st))):ME X io p c e (o2 (Zq7 fa lo hi st)):=h.weak fun δ K h=>by
 obtain ⟨r,δ',h,k⟩:=h
 obtain ⟨⟨x,δ1⟩,h1,h⟩:=bs h
 obtain ⟨⟨y,δ2⟩,h2,h⟩:=bs h
 obtain ⟨⟨z,δ3⟩,h3,h⟩:=bs h
 obtain ⟨⟨t,δ4⟩,h4,h⟩:=bs h
 obtain ⟨o,h5,h⟩:=bs h
 cases h
 refine ⟨x,δ1,h1,y,δ2,h2,z,δ3,h3,t,δ4,h4,?_⟩
 unfold stepOf at h5
 dsimp only at h5 ⊢
 split at h5
 ·rename_i q
  split at h5
  ·cases h5
  ·rename_i n
   cases h5
   refine ⟨n,?_⟩
   rw [show x.data = _ from q]
   exact k
 ·cases h5
end
theorem Zkg {α β:Type} {f g:α→Option β}:∀ {l:List α},(∀ k ∈ l,f k = g k)→l.filterMap f = l.filterMap g
 | [],_=>rfl
 | a :: l,h=>by
  rw [List.filterMap_cons,List.filterMap_cons,h a (by simp),Zkg fun k hk=>h k (by simp [hk])]
theorem Zov {α:Type} (xs:List α):Zc7 xs none none (some (-1)) = xs.reverse:=by
 unfold Zc7 sliceRange sliceBounds
 simp only [Option.getD_some]
 have d0:¬ ((-1:Int) > 0):=by decide
 simp only [if_neg d0]
 have hc:(if (xs.length:Int) - 1 > -1 then ((xs.length:Int) - 1 - -1 - -1 - 1) / (- -1) else 0) = (xs.length:Int):=by
  split
  ·simp
  ·omega
 rw [hc,List.filterMap_map,Int.toNat_natCast]
 apply List.ext_getElem?
 intro i
 have hf:List.filterMap ((fun x=>xs[x]?) ∘ fun k:Nat=>((xs.length:Int) - 1 + -1 * (k:Int)).toNat) (List.range xs.length) = xs.reverse:=by
  have:∀ k ∈ List.range xs.length,((fun x=>xs[x]?) ∘ fun k:Nat=>((xs.length:Int) - 1 + -1 * (k:Int)).toNat) k = xs.reverse[k]?:=fun k hk=>by
   have hk:=List.mem_range.mp hk
   show xs[((xs.length:Int) - 1 + -1 * (k:Int)).toNat]? = _
   rw [List.getElem?_reverse hk]
   congr 1
   omega
  rw [Zkg this]
  have gen:∀ (ys:List α) (m:Nat),m = ys.length→List.filterMap (fun k=>ys[k]?) (List.range m) = ys:=by
   intro ys
   induction ys with
   | nil=>intro m hm; subst hm; rfl
   | cons y ys ih =>
    intro m hm
    subst hm
    rw [List.length_cons,List.range_succ_eq_map,List.filterMap_cons]
    simp only [List.getElem?_cons_zero,List.filterMap_map]
    exact congrArg _ (ih _ rfl)
  exact gen _ _ (by simp)
 rw [hf]
end L2
namespace L2
open PySem PySem.Spec PyProof.Rows
section
variable {X:Cx} {io:List Nat} {c1 c2 c3 c4 p:Bool} {a b e d:Expr} {ma mb mc md:MEt} {pos:Pos} {f g h:Int→Int→Bool} {ta tb tc td:TE} {fa fb fc fd:FE} {G:PySem.W.Frag}
noncomputable def Zpr (r r' r'':R2) (ta tb tc td:TE):TE:=fun σ H Q=>ta σ H fun x H1=>tb σ H1 fun y H2=>r x y H2 fun z H3=>∃ k,z = .bl k ∧
 (if k = true then tc σ H3 fun w H4=>r' y w H4 fun z' H5=>∃ k',z' = .bl k'∧(if k' = true then td σ H5 fun u H6=>r'' w u H6 Q else Q (.bl false) H5) else Q (.bl false) H3)
theorem Zm0 {op op' op'':CmpOp} {r r' r'':R2} (ho:OpR X (compareOp op) r) (ho':OpR X (compareOp op') r') (ho'':OpR X (compareOp op'') r'') (ha:PE X a ta) (hb:PE X b tb) (hc:PE X e tc) (hd:PE X d td)
  (hm:lastMarks [op,op',op''] [b,e,d] = false:=by with_unfolding_all rfl):PT X (.Compare a [op,op',op''] [b,e,d] pos) (Zws (Zpr r r' r'' ta tb tc td)):=by
 intro pins s σ H Q I h
 refine isTrue_chain (thn (ha pins s σ H _ I h) fun v s1 ⟨x,H1,I1,r1,q1⟩=>test_link (thn (hb pins s1 σ H1 _ I1 q1) fun u s2 ⟨y,H2,I2,r2,q2⟩ =>
  thn (ho pins s2 σ H2 x y v u _ I2 r1 r2 q2) fun d s3 ⟨z,H3,I3,r3,k,e,q3⟩=>?_)) hm
 subst e
 cases r3
 refine wpAny_truthy_bool ?_
 cases k with
 | false =>
  obtain ⟨k',e',q'⟩:=q3
  cases e'
  exact ite_ff ⟨H3,I3,q'⟩
 | true =>
  refine ite_tt (test_link (thn (hc pins s3 σ H3 _ I3 q3) fun w' s4 qz9=>?_))
  obtain ⟨z',H4,I4,r4,q4⟩:=qz9
  refine thn (ho' pins s4 σ H4 y z' u w' _ I4 r2 r4 q4) fun d' s5 qz9=>?_
  obtain ⟨z2,H5,I5,r5,k2,e2,q5⟩:=qz9
  subst e2
  cases r5
  refine wpAny_truthy_bool ?_
  cases k2 with
  | false =>
   obtain ⟨k',e',q'⟩:=q5
   cases e'
   exact ite_ff ⟨H5,I5,q'⟩
  | true =>
   refine ite_tt (test_last (thn (hd pins s5 σ H5 _ I5 q5) fun w2 s6 qz9=>?_))
   obtain ⟨z6,H6,I6,r6,q6⟩:=qz9
   refine thn (ho'' pins s6 σ H6 z' z6 w' w2 _ I6 r4 r6 q6) fun d3 s7 qz9=>?_
   obtain ⟨z7,H7,I7,r7,k7,e7,q7⟩:=qz9
   subst e7
   cases r7
   exact wpAny_truthy_bool ⟨H7,I7,q7⟩
noncomputable def Zjo (f g h:Int→Int→Bool) (ma mb mc md:MEt):MEt:=fun δ K=>ma δ fun x δ1=>mb δ1 fun y δ2=>asI x.data fun i=>asI y.data fun j=>if f i j = true then mc δ2 fun z δ3=>asI z.data fun k=>(if g j k = true then md δ3 fun w δ4=>asI w.data fun l=>K (.fz (.bool (h k l))) δ4 else K (.fz (.bool false)) δ3) else K (.fz (.bool false)) δ2
theorem Zwx (ha:SE G io true c1 ta ma) (hb:SE G io true c2 tb mb) (hc:SE G io true c3 tc mc) (hd:SE G io true c4 td md):SE G io true true (Zpr (rI0 fun i j=>.bl (f i j)) (rI0 fun i j=>.bl (g i j)) (rI0 fun i j=>.bl (h i j)) ta tb tc td) (Zjo f g h ma mb mc md):=by
 intro C H σ δ fp ex K Q R h k
 refine ha.pureAfter R h fun H1 x u R1 s1 q1 h1=>?_
 refine hb.pureAfter R1 h1 fun H2 y v R2 s2 q2 h2=>?_
 obtain ⟨i,rfl,h2⟩:=q1.intInv h2
 obtain ⟨j,rfl,h2⟩:=q2.intInv h2
 refine ⟨i,j,rfl,rfl,f i j,rfl,?_⟩
 by_cases hf:f i j = true
 ·rw [if_pos hf] at h2 ⊢
  refine hc.pureAfter R2 h2 fun H3 z w R3 s3 q3 h3=>?_
  obtain ⟨l,rfl,h3⟩:=q3.intInv h3
  have s13:Same H H3:=(s1.trans s2).trans s3
  refine ⟨j,l,rfl,rfl,g j l,rfl,?_⟩
  by_cases hg:g j l = true
  ·rw [if_pos hg] at h3 ⊢
   refine hd.pureAfter R3 h3 fun H4 z4 w4 R4 s4 q4 h4=>?_
   obtain ⟨n,rfl,h4⟩:=q4.intInv h4
   have s14:Same H H4:=s13.trans s4
   exact ⟨l,n,rfl,rfl,k H4 _ _ δ fp [] (.fz R4 (.same s14 s14.al) (.bl _)) h4⟩
  ·rw [if_neg hg] at h3 ⊢
   exact k H3 _ _ δ fp [] (.fz R3 (.same s13 s13.al) (.bl _)) h3
 ·rw [if_neg hf] at h2 ⊢
  have s12:Same H H2:=s1.trans s2
  exact k H2 _ _ δ fp [] (.fz R2 (.same s12 s12.al) (.bl _)) h2
theorem Zcs {op op' op'':CmpOp} (ho:OpR X (compareOp op) (rI0 fun i j=>.bl (f i j))) (ho':OpR X (compareOp op') (rI0 fun i j=>.bl (g i j))) (ho'':OpR X (compareOp op'') (rI0 fun i j=>.bl (h i j))) (ha:ME X io true c1 a ma) (hb:ME X io true c2 b mb) (hc:ME X io true c3 e mc) (hd:ME X io true c4 d md)
  (hm:lastMarks [op,op',op''] [b,e,d] = false:=by with_unfolding_all rfl):MT X io true (.Compare a [op,op',op''] [b,e,d] pos) (fun δ K=>Zjo f g h ma mb mc md δ (kB K)):=by
 obtain ⟨_,A,sa⟩:=ha
 obtain ⟨_,B,sb⟩:=hb
 obtain ⟨_,D,sc⟩:=hc
 obtain ⟨_,F,sd⟩:=hd
 exact ⟨_,Zm0 ho ho' ho'' A B D F hm,Z0p (Zwx sa sb sc sd)⟩
noncomputable def intOf (d:PyData):Option Int:=match d with | .int i=>some i | _=>none
theorem Zcm {d:PyData} {i:Int} (h:intOf d = some i):d = .int i:=by
 unfold intOf at h
 split at h
 ·cases h; rfl
 ·cases h
noncomputable def Zfa (f g h:Int→Int→Bool) (a b c d:FE):FE:=fun δ=>(a δ).bind fun x=>(b x.2).bind fun y=>(intOf x.1.data).bind fun i=>(intOf y.1.data).bind fun j =>
 if f i j = true then (c y.2).bind fun z=>(intOf z.1.data).bind fun k=>if g j k = true then (d z.2).bind fun w=>(intOf w.1.data).bind fun l=>some (.fz (.bool (h k l)),w.2) else some (.fz (.bool false),z.2) else some (.fz (.bool false),y.2)
theorem Zci {ee:Expr} (hh:MT X io p ee (fun δ K=>Zjo f g h (o2 fa) (o2 fb) (o2 fc) (o2 fd) δ (kB K))):MT X io p ee (o2 (tV (Zfa f g h fa fb fc fd))):=hh.weak fun δ K z=>by
 obtain ⟨r,δ',h,k⟩:=Z6w z
 obtain ⟨⟨x,δ1⟩,h1,h⟩:=bs h
 obtain ⟨⟨y,δ2⟩,h2,h⟩:=bs h
 obtain ⟨i,hi,h⟩:=bs h
 obtain ⟨j,hj,h⟩:=bs h
 refine ⟨x,δ1,h1,y,δ2,h2,?_⟩
 dsimp only at h hi hj ⊢
 rw [Zcm hi,Zcm hj]
 show (if f i j = true then _ else _)
 by_cases hf:f i j = true
 ·rw [if_pos hf] at h ⊢
  obtain ⟨⟨z,δ3⟩,h3,h⟩:=bs h
  obtain ⟨l,hl,h⟩:=bs h
  refine ⟨z,δ3,h3,?_⟩
  dsimp only at h hl ⊢
  rw [Zcm hl]
  show (if g j l = true then _ else _)
  by_cases hg:g j l = true
  ·rw [if_pos hg] at h ⊢
   obtain ⟨⟨w,δ4⟩,h4,h⟩:=bs h
   obtain ⟨n,hn,h⟩:=bs h
   cases h
   refine ⟨w,δ4,h4,?_⟩
   dsimp only at hn ⊢
   rw [Zcm hn]
   exact k
  ·rw [if_neg hg] at h ⊢
   cases h
   exact k
 ·rw [if_neg hf] at h ⊢
  cases h
  exact k
end
end L2
namespace L2
open PySem PySem.Spec PyProof.Rows
variable {G:PySem.W.Frag}
section
variable {X:Cx} {io:List Nat} {p c:Bool} {a b e:Expr} {mr:MAt} {ra:FA} {i:Nat}
noncomputable def isFn (y:Str) (d:PyData):Bool:=match d with | .dict [(.str x,.bool true)]=>decide (x = y) | _=>false
end
section
variable {X:Cx} {io:List Nat} {p c:Bool} {a:Expr} {mr:MAt} {ra:FA}
end
end L2
namespace L2
open PySem PySem.Spec PyProof.Rows
variable {G:PySem.W.Frag}
theorem Zsy {α:Type} {p:α→Prop} {a b c d:α} (h1:p a) (h2:p b) (h3:p c) (h4:p d):∀ x ∈ [a,b,c,d],p x:=by
 intro x hx
 rcases List.mem_cons.mp hx with rfl | hx
 ·exact h1
 rcases List.mem_cons.mp hx with rfl | hx
 ·exact h2
 rcases List.mem_cons.mp hx with rfl | hx
 ·exact h3
 rcases List.mem_singleton.mp hx with rfl
 exact h4
theorem Zxz {α:Type} {p:α→Prop} {a b c d e:α} (h1:p a) (h2:p b) (h3:p c) (h4:p d) (h5:p e):∀ x ∈ [a,b,c,d,e],p x:=fun x hx=>(List.mem_cons.mp hx).elim (fun q=>q ▸ h1) (Zsy h2 h3 h4 h5 x)
theorem no4 {α:Type} {a b c d x:α} (h1:x ≠ a) (h2:x ≠ b) (h3:x ≠ c) (h4:x ≠ d):x ∉ [a,b,c,d]:=fun hx=>Zsy (p:=fun y=>x ≠ y) h1 h2 h3 h4 x hx rfl
noncomputable def SqB (K:PySem.W.Frag) (t:Bool) (H:Hp) (a:Addr) (xs:List V):Prop:=match t with | true=>H a = some (.tup xs) | false=>SqL K H a xs
noncomputable def IsB (t:Bool) (h:Heap) (a:Addr) (its:Array Value):Prop:=match t with | true=>IsTup h a its | false=>h.IsList a its
noncomputable def ItB (t:Bool) (h:Heap) (it a:Addr) (i:Nat):Prop:=match t with | true=>IsTupIter h it a i | false=>h.IsListIter it a i
theorem ItB.at {t:Bool} {h h':Heap} {it a:Addr} {i:Nat} (x:ItB t h it a i) (k:∀ o,h.get? it = some o→h'.get? it = some o):ItB t h' it a i:=by
 cases t with
 | false=>exact Heap.IsListIter.at x k
 | true =>
  obtain ⟨o,ho,r⟩:=x
  exact ⟨o,k o ho,r⟩
theorem ItB.obj {t:Bool} {h:Heap} {it a:Addr} {i:Nat} (x:ItB t h it a i):∃ o,h.get? it = some o∧∀ v,o.data ≠ .cell v:=by
 cases t with
 | false =>
  obtain ⟨o,ho,_,d⟩:=x
  exact ⟨o,ho,fun v q=>by rw [d] at q; cases q⟩
 | true =>
  obtain ⟨o,ho,_,d⟩:=x
  exact ⟨o,ho,fun v q=>by rw [d] at q; cases q⟩
theorem IsB.lt {t:Bool} {h:Heap} {a:Addr} {its:Array Value} (x:IsB t h a its):a < h.objs.size:=by
 cases t with
 | false =>
  obtain ⟨o,ho,_⟩:=x
  exact Heap.lt_size ho
 | true =>
  obtain ⟨o,ho,_⟩:=x
  exact Heap.lt_size ho
theorem SqB.its {X:Cx} {pins:List (Addr × Obj)} {σ:St} {H:Hp} {s:Shared} {t:Bool} {a:Addr} {xs:List V} (I:Inv X pins σ H s) (h:SqB X.K t H a xs):∃ its:List Value,Vals xs its∧IsB t s.heap a its.toArray:=by
 cases t with
 | false =>
  obtain ⟨its,r,p,_⟩:=I.list h
  exact ⟨its,r,p.isList⟩
 | true =>
  obtain ⟨_,its,r,p⟩:=(show ObjOk X.prog X.w H s.heap a (.tup xs) from I.hok a _ h)
  exact ⟨its,r,p⟩
theorem SqB.inj {X:Cx} {pins:List (Addr × Obj)} {σ:St} {H:Hp} {s:Shared} {t:Bool} {a:Addr} {xs ys:List V} (I:Inv X pins σ H s) (h:SqB X.K t H a xs) (k:SqB X.K t H a ys):xs = ys:=by
 cases t with
 | false=>exact I.list_inj h k
 | true =>
  have:=(show H a = some (.tup xs) from h).symm.trans k
  cases this
  rfl
section
variable {P:Program} {w:World}
theorem Zp0 {t:Bool} {it a:Addr} {i:Nat} {items:Array Value} {x:Value} (hx:items[i]? = some x):Gives P w it [it,a] (fun h=>ItB t h it a i∧IsB t h a items) x (fun h=>ItB t h it a (i + 1)):=by
 cases t with
 | true=>exact Zpm hx
 | false =>
  exact ⟨.head _,fun st hQ=>wpAny_nextOf_list_item st.1 st.2 hx hQ,fun h h' k st=>⟨Heap.IsListIter.at st.1 fun o e=>k it (.head _) o e,by
   obtain ⟨o,ho,r⟩:=st.2
   exact ⟨o,k a (.tail _ (.head _)) o ho,r⟩⟩,fun h h' k st=>Heap.IsListIter.at st fun o e=>k it (.head _) o e⟩
theorem Zy9 {t:Bool} {it a:Addr} {i:Nat} {items:Array Value} (hx:items[i]? = none):Zfq P w it [it,a] (fun h=>ItB t h it a i∧IsB t h a items):=by
 cases t with
 | true=>exact Zrv hx
 | false =>
  exact ⟨.head _,fun hh st hE=>wpAny_nextOf_list_end hh st.1 st.2 hx hE,fun h h' k st=>⟨Heap.IsListIter.at st.1 fun o e=>k it (.head _) o e,by
   obtain ⟨o,ho,r⟩:=st.2
   exact ⟨o,k a (.tail _ (.head _)) o ho,r⟩⟩⟩
end
noncomputable def Z7n (K:PySem.W.Frag) (t:Bool) (a b:Addr):It :=
 ⟨fun i H=>∃ xs ys x y,SqB K t H a xs∧SqB K t H b ys∧xs[i]? = some x∧ys[i]? = some y,
   fun i H v H'=>∃ p x y,H p = none∧v = .ref p∧H' = upd H p (.tup [x,y])∧(∀ xs,SqB K t H a xs→xs[i]? = some x)∧∀ ys,SqB K t H b ys→ys[i]? = some y,
   fun i H=>∃ xs ys,SqB K t H a xs∧SqB K t H b ys∧(xs.length ≤ i∨ys.length ≤ i)⟩
noncomputable def Z71 (t:Bool) (z TI TO i1 i2 a b:Addr) (i:Nat) (h:Heap):Prop:=IsZip h z TI TO .none∧IsPair h TI (.ref i1) (.ref i2)∧(∃ x y,IsPair h TO x y)∧ItB t h i1 a i∧ItB t h i2 b i
theorem Znt {P:Program} {w:World} {K:PySem.W.Frag} {es:List Expr} {kk:Nat} {pos:Pos} {t:Bool} {z TI TO i1 i2 a b:Addr} (D:ZA z TI TO i1 i2 [i1,a] [i2,b]) (D2:TI ≠ TO∧TI ≠ i1∧TI ≠ i2):Turn P w K (.Tuple es kk pos) (Z7n K t a b) [z,TI,TO,i1,i2] z (Z71 t z TI TO i1 i2 a b) where
 mem:=.head _
 obj:=fun i h st=>by
  obtain ⟨s1,s2,⟨x,y,s3⟩,s4,s5⟩:=st
  exact Zxz ⟨_,s1,fun v q=>by cases q⟩ ⟨_,s2,fun v q=>by cases q⟩ ⟨_,s3,fun v q=>by cases q⟩ s4.obj s5.obj
 keep:=fun i h h' st k=>by
  obtain ⟨s1,s2,⟨x,y,s3⟩,s4,s5⟩:=st
  have m2:TI ∈ [z,TI,TO,i1,i2]:=.tail _ (.head _)
  have m3:TO ∈ [z,TI,TO,i1,i2]:=.tail _ (.tail _ (.head _))
  have m4:i1 ∈ [z,TI,TO,i1,i2]:=.tail _ (.tail _ (.tail _ (.head _)))
  have m5:i2 ∈ [z,TI,TO,i1,i2]:=.tail _ (.tail _ (.tail _ (.tail _ (.head _))))
  exact ⟨k z (.head _) _ s1,k TI m2 _ s2,⟨x,y,k TO m3 _ s3⟩,s4.at (k i1 m4),s5.at (k i2 m5)⟩
 item:=by
  intro X hP hw hK hc i pins s σ H E I hf st hg
  subst hP hw hK
  obtain ⟨s1,s2,⟨x0,y0,s3⟩,s4,s5⟩:=st
  obtain ⟨xs,ys,x,y,hx,hy,ex,ey⟩:=hg
  obtain ⟨its,rx,px⟩:=hx.its I
  obtain ⟨its',ry,py⟩:=hy.its I
  obtain ⟨u,hu,ru⟩:=rx.get ex
  obtain ⟨u',hu',ru'⟩:=ry.get ey
  rw [← List.getElem?_toArray] at hu hu'
  refine Zl7 D (Zp0 hu) (Zp0 hu') s1 s2 s3 ⟨s4,px⟩ ⟨s5,py⟩ fun h' g1 g2 g3 g4 g5 g6=>?_
  refine ⟨_,rfl,wpAny_letOwnedTupleGo_zip (s:={ s with heap:=h' }) g1 fun h2 z2 sb=>?_⟩
  have up:∀ c o,c ≠ z→h'.get? c = some o→h2.get? c = some o:=fun c o n e=>(sb.2 c n).trans e
  have kp:∀ c o,c ∉ [z,TO,i1,i2]→s.heap.get? c = some o→h2.get? c = some o:=fun c o n e=>up c o (fun q=>n (q ▸ .head _)) (g6 c o n e)
  have t5:IsPair h2 s.heap.objs.size u u':=up _ _ (Nat.ne_of_gt (Heap.lt_size s1)) g5
  have i1z:=(D.a1 i1 (.head _)).1
  have i2z:=(D.a2 i2 (.head _)).1
  have n3:=g3.at (up i1 · i1z)
  have n4:=g4.at (up i2 · i2z)
  obtain ⟨f1,f2,f3,f4,f5⟩:(Zc0 X pins H z∧Zc0 X pins H TI∧Zc0 X pins H TO∧Zc0 X pins H i1∧Zc0 X pins H i2):=⟨hf _ (.head _),hf _ (.tail _ (.head _)),hf _ (.tail _ (.tail _ (.head _))),hf _ (.tail _ (.tail _ (.tail _ (.head _)))),hf _ (.tail _ (.tail _ (.tail _ (.tail _ (.head _)))))⟩
  have I2:Inv X pins σ (upd H s.heap.objs.size (.tup [x,y])) { s with heap:=h2 } :=
   I.turnTup (ch:=[z,TO,i1,i2]) (its:=[u,u']) (Zsy f1 f3 f4 f5) kp (Zsy ⟨_,z2⟩ ⟨_,up _ _ D.TOz g2⟩ (n3.obj.imp fun _ q=>q.1) (n4.obj.imp fun _ q=>q.1)) (Nat.le_refl _) Zs6 (.cons ru (.cons ru' .nil)) ⟨_,t5,rfl,0,rfl⟩
  have lt:∀ {c:Addr} {o:Obj},s.heap.get? c = some o→Zc0 X pins H c→upd H s.heap.objs.size (.tup [x,y]) c = none:=fun e f=>by rw [Zj (Nat.ne_of_lt (Heap.lt_size e))]; exact f.1
  refine ⟨.ref s.heap.objs.size,_,I2,rfl,⟨_,x,y,I.fresh,rfl,rfl,fun zs hz=>by rw [hz.inj I hx]; exact ex,fun zs hz=>by rw [hz.inj I hy]; exact ey⟩,⟨z2,kp TI _ (no4 D.TIz D2.1 D2.2.1 D2.2.2) s2,⟨_,_,up _ _ D.TOz g2⟩,n3,n4⟩,?_⟩
  obtain ⟨o4,e4,_⟩:=s4.obj
  obtain ⟨o5,e5,_⟩:=s5.obj
  exact Zxz (lt s1 f1) (lt s2 f2) (lt s3 f3) (lt e4 f4) (lt e5 f5)
 done:=by
  intro X hP hw hK hc i pins s σ H E I hf st hg
  subst hP hw hK
  obtain ⟨s1,s2,⟨x0,y0,s3⟩,s4,s5⟩:=st
  obtain ⟨xs,ys,hx,hy,he⟩:=hg
  obtain ⟨its,rx,px⟩:=hx.its I
  obtain ⟨its',ry,py⟩:=hy.its I
  have l1:=rx.length
  have l2:=ry.length
  refine Zos (I.ok.hd hc) D (S1:=fun h=>ItB t h i1 a i∧IsB t h a its.toArray) (T1:=fun h=>ItB t h i1 a (i + 1)) (S2:=fun h=>ItB t h i2 b i∧IsB t h b its'.toArray) ?_ s1 s2 s3 ⟨s4,px⟩ ⟨s5,py⟩ fun h' k=>⟨rfl,I.turnAll (ch:=[z,TO,i1,i2]) (Zsy (hf _ (.head _)) (hf _ (.tail _ (.tail _ (.head _)))) (hf _ (.tail _ (.tail _ (.tail _ (.head _))))) (hf _ (.tail _ (.tail _ (.tail _ (.tail _ (.head _))))))) k⟩
  cases q:its.toArray[i]? with
  | none=>exact .inl (Zy9 q)
  | some v =>
   refine .inr ⟨⟨v,Zp0 q⟩,Zy9 ?_⟩
   have:=(Array.getElem?_eq_some_iff.mp q).1
   rw [List.size_toArray] at this
   rw [Array.getElem?_eq_none_iff,List.size_toArray]
   omega
 self:=fun _ _ _ _ _ st h=>wpAny_pyIter_zip st.1 h
theorem Zm8 {P:Program} {w:World} {A:Around} {E:Value→Shared→Prop} {s:Shared} {t:Bool} {a b:Addr} {xs ys:Array Value} {Q:Value→Shared→Prop} (h1:IsB t s.heap a xs) (h2:IsB t s.heap b ys)
  (h:∀ h' n,n = s.heap.objs.size→IsZip h' (n + 4) (n + 2) (n + 3) .none→IsPair h' (n + 2) (.ref n) (.ref (n + 1))→IsPair h' (n + 3) .none .none→ItB t h' n a 0→ItB t h' (n + 1) b 0 →
   (∀ c o,s.heap.get? c = some o→h'.get? c = some o)→Q (.ref (n + 4)) { s with heap:=h' }):wpAny (model P w) A (call (.type "zip") [.ref a,.ref b]) Q E s:=by
 cases t with
 | true=>exact Znw h1 h2 h
 | false=>exact call_zip_2 h1 h2 fun h' g1 g2 g3 g4 g5 _ g7=>h h' _ rfl g1 g2 g3 g4 g5 g7
noncomputable def Z3u (K:PySem.W.Frag) (ta:TA):TI:=fun σ H R=>ta σ H fun vs H1=>∃ t a b,vs = [.ref a,.ref b]∧(∃ xs,SqB K t H1 a xs)∧(∃ ys,SqB K t H1 b ys)∧R (Z7n K t a b) H1
theorem Zvv {X:Cx} {K:PySem.W.Frag} {a b:Expr} {ta:TA} {p pos pt:Pos} {es:List Expr} {kk:Nat} (hK:X.K = K) (hg:Gl X "zip") (hm:X.mg "zip" = none) (hv:bootBuiltins "zip" = some (.type "zip")) (ha:PA X [a,b] ta)
  (he:starEach [a,b] X.env = (false,eval a X.env) :: starEach [b] X.env:=by rfl) (hpl:(backTo pos (starEach [b] X.env)).any (·.1) = false:=by rfl) :
  PI X (.Tuple es kk pt) (.Call (.Name "zip" p) [a,b] [] pos) (Z3u K ta):=by
 subst hK
 intro pins s σ H R I h
 refine wpAny_Call_Name_kw (Zcj I hg hm hv ?_ (by decide) (by decide))
 refine PyProof.Rows.callWith_type1 (thn (ha pos pins s σ H _ I h) fun us s1 q=>?_) he hpl
 obtain ⟨vs,H1,I1,r1,t,l1,l2,e1,⟨xs,hx⟩,⟨ys,hy⟩,q⟩:=q
 subst e1
 obtain ⟨u,u',rfl,ru,ru'⟩:=vals2 r1
 cases (show u = Value.ref l1 from ru)
 cases (show u' = Value.ref l2 from ru')
 obtain ⟨its,rx,px⟩:=hx.its I1
 obtain ⟨its',ry,py⟩:=hy.its I1
 refine Zm8 px py fun h' n en g1 g2 g3 g4 g5 g7=>?_
 have I2:Inv X pins σ H1 { s1 with heap:=h' }:=I1.kept (t':=s1.toks) g7
 refine wpAny_pyIter_zip (s:={ s1 with heap:=h' }) g1 ?_
 refine ⟨_,[_,_,_,_,_],Z71 _ _ _ _ _ _ _ _,_,H1,rfl,I2,Znt (ZA.new (en ▸ px.lt) (en ▸ py.lt)) (ZA.new2 n),⟨g1,g2,⟨_,_,g3⟩,g4,g5⟩,?_,q⟩
 subst en
 have ok:∀ k:Nat,Zc0 X pins H1 (s1.heap.objs.size + k):=fun k=>I1.fpOk (Nat.le_add_right _ _) (I1.hok.fresh (Nat.le_add_right _ _))
 exact Zxz (ok 4) (ok 2) (ok 3) (ok 0) (ok 1)
section
variable {X:Cx} {io:List Nat} {p c:Bool} {a b:Expr} {mr:MAt} {ra:FA}
noncomputable def Z3r (t:Bool) (as:List PyData):PyData:=match t with | true=>.tuple as | false=>.list as
theorem Rel.keptSq {C:MC G} {H:Hp} {σ:St} {δ:Zc} {fp:Fp} {ex:Addr→Prop} {v:V} {t:Bool} {ds:List PyData} (R:Rel C io H σ δ fp ex) (q:Da G H (fun a=>c = true→Lf C fp ex a) v (Z3r t ds)) :
  ∃ a xs,v = .ref a∧∀ H':Hp,(∀ b o,H b = some o→(c = false∨¬ Foot fp b)→H' b = some o)→SqB G t H' a xs∧Das G H' (fun a=>c = true→(Lf C fp ex a∧H a ≠ none)) xs ds:=by
 cases t with
 | false=>exact R.keptList q
 | true =>
  generalize hd:Z3r true ds = d at q
  cases q with
  | tup e r =>
   cases hd
   rename_i a0 xs0
   refine ⟨a0,xs0,rfl,fun H' kp=>?_⟩
   obtain ⟨f1,f2⟩:=R.kept kp
   exact ⟨f2 _ (.tup _) e,r.frame f1 f2⟩
  | _=>cases hd
theorem Zrm {ds es:List PyData} (h:Z1p ds = some es):∃ t as bs,ds = [Z3r t as,Z3r t bs]∧es = Zi8 as bs:=by
 unfold Z1p at h
 split at h
 ·cases h; exact ⟨false,_,_,rfl,rfl⟩
 ·cases h; exact ⟨true,_,_,rfl,rfl⟩
 ·cases h
noncomputable def iZB (mr:MAt):MIt:=fun δ K=>mr δ fun rs δ'=>∃ es,Z1p (OT.datas rs) = some es∧K es δ'
theorem Zve {p' pos pt:Pos} {es:List Expr} {kk:Nat} (hg:Gl X "zip") (hm:X.mg "zip" = none) (hv:bootBuiltins "zip" = some (.type "zip")) (ha:MA X io p c [a,b] mr)
  (he:starEach [a,b] X.env = (false,eval a X.env) :: starEach [b] X.env:=by rfl) (hpl:(backTo pos (starEach [b] X.env)).any (·.1) = false:=by rfl):MI X io p c (.Tuple es kk pt) (.Call (.Name "zip" p') [a,b] [] pos) (iZB mr):=by
 obtain ⟨_,A,s⟩:=ha
 refine ⟨_,Zvv rfl hg hm hv A he hpl,fun C H σ δ fp ex K' Q R h kk=>s C H σ δ fp ex _ _ R h fun H1 vs rs δ1 fp1 new r1 h1=>?_⟩
 have q:=r1.das R
 obtain ⟨es,hz,h1⟩:=h1
 obtain ⟨t,as,bs,e,rfl⟩:=Zrm hz
 rw [e] at q
 cases q with
 | cons q1 q2 =>
  cases q2 with
  | cons q2 q3 =>
   cases q3
   have R1:=r1.base
   obtain ⟨l1,xs,rfl,k1⟩:=R1.keptSq q1
   obtain ⟨l2,ys,rfl,k2⟩:=R1.keptSq q2
   refine ⟨t,l1,l2,rfl,⟨_,(k1 H1 fun _ _ e _=>e).1⟩,⟨_,(k2 H1 fun _ _ e _=>e).1⟩,kk _ H1 _ δ1 fp1 R1 r1.stp (fun H' kp i=>?_) h1⟩
   obtain ⟨s1,d1⟩:=k1 H' kp
   obtain ⟨s2,d2⟩:=k2 H' kp
   refine ⟨fun d hd=>?_,fun hd=>⟨_,_,s1,s2,by rw [d1.length,d2.length]; exact Zil hd⟩⟩
   obtain ⟨x,y,hx,hy,rfl⟩:=Zgt hd
   obtain ⟨u,hu,qu⟩:=d1.get hx
   obtain ⟨w,hw,qw⟩:=d2.get hy
   refine ⟨⟨_,_,u,w,s1,s2,hu,hw⟩,fun v H'' hyl=>?_⟩
   obtain ⟨t',u',w',ht,rfl,rfl,hu',hw'⟩:=hyl
   cases hu.symm.trans (hu' _ s1)
   cases hw.symm.trans (hw' _ s2)
   exact ⟨Z2 ht _,.tup Zm (.cons (qu.same (Z2 ht _)) (.cons (qw.same (Z2 ht _)) .nil))⟩
theorem Zw2 {tg e:Expr} (g:MI X io p c tg e (iZB (o2 ra))):MI X io p c tg e (o2 (Zpp ra)):=g.weak fun δ K h=>by
 obtain ⟨r,δ',h,k⟩:=h
 obtain ⟨⟨x,δ1⟩,h1,h⟩:=bs h
 obtain ⟨ds,h2,h⟩:=bs h
 cases h
 exact ⟨x,_,h1,_,h2,k⟩
end
end L2
namespace L2
open PySem PySem.Spec PyProof.Rows PySem.W
noncomputable def kGood {α:Type} (n:Nat) (P:α→Prop):KasT α→Prop
 | .ret a=>P a
 | .ask i j k=>i < n∧j < n∧∀ b,kGood n P (k b)
theorem kGood.bind {α β:Type} {n:Nat} {P:α→Prop} {R:β→Prop} {f:α→KasT β} (hf:∀ a,P a→kGood n R (f a)) {t:KasT α} (h:kGood n P t):kGood n R (t.bind f):=by
 induction t with
 | ret a=>exact hf a h
 | ask i j k ih=>exact ⟨h.1,h.2.1,fun b=>ih b (h.2.2 b)⟩
noncomputable def kP (n:Nat) (p:Array Nat):Prop:=p.toList.Perm (List.range n)
theorem kP.at {n:Nat} {p:Array Nat} (h:kP n p) (h0:0 < n) (i:Nat):p.getD i 0 < n:=by
 by_cases c:i < p.size
 ·have e:p.getD i 0 = p[i]:=by simp [Array.getD,c]
  rw [e]
  exact List.mem_range.mp (h.mem_iff.mp (Array.getElem_mem_toList c))
 ·have e:p.getD i 0 = 0:=by simp [Array.getD,c]
  rw [e]; exact h0
end L2
namespace L2
open PySem PySem.Spec PyProof.Rows PySem.W PySem.SeqAt
open AutoSeq1 (wpAny_loadPart')
open MeetsSeq MeetsSeq2 MeetsSeq3 SeqRoads2
noncomputable def ltI:List Int→List Int→Bool
 | [],[]=>false
 | [],_ :: _=>true
 | _ :: _,[]=>false
 | x :: xs,y :: ys=>if x = y then ltI xs ys else decide (x < y)
theorem Ztp {vs:List Value} {ns:List Int} (h:IntsAre vs ns) (i:Nat) (hi:i < vs.length):∃ x t,vs[i]? = some (.int x t)∧ns.drop i = x :: ns.drop (i + 1):=by
 induction h generalizing i with
 | nil=>exact absurd hi (Nat.not_lt_zero i)
 | cons n t h ih =>
  cases i with
  | zero=>exact ⟨n,t,rfl,rfl⟩
  | succ i=>exact ih i (Nat.lt_of_succ_lt_succ hi)
theorem Zk0 {vs:List Value} {ns:List Int} (h:IntsAre vs ns):vs.length = ns.length:=by
 induction h with
 | nil=>rfl
 | cons n t h ih=>exact congrArg Nat.succ ih
theorem Zop {xs ys:List Int} (h:xs = []∨ys = []):ltI xs ys = decide (xs.length < ys.length):=by
 cases xs <;> cases ys <;> first | rfl | (rcases h with h | h <;> cases h) | exact (decide_eq_true (Nat.succ_pos _)).symm
section
variable {prog:Program} {w:World} {A:Around} {E:Value→Shared→Prop} {s:Shared}
end
theorem Zyi {prog:Program} {w:World} {A:Around} {E:Value→Shared→Prop} {s:Shared} {a b:Int} {t u:Tok} {Q:Value→Shared→Prop} (h:Q (.bool (decide (a < b))) s):wpAny (model prog w) A (richCompare .Lt (.int a t) (.int b u)) Q E s:=lt_int h
theorem Zlb (l b:Addr) (items items2:Array Value) (n n2:Nat) (dd dd2:Option Addr) (sl sl2:Array (Option Value)) {xs ys:List Int} (h1:IntsAre items.toList xs) (h2:IntsAre items2.toList ys) :
  Meets (Builtin.«tuple.__lt__» ⟨[.ref l,.ref b],[]⟩)
   (fun A R s=>s.heap.get? l = some { cls:=.type "tuple", dict:=dd,data:=.seq items n,slots:=sl }∧s.heap.get? b = some { cls:=.type "tuple", dict:=dd2,data:=.seq items2 n2,slots:=sl2 } ∧
    R (.ok (.ret (.bool (ltI xs ys)))) s) :=
 .of_wp fun prog w A R s h=>by
  obtain ⟨hp,g,d,tk,os⟩:=s; obtain ⟨hl,hb,h⟩:=h
  have f2:=AutoSeq1.sub_tuple_tuple
  have e1:items.toList.length = xs.length:=Zk0 h1
  have e2:items2.toList.length = ys.length:=Zk0 h2
  wp_walk using wpAny_loadPart' hl,wpAny_loadPart' hb,wpAny_forIn_list _ (fun rest b s'=>b.1 = none∧s' = ⟨hp,g,d,tk,os⟩∧∃ i,rest = (items.toList.zip items2.toList).drop i∧i ≤ items.toList.length∧i ≤ items2.toList.length ∧
   R (.ok (.ret (.bool (ltI (xs.drop i) (ys.drop i))))) ⟨hp,g,d,tk,os⟩) _
  case turn =>
   rintro ⟨v,u⟩ rest b s' ⟨hb',rfl,i,hz,u1,u2,hR⟩
   have hlt:i < (items.toList.zip items2.toList).length:=by
    rcases Nat.lt_or_ge i (items.toList.zip items2.toList).length with h' | h'
    ·exact h'
    ·rw [List.drop_of_length_le h'] at hz; cases hz
   have hm:=hlt
   rw [List.length_zip] at hm
   obtain ⟨x,t,q1,q2⟩:=Ztp h1 i (by omega)
   obtain ⟨y,r,q3,q4⟩:=Ztp h2 i (by omega)
   rw [List.drop_eq_getElem_cons hlt] at hz
   injection hz with hyx hrest
   have hz0:(items.toList.zip items2.toList)[i]? = some (.int x t,.int y r):=by rw [List.getElem?_zip_eq_some]; exact ⟨q1,q3⟩
   rw [List.getElem?_eq_getElem hlt] at hz0
   injection hz0 with hz0
   rw [hz0] at hyx
   cases hyx
   rw [q2,q4] at hR
   unfold ltI at hR
   refine wpAny_bind (EqAt.int_int x t y r prog w _ _ ?_)
   by_cases cx:x = y
   ·rw [if_pos cx] at hR
    rw [beq_iff_eq.mpr cx]
    wp_walk
    exact ⟨rfl,rfl,i + 1,hrest,by omega,by omega,hR⟩
   ·rw [if_neg cx] at hR
    rw [beq_eq_false_iff_ne.mpr cx]
    wp_walk using Zyi
    exact ⟨_,rfl,hR⟩
  case fin =>
   rintro ⟨b1,b2⟩ s' ⟨hb',rfl,i,hz,u1,u2,hR⟩
   simp only at hb'
   subst hb'
   have hge:min items.toList.length items2.toList.length ≤ i:=by
    rcases Nat.lt_or_ge i (items.toList.zip items2.toList).length with h' | h'
    ·rw [List.drop_eq_getElem_cons h'] at hz; cases hz
    ·rw [List.length_zip] at h'; exact h'
   have hv:ltI (xs.drop i) (ys.drop i) = decide (items.size < items2.size):=by
    rw [Zop ((show i = items.toList.length∨i = items2.toList.length by omega).imp (fun c=>List.drop_eq_nil_of_le (by omega)) fun c=>List.drop_eq_nil_of_le (by omega)),List.length_drop,List.length_drop]
    rw [Array.length_toList] at e1 e2 u1 u2
    exact decide_eq_decide.mpr (by omega)
   rw [hv] at hR
   wp_walk
   exact ⟨_,rfl,hR⟩
  case h =>
   exact ⟨rfl,rfl,0,rfl,Nat.zero_le _,Nat.zero_le _,h⟩
section
variable {prog:Program} {w:World} {A:Around} {E:Value→Shared→Prop} {s:Shared}
end
end L2
namespace L2
open PySem PySem.Spec PyProof.Rows PySem.W
section
variable {prog:Program} {w:World} {A:Around} {E:Value→Shared→Prop} {s:Shared}
end
end L2
namespace L2
open PySem PySem.Spec PyProof.Rows PySem.W
variable {G:PySem.W.Frag}
structure Yaq {α:Type} (kd:PyData→Option α) (lt:α→α→Bool):Prop where
 lay:∀ d k,kd d = some k→d.canLay0 = true
 run:∃ κ:SortKind,(∀ (prog:Program) (w:World) (A:Around) (E:Value→Shared→Prop) (s:Shared) (vs:List Value) (ds:List PyData) (as:List Addr) (Q:SortKind→Shared→Prop),2 ≤ vs.length→ReadsAll s.heap vs ds as→(∀ d ∈ ds,∃ k,kd d = some k)→Q κ s→wpAny (model prog w) A (keyKind' vs.toArray) Q E s) ∧
  ∀ (prog:Program) (w:World) (A:Around) (E:Value→Shared→Prop) (s:Shared) (u v:Value) (d e:PyData) (as bs:List Addr) (k m:α) (C:Bool→Shared→Prop),A.units + 32 < cLine→Reads s.heap u d as→Reads s.heap v e bs→kd d = some k→kd e = some m→C (lt k m) s→wpAny (model prog w) A (keyLt' κ u v) C E s
end L2
namespace L2
open PySem PySem.Spec PyProof.Rows PySem.W
variable {G:PySem.W.Frag}
noncomputable def lk {α:Type} (kd:PyData→Option α) (lt:α→α→Bool) (es:List PyData):Nat→Nat→Bool:=fun i j=>((kd (es.getD i .none)).bind fun a=>(kd (es.getD j .none)).map fun b=>lt a b).getD false
section
variable {X:Cx} {α:Type} {kd:PyData→Option α} {lt:α→α→Bool}
end
end L2
namespace L2
open PySem PySem.Spec PyProof.Rows
variable {G:PySem.W.Frag}
end L2
namespace L2
open PySem PySem.Spec PyProof.Rows
section
variable {X:Cx} {io:List Nat} {p p' c c' q r:Bool} {a b e:Expr} {fa fb:FE} {es:List Expr} {ra:FA} {st:Stmt} {sts ss ss':List Stmt} {f g:FS} {ta:FT}
theorem xv (i:Nat) {x:Str} {pos:Pos} (hN:X.N[i]? = some x:=by rfl) (hv:Vis X.env.scope x:=by first | exact Or.inl rfl | exact Or.inr (Or.inl rfl) | exact Or.inr (Or.inr rfl)) (hd:(x == ("__debug__" : Str)) = false:=by decide) (he:(x == ("__classdict__" : Str)) = false:=by decide):ME X io true true (.Name x pos) (o2 (Zd i)):=Z2z (mv i hN hv hd he)
theorem xo (i:Nat) {x:Str} {pos:Pos} (hN:X.N[i]? = some x:=by rfl) (hv:Vis X.env.scope x:=by first | exact Or.inl rfl | exact Or.inr (Or.inl rfl) | exact Or.inr (Or.inr rfl)) (hd:(x == ("__debug__" : Str)) = false:=by decide) (he:(x == ("__classdict__" : Str)) = false:=by decide):ME X io true false (.Name x pos) (o2 (J5 i)):=Z1r (mo i hN hv hd he)
theorem xci {i:Int} {j:Nat} {pos:Pos}:ME X io true true (.Constant (.int i) j pos) (o2 (fC (.int i))):=Ziz Z15
theorem xix {pos:Pos} (ha:ME X io p c a (o2 fa)) (hb:ME X io p' c' b (o2 fb)) (hc:p' = true∨c = true:=by first | exact Or.inl rfl | exact Or.inr rfl) (hs:Zgp b:=by exact fun _ _=>rfl) (h2:(p && p') = q:=by rfl) (h3:(c && c') = r:=by rfl):ME X io q r (.Subscript a b pos) (o2 (Yx gIx fa fb)):=h2 ▸ h3 ▸ Zay Yal (Zx0 (Zca rfl) Z5t ha hb hc (hs:=hs))
theorem xa0:MA X io true true [] (o2 Zn):=Zya Z1a
theorem xa1 [NoStar e] (ha:ME X io p c e (o2 fa)) (h2:(p && true) = q:=by rfl) (h3:(c && true) = r:=by rfl):MA X io q r [e] (o2 (Ze fa Zn)):=Zi ha xa0 (.inl rfl) h2 h3
theorem xsq (h:MS X io st (oS f)) (k:MSs X io sts (oS g)):MSs X io (st :: sts) (oS (Zz f g)):=Z2i (Zqq h k)
theorem xst {pos px:Pos} (i:Nat) {x:Str} (hN:X.N.Nodup) (he:ME X io p true e (o2 fa)) (hi:X.N[i]? = some x:=by rfl) (hx:Loc X.env.scope x:=by first | exact Or.inl rfl | exact Or.inr rfl) (hio:i ∉ io:=by decide) (hs:swapsWith e (some (.Name x px)) pos.line X.env = pure false:=by rfl) (hf:X.fn x = true∨X.env.scope.names.lookup x = some .local:=by first | exact .inl rfl | exact .inr rfl | assumption):MS X io (.Assign [.Name x px] e pos) (oS (wE fa (Jh i))):=Zfw (Zf4 hN hi hx he hio hs hf)
theorem xrt {pos:Pos} (h:ME X io p true e (o2 fa)):MS X io (.Return (some e) pos) (oS (wE fa Za1)):=Z2v (Z2o h)
theorem xg {pos:Pos} (i:Nat) {x:Str} (hN:X.N.Nodup) (hi:X.N[i]? = some x:=by rfl) (hx:Loc X.env.scope x:=by first | exact Or.inl rfl | exact Or.inr rfl) (hio:i ∉ io:=by decide) (hf:X.fn x = true∨X.env.scope.names.lookup x = some .local:=by first | exact .inl rfl | exact .inr rfl | assumption):MG X io true (.Name x pos) (oG (gNm i)):=Zut (Zuh hN hi hx hio hf)
theorem xif {pos:Pos} (h:MT X io p e (o2 ta)) (k:MSs X io ss (oS f)) (l:MSs X io ss' (oS g)):MS X io (.If e ss ss' pos) (oS (W0 ta f g)):=Z3x (Z32 h k l)
theorem xnl:MSs X io [] (oS fNx):=Zt2 Zug
theorem xtp {pos:Pos} {n:Nat} (h:MA X io p c es (o2 ra)):ME X io p c (.Tuple es n pos) (o2 (Zi0 ra)):=Zx5 (Z6h h)
theorem xls {pos:Pos} (h:MA X io p c es (o2 ra)):ME X io p c (.List es pos) (o2 (Zd0 ra)):=Zzh (Z5w h)
theorem xil {tg:Expr} (h:ME X io p c e (o2 fa)):MI X io p c tg e (o2 (Zbw fa)):=Zu1 (Zwv h)
theorem xno {pos:Pos} (h:MT X io p e (o2 ta)):MT X io p (.UnaryOp .Not e pos) (o2 (tNo ta)):=Z0y (Zyt h)
theorem Zig {pos:Pos} (ha:ME X io p c a (o2 fa)) (hb:ME X io p' c' b (o2 fb)) (hc:p' = true∨c = true:=by first | exact Or.inl rfl | exact Or.inr rfl) (h2:(p && p') = q:=by rfl):ME X io q true (.BinOp a .Add b pos) (o2 (Zb Jq fa fb)):=h2 ▸ Wj Z5u (Zhr Z0i Zof ha hb hc)
theorem Z9z {pos:Pos} (ha:ME X io p c a (o2 fa)) (hb:ME X io p' c' b (o2 fb)) (hc:p' = true∨c = true:=by first | exact Or.inl rfl | exact Or.inr rfl) (h2:(p && p') = q:=by rfl):ME X io q true (.BinOp a .Sub b pos) (o2 (Zb gSb fa fb)):=h2 ▸ Wj Z36 (Zhr Z0x Zof ha hb hc)
theorem Zxu {pos:Pos} (ha:ME X io p c a (o2 fa)) (hb:ME X io p' c' b (o2 fb)) (hc:p' = true∨c = true:=by first | exact Or.inl rfl | exact Or.inr rfl) (h2:(p && p') = q:=by rfl):ME X io q true (.BinOp a .Mult b pos) (o2 (Zb Zfd fa fb)):=h2 ▸ Wj Z6o (Zhr Zud Z20 ha hb hc)
theorem Zmf {pos:Pos} (ha:ME X io p c a (o2 fa)) (hb:ME X io p' c' b (o2 fb)) (hc:p' = true∨c = true:=by first | exact Or.inl rfl | exact Or.inr rfl) (h2:(p && p') = q:=by rfl):ME X io q true (.BinOp a .Mod b pos) (o2 (Zb Za2 fa fb)):=h2 ▸ Wj Z5s (Zhr Zwk Z2l ha hb hc)
theorem Z3n {pos:Pos} (ha:ME X io p c a (o2 fa)) (hb:ME X io p' c' b (o2 fb)) (hc:p' = true∨c = true:=by first | exact Or.inl rfl | exact Or.inr rfl) (h2:(p && p') = q:=by rfl):ME X io q true (.BinOp a .FloorDiv b pos) (o2 (Zb Zad fa fb)):=h2 ▸ Wj Zx6 (Zhr Zrd Zy7 ha hb hc)
theorem Z24 {pos:Pos} (ha:ME X io p c a (o2 fa)) (hb:ME X io p' c' b (o2 fb)) (hc:p' = true∨c = true:=by first | exact Or.inl rfl | exact Or.inr rfl) (h2:(p && p') = q:=by rfl):ME X io q true (.BinOp a .Pow b pos) (o2 (Zb Zq0 fa fb)):=h2 ▸ Wj Z5m (Zhr Zvi Z1h ha hb hc)
theorem xeq {pos:Pos} (hu:X.A.units + 64 < cLine) (ha:ME X io p c a (o2 fa)) (hb:ME X io p' c' b (o2 fb)) (hc:p' = true∨c = true:=by first | exact Or.inl rfl | exact Or.inr rfl) (h2:(p && p') = q:=by rfl):MT X io q (.Compare a [.Eq] [b] pos) (o2 (tV (Zb gEq fa fb))):=h2 ▸ Zco Zxw (Zcv (Zgb hu) Zle ha hb hc (hm:=Zbf _))
theorem xne {pos:Pos} (hu:X.A.units + 64 < cLine) (ha:ME X io p c a (o2 fa)) (hb:ME X io p' c' b (o2 fb)) (hc:p' = true∨c = true:=by first | exact Or.inl rfl | exact Or.inr rfl) (h2:(p && p') = q:=by rfl):MT X io q (.Compare a [.NotEq] [b] pos) (o2 (tV (Zb gNe fa fb))):=h2 ▸ Zco Z83 (Zcv (Zx2 hu) Z5d ha hb hc (hm:=Zbf _))
theorem xlt {pos:Pos} (ha:ME X io p c a (o2 fa)) (hb:ME X io p' c' b (o2 fb)) (hc:p' = true∨c = true:=by first | exact Or.inl rfl | exact Or.inr rfl) (h2:(p && p') = q:=by rfl):MT X io q (.Compare a [.Lt] [b] pos) (o2 (tV (Zb gLt fa fb))):=h2 ▸ Zco Z92 (Zcv Zhi Zny ha hb hc (hm:=Zbf _))
theorem xgt {pos:Pos} (ha:ME X io p c a (o2 fa)) (hb:ME X io p' c' b (o2 fb)) (hc:p' = true∨c = true:=by first | exact Or.inl rfl | exact Or.inr rfl) (h2:(p && p') = q:=by rfl):MT X io q (.Compare a [.Gt] [b] pos) (o2 (tV (Zb gGt fa fb))):=h2 ▸ Zco Yaj (Zcv Z57 Zny ha hb hc (hm:=Zbf _))
theorem xge {pos:Pos} (ha:ME X io p c a (o2 fa)) (hb:ME X io p' c' b (o2 fb)) (hc:p' = true∨c = true:=by first | exact Or.inl rfl | exact Or.inr rfl) (h2:(p && p') = q:=by rfl):MT X io q (.Compare a [.GtE] [b] pos) (o2 (tV (Zb gGe fa fb))):=h2 ▸ Zco Z86 (Zcv Z5b Zny ha hb hc (hm:=Zbf _))
theorem xfr {pos:Pos} {tg:Expr} {it:FI} {gg:FG} (hp:PassesOwn (model X.prog X.w) X.A X.env X.xe) (hc:X.calm = true) (hi:MI X io p true tg e (o2 it)) (hg:MG X io true tg (oG gg)) (hb:MSs X io ss (oS f)) (hs:∀ x,foldedSetIterable e X.env x = pure x:=by intro _; rfl):MS X io (.For tg e ss [] pos) (oS (Zaf it gg f)):=Zy1 (Z2c hp hc hi hg hb hs)
theorem xg2 {pos:Pos} {n:Nat} {g1 g2:FG} (hc:X.calm = true) (ha:MG X io true a (oG g1)) (hb:MG X io true b (oG g2)) (h1:List.map (fun x=>x.snd) (assignEach [a,b] X.env) = assign a X.env :: List.map (fun x=>x.snd) (assignEach [b] X.env):=by rfl) (h2:List.map (fun x=>x.snd) (assignEach [b] X.env) = assign b X.env :: List.map (fun x=>x.snd) (assignEach [] X.env):=by rfl) (h3:(assignEach [a,b] X.env).length = 2:=by rfl) (h4:List.findIdx? (fun x=>x.fst) (assignEach [a,b] X.env) = none:=by rfl):MG X io true (.Tuple [a,b] n pos) (oG (gTp 2 (gCn g1 (gCn g2 gNl)))):=Z0l (Z1l (n:=2) hc (Zk6 (Zj8 ha (Zk6 (Zj8 hb (Zva Zvy) h2)) h1)) h3 h4)
theorem xso {pos px:Pos} (i:Nat) {x:Str} (hN:X.N.Nodup) (he:ME X io p true e (o2 fa)) (hi:X.N[i]? = some x:=by rfl) (hx:Loc X.env.scope x:=by first | exact Or.inl rfl | exact Or.inr rfl) (hio:i ∉ io:=by decide) (hs:swapsWith e (some (.Name x px)) pos.line X.env = pure false:=by rfl) (hf:X.fn x = true∨X.env.scope.names.lookup x = some .local:=by first | exact .inl rfl | exact .inr rfl | assumption):MS X io (.Assign [.Name x px] e pos) (oS (wE fa (Jf i))):=Zpi (Znx hN hi hx he hio hs hf)
theorem xcl {pos pp:Pos} {k:Nat} {f:Addr} {fd:FuncData} {ps:List Str} {x:Str} {F:FD} (G:FnOk X.prog X.w X.K X.mg X.base CX0 k f fd ps (spD X.K (sD F))) (hr:Room k X.A) (hm:X.mg x = some (.ref f)) (hk:PySem.W.keepIn X.K (.ref f) = true) (hb:Binds X.K fd ps []) (ha:MA X io p c (e :: es) (o2 ra)) (hg:Gl X x:=by rfl) (h1:(x == ("__debug__" : Str)) = false:=by decide) (h2:starEach (e :: es) X.env = (false,eval e X.env) :: starEach es X.env:=by rfl) (h3:((backTo pos (starEach es X.env)).any fun x=>x.fst) = false:=by rfl):ME X io p c (.Call (.Name x pp) (e :: es) [] pos) (o2 (Yh F ra)):=Zwy (Z1u G hr hg hm hk hb Z46 ha h1 h2 h3)
theorem xln {pos pp:Pos} (hm:X.mg "len" = none) (ha:MA X io p c [e] (o2 ra)) (hg:Gl X "len" := by rfl) (h2:starEach [e] X.env = (false,eval e X.env) :: starEach [] X.env:=by rfl):ME X io p true (.Call (.Name "len" pp) [e] [] pos) (o2 (Zas Zb7 ra)):=Zav Z5x (Zev Zz2 (Zp1 rfl) hg hm L2.B.boot_len ha (by decide) (by decide) h2 (by rfl))
end
end L2
namespace L2
open PySem PySem.Spec PyProof.Rows
section
variable {X:Cx} {tg:Expr} {io:List Nat} {p c:Bool} {a b d e:Expr} {mr:MAt} {ra:FA}
end
end L2
namespace L2
open PySem PySem.Spec PyProof.Rows
section
variable {prog:Program} {w:World} {A:Around} {R:Result→Shared→Prop} {I:Addr} {fp wr:List Addr} {n:Nat} {P:Nat→Value→Prop} {St:Nat→Heap→Prop}
end
section
variable {prog:Program} {w:World} {A:Around} {E:Value→Shared→Prop} {s:Shared}
end
section
variable {X:Cx} {p c:Bool} {io:List Nat} {e kw:Expr} {pp pos kp:Pos} {t:TA} {mr:MAt}
end
end L2
namespace L2
open PySem PySem.Spec PyProof.Rows
noncomputable def tbl (P:List Nat) (led:Bool):SetTable:={ mask:=7,place:=P.toArray,dummies:=#[],finger:=0,led,moves:=0,plain:=true }
noncomputable def hT (k:List Int):Int:=reduceHash (Builtin.Tuple.tupleHashOf (k.map hashInt))
noncomputable def hAt (ks:List (List Int)) (i:Nat):Int:=(ks[i]?.map hT).getD 0
noncomputable def Z4u (P:List Nat) (j:Nat):List Nat:=((tbl P false).put j).1.place.toList
noncomputable def Z7g (P:List Nat) (j:Nat):Nat:=((tbl P false).put j).2
noncomputable def Z89 (ks:List (List Int)) (p:Nat) (k:List Int):List (List Int):=ks.take p ++ k :: ks.drop p
noncomputable def Z9m (P:List Nat) (ks:List (List Int)) (k:List Int):Option (List Nat × List (List Int)) :=
 match (tbl P false).probe (hAt ks) (hT k) ((tbl P false).probeStart (hT k)) with
 | some (.empty j none)=>if (tbl (Z4u P j) false).tooFull = false∧(Z4u P j).length = ks.length + 1∧ks.length ≤ 6∧Z7g P j ≤ ks.length then some (Z4u P j,Z89 ks (Z7g P j) k) else none
 | some (.candidate _ i _)=>if ks[i]? = some k then some (P,ks) else none
 | _=>none
noncomputable def grow (K:List (List Int)):Nat→List (List Nat × List (List Int))→List (List Nat × List (List Int))
 | 0,S=>S
 | n + 1,S=>grow K n (S ++ (S.flatMap fun s=>K.filterMap fun k=>Z9m s.1 s.2 k).filter fun s=>!S.contains s)
noncomputable def K2:List (List Int):=[[0,0],[0,1],[1,0],[1,1]]
noncomputable def S2:List (List Nat × List (List Int)):=(grow K2 4 [([],[])]).eraseDups
section
variable {prog:Program} {w:World} {A:Around} {E:Value→Shared→Prop} {s:Shared}
inductive KeysIn (U:Addr→List Int→Prop):List (List Int)→List (Int × Value)→Prop
 | nil:KeysIn U [] []
 | cons {k:List Int} {a:Addr} {ks:List (List Int)} {l:List (Int × Value)} (h:U a k) (t:KeysIn U ks l):KeysIn U (k :: ks) ((hT k,.ref a) :: l)
theorem KeysIn.hash {U:Addr→List Int→Prop} {ks:List (List Int)} {l:List (Int × Value)} (h:KeysIn U ks l):l.map (·.1) = ks.map hT:=by
 induction h with
 | nil=>rfl
 | cons _ _ ih=>rw [List.map_cons,List.map_cons,ih]
noncomputable abbrev IK (prog:Program) (w:World) (h:Heap) (k:List Int) (a:Addr):Prop:=IsTupleKey (intKind prog w) h k a
theorem items_int {ks:List Int} {vs:List Value} (h:ItemsAre (intKind prog w) ks vs):∀ v ∈ vs,∃ i t,v = .int i t:=by
 induction h with
 | nil=>exact fun _ m=>nomatch m
 | cons h _ ih =>
  intro v hv
  rcases List.mem_cons.mp hv with rfl | hv
  ·obtain ⟨t,e⟩:=Value.isInt_shape h
   exact ⟨_,t,e⟩
  ·exact ih v hv
theorem KeysIn.at {U:Addr→List Int→Prop} {ks:List (List Int)} {es:Array (Int × Value)} (h:KeysIn U ks es.toList) (i:Nat):(es[i]?.map (·.1)).getD 0 = hAt ks i:=by
 unfold hAt
 rw [← List.getElem?_map,← h.hash,List.getElem?_map,Array.getElem?_toList]
end
section
variable {prog:Program} {w:World} {A:Around} {R:Result→Shared→Prop} {I:Addr} {fp wr:List Addr} {n:Nat} {Pv:Nat→Value→Prop} {St:Nat→Heap→Prop}
end
end L2
namespace L2
open PySem PySem.Spec PyProof.Rows
section
variable {prog:Program} {w:World} {A:Around} {E:Value→Shared→Prop} {s:Shared}
end
end L2
namespace L2
open PySem PySem.Spec PyProof.Rows
inductive Z31 (H:Hp):List V→List (List Int)→Prop
 | nil:Z31 H [] []
 | cons {a:Addr} {k:List Int} {xs:List V} {ks:List (List Int)} (h:H a = some (.tup (k.map V.int))) (t:Z31 H xs ks):Z31 H (.ref a :: xs) (k :: ks)
section
variable {X:Cx} {p c:Bool} {io:List Nat} {a e:Expr} {pos pos' pl pr:Pos} {t:TA} {mr:MAt} {ra:FA}
end
end L2
namespace L2
open PySem PySem.Spec PyProof.Rows
section
variable {G:PySem.W.Frag} {io:List Nat} {p pt pe:Bool} {own:List Str} {caps:List Nat} {g:MGt} {mt:MTt} {me:MEt} {i:Nat}
end
section
variable {X:Cx} {io:List Nat} {p pt pe:Bool} {own:List Str} {caps:List Nat} {N':List Str} {sc:Scope} {i:Nat} {x:Str} {px:Pos} {tg elt:Expr} {ifs:List Expr} {g:MGt} {mt:MTt} {me:MEt} {pos:Pos}
end
end L2
namespace L2
open PySem PySem.Spec PyProof.Rows
section
variable {X:Cx} {G:PySem.W.Frag}
end
end L2
namespace L2
open PySem PySem.Spec PyProof.Rows
noncomputable abbrev Yam (h:Heap) (T:Addr) (a b c:Value):Prop:=h.get? T = some { cls:=.type "tuple", data:=.seq #[a,b,c] }
structure Z3A (z TI TO i1 i2 i3:Addr) (f1 f2 f3:List Addr):Prop where
 TIz:TI ≠ z
 TOz:TO ≠ z
 a1:∀ c ∈ f1,c ≠ z∧c ≠ TO∧c ≠ i2∧c ≠ i3
 a2:∀ c ∈ f2,c ≠ z∧c ≠ TO∧c ≠ i1∧c ≠ i3
 a3:∀ c ∈ f3,c ≠ z∧c ≠ TO∧c ≠ i1∧c ≠ i2
section
variable {P:Program} {w:World} {A:Around} {E:Value→Shared→Prop} {s:Shared}
end
noncomputable abbrev z3A (h:Heap) (a:Addr):Heap:=h.push { cls:=.type "list_iterator", data:=.fields #[.ref a,.int 0 0] }
noncomputable abbrev z3B (h:Heap) (a b:Addr):Heap:=z3A (z3A h a) b
noncomputable abbrev z3C (h:Heap) (a b c:Addr):Heap:=z3A (z3B h a b) c
noncomputable abbrev z3D (h:Heap) (a b c:Addr):Heap:=(z3C h a b c).push { cls:=.type "tuple", data:=.seq #[.ref h.objs.size,.ref (z3A h a).objs.size,.ref (z3B h a b).objs.size] }
noncomputable abbrev z3E (h:Heap) (a b c:Addr):Heap:=(z3D h a b c).push { cls:=.type "tuple", data:=.seq #[.none,.none,.none] }
noncomputable abbrev z3F (h:Heap) (a b c:Addr):Heap:=(z3E h a b c).push { cls:=.type "zip", data:=.fields #[.none,.bool false,.bool false,.ref (z3C h a b c).objs.size,.ref (z3D h a b c).objs.size] }
section
variable {P:Program} {w:World} {A:Around} {E:Value→Shared→Prop} {s:Shared}
end
section
variable {X:Cx} {io:List Nat} {p c:Bool} {a b e:Expr} {mr:MAt} {ra:FA}
end
end L2
namespace L2
open PySem PySem.Spec PyProof.Rows
variable {G:PySem.W.Frag}
end L2
namespace L2
open PySem PySem.Spec PyProof.Rows
variable {G:PySem.W.Frag}
section
variable {X:Cx} {io:List Nat} {p c:Bool} {e:Expr} {m:MEt} {pos apos cpos px:Pos} {i:Nat} {x:Str} {st:Stmt} {fa:FE}
noncomputable def Zhb (i:Nat) (m:MEt):MSt:=fun D δ=>match δ[i]? with
 | some (some (.nd _))=>m δ fun r δ1=>match r,δ1[i]? with
  | .nd rs,some (some (.nd ts))=>ts.length + rs.length ≤ sizeLine∧D.nx (δ1.set i (some (.nd (ts ++ (OT.datas rs).map OT.fz))))
  | _,_=>False
 | _=>False
theorem Owns.app {H:Hp} {L:Addr→Prop} {ds:List PyData}:∀ {zs xs:List V} {ts:List OT} {bs:List Addr},Owns G H L xs ts bs→Das G H L zs ds→Owns G H L (xs ++ zs) (ts ++ ds.map OT.fz) bs:=by
 induction ds with
 | nil =>
  intro zs xs ts bs h g
  cases g
  rw [List.append_nil,List.map_nil,List.append_nil]; exact h
 | cons d ds ih =>
  intro zs xs ts bs h g
  cases g with
  | cons q g =>
   have:=ih (h.snoc (.fz q)) g
   rw [List.append_nil,List.append_assoc,List.append_assoc] at this
   exact this
theorem Zh7 (i:Nat) (he:ME X io p true e m) (hN:X.N[i]? = some x:=by rfl) (hv:Vis X.env.scope x:=by first | exact Or.inl rfl | exact Or.inr (Or.inl rfl) | exact Or.inr (Or.inr rfl)) (hd:(x == ("__debug__" : Str)) = false:=by decide)
  (hcd:(x == ("__classdict__" : Str)) = false:=by decide)
  (hbase:attributeBase (.Name x px) "extend" X.env (eval (.Name x px) X.env) = eval (.Name x px) X.env:=by rfl)
  (hfew:((backTo cpos (starEach [e] X.env)).all (fun x=>!x.1) && (backToKw cpos (keywordEach [] X.env)).all (fun x=>x.1.isSome)
   && decide ([e].length + ([]:List Keyword).length + (if ([]:List Keyword).isEmpty then 0 else 1) < 30)) = true:=by rfl)
  (hline:(apos.endLine == cpos.line) = true:=by rfl) (hs:starEach [e] X.env = (false,eval e X.env) :: starEach [] X.env:=by rfl) (hplain:(backTo cpos (starEach [] X.env)).any (·.1) = false:=by rfl)
  (hsw:swapsWith (.Call (.Attribute (.Name x px) "extend" apos) [e] [] cpos) none pos.line X.env = pure false:=by rfl) :
  MS X io (.Expr (.Call (.Attribute (.Name x px) "extend" apos) [e] [] cpos) pos) (Zhb i m):=by
 obtain ⟨_,A,s⟩:=he
 refine ⟨_,Zc3 (Zmb PySem.F.plainAttrs_list PySem.F.slot_list_extend PySem.F.type_list_extend Zph (pv i hN hv hd hcd) (Jx A Zdn hs) hbase hfew hline hs hplain) hsw,fun C H σ δ fp ex D D' R h E=>?_⟩
 unfold Zhb at h
 split at h
 case h_2=>exact h.elim
 rename_i ts0 hi0
 obtain ⟨a',xs0,bs0,hv0,hx0,_,_⟩:=R.ownNd hi0
 refine ⟨_,hv0,.inl ⟨rfl,xs0,.inl (.inl hx0)⟩,?_⟩
 refine s C H σ δ fp ex _ _ R h fun H1 v r δ1 fp1 new r1 h1=>?_
 split at h1
 case h_2=>exact h1.elim
 rename_i rs ts1 hi1
 have R1:=r1.base
 obtain ⟨a1,xs1,bs1,hv1,hx1,o1,hf1⟩:=R1.ownNd hi1
 rw [hv0] at hv1
 cases hv1
 obtain ⟨b,zs,rfl,hb,lz,qs⟩:∃ b zs,v = .ref b∧H1 b = some (.lst zs)∧zs.length = rs.length∧Das X.K H1 (Lf C fp1 ex) zs (OT.datas rs):=by
  have ow:=r1.own
  have nw:∀ a ∈ new,Lf C fp1 ex a:=fun a m=>by
   refine ⟨fun qz=>?_,(R.newOk (r1.fresh a m)).2.1,.inr (R.newOk (r1.fresh a m)).2.2⟩
   obtain ⟨i,z⟩:=qz
   exact r1.rel.dx i a z (.inr m)
  cases ow with
  | nd hb r=>exact ⟨_,_,rfl,hb,r.length,r.das (fun a l _=>⟨(l rfl).1,fun z=>(l rfl).2.1 (.inl z),(l rfl).2.2⟩) fun a m=>nw a (.tail _ m)⟩
 refine ⟨a',b,xs1,zs,rfl,rfl,hx1,hb,by rw [o1.length,lz]; exact h1.1,?_⟩
 obtain ⟨R2,S2⟩:=R1.top hi1 hv0 hf1 hx1 (o1.app qs) (List.Sublist.refl _)
 exact E.nx _ σ _ _ R2 (r1.stp.kp.trans S2.kp) h1.2
noncomputable def Zan (i:Nat) (e:FE):FS:=fun δ=>match δ[i]? with
 | some (some (.nd _))=>wE e (fun r δ1=>match r,δ1[i]? with
  | .nd rs,some (some (.nd ts))=>if ts.length + rs.length ≤ sizeLine then .nx (δ1.set i (some (.nd (ts ++ (OT.datas rs).map OT.fz)))) else .bad
  | _,_=>.bad) δ
 | _=>.bad
theorem Zhz (h:MS X io st (Zhb i (o2 fa))):MS X io st (oS (Zan i fa)):=h.weak fun D δ h=>by
 unfold oS Zan at h; unfold Zhb
 split at h
 case h_2=>exact h.elim
 rename_i q; (try rw [q])
 refine (Zkm h).imp fun r δ' z=>?_
 split at z
 ·rename_i q2; (try rw [q2]); exact J7 z
 ·exact z.elim
end
end L2
namespace L2
open PySem PySem.Spec PyProof.Rows
noncomputable def Up (xs:List Nat):Prop:=xs.Pairwise (· < ·)
structure Tb (b:Bool) (t:SetTable):Prop where
 led:t.led = b
 up:t.plain = true→Up t.place.toList
end L2
namespace L2
open PySem PySem.Spec PyProof.Rows
section
variable {prog:Program} {w:World} {A:Around} {E:Value→Shared→Prop} {s:Shared} {b:Bool}
end
end L2
namespace L2
open PySem PySem.Spec PyProof.Rows
section
variable {prog:Program} {w:World} {A:Around} {R:Result→Shared→Prop} {I:Addr} {fp wr:List Addr} {n:Nat} {Pv:Nat→Value→Prop} {St:Nat→Heap→Prop} {b:Bool}
end
section
variable {prog:Program} {w:World} {A:Around} {E:Value→Shared→Prop} {s:Shared}
end
end L2
namespace L2
open PySem PySem.Spec PyProof.Rows
section
variable {prog:Program} {w:World} {A:Around} {E:Value→Shared→Prop} {s:Shared}
end
end L2
namespace L2
open PySem PySem.Spec PyProof.Rows
section
variable {prog:Program} {w:World} {A:Around} {E:Value→Shared→Prop} {s:Shared}
end
end L2
namespace L2
open PySem PySem.Spec PyProof.Rows
section
variable {prog:Program} {w:World} {A:Around} {E:Value→Shared→Prop} {s:Shared}
end
end L2
namespace L2
open PySem PySem.Spec PyProof.Rows
section
variable {prog:Program} {w:World} {A:Around} {E:Value→Shared→Prop} {s:Shared}
end
end L2
namespace L2
open PySem PySem.Spec PyProof.Rows
section
variable {prog:Program} {w:World} {A:Around} {E:Value→Shared→Prop} {s:Shared}
end
end L2
namespace L2
open PySem PySem.Spec PyProof.Rows
section
variable {prog:Program} {w:World} {A:Around} {E:Value→Shared→Prop} {s:Shared}
end
end L2
namespace L2
open PySem PySem.Spec PyProof.Rows
section
variable {prog:Program} {w:World} {A:Around} {E:Value→Shared→Prop} {s:Shared}
end
end L2
namespace L2
open PySem PySem.Spec PyProof.Rows
section
variable {X:Cx} {p c:Bool} {io:List Nat} {a e:Expr} {pos pos' pl pr:Pos} {t:TA} {mr:MAt} {ra:FA}
end
end L2
namespace L2
open PySem PySem.Spec PyProof.Rows
section
variable {X:Cx} {io:List Nat} {st:Stmt} {ra:FA}
end
end L2
namespace L2
open PySem PySem.Spec PyProof.Rows
section
variable {κ:Type} [DecidableEq κ]
noncomputable def Zlu (kvs:List (κ × V)) (k:κ):Option V:=(kvs.find? fun kv=>decide (kv.1 = k)).map (·.2)
noncomputable def putK (kvs:List (κ × V)) (k:κ) (v:V):List (κ × V) :=
 if (kvs.any fun kv=>decide (kv.1 = k)) = true then kvs.map (fun kv=>if kv.1 = k then (kv.1,v) else kv) else kvs ++ [(k,v)]
theorem Zd6 {p:κ × V} {r:List (κ × V)} {k:κ} (e:p.1 = k):Zlu (p :: r) k = some p.2:=by simp [Zlu,List.find?_cons,e]
theorem Zd5 {p:κ × V} {r:List (κ × V)} {k:κ} (e:¬ p.1 = k):Zlu (p :: r) k = Zlu r k:=by simp [Zlu,List.find?_cons,e]
theorem Zj2 (k:κ):∀ kvs:List (κ × V),(kvs.any fun kv=>decide (kv.1 = k)) = (Zlu kvs k).isSome
 | []=>rfl
 | p :: r=>by
  rw [List.any_cons]
  by_cases e:p.1 = k
  ·simp only [Zd6 e,decide_eq_true e,Bool.true_or,Option.isSome_some]
  ·rw [Zd5 e,decide_eq_false e,Bool.false_or]; exact Zj2 k r
theorem Zb9 (kvs:List (κ × V)) (k:κ) (v:V):(putK kvs k v).length ≤ kvs.length + 1:=by
 unfold putK
 split
 ·rw [List.length_map]; omega
 ·rw [List.length_append,List.length_cons,List.length_nil]; omega
theorem RelO.isSome_eq {o:Option V} {u:Option Value} (r:RelO o u):o.isSome = u.isSome:=by
 cases o with
 | none=>cases u with
  | none=>rfl
  | some _=>exact (show False from r).elim
 | some _=>cases u with
  | none=>exact (show False from r).elim
  | some _=>rfl
theorem RelO.getD {o:Option V} {u:Option Value} {d:V} {d':Value} (r:RelO o u) (rd:RelV d d'):RelV (o.getD d) (u.getD d'):=by
 cases o with
 | none=>cases u with
  | none=>exact rd
  | some _=>exact (show False from r).elim
 | some _=>cases u with
  | none=>exact (show False from r).elim
  | some _=>exact r
theorem KV.val {kvs:List (κ × V)} {vs:List (κ × Value)} (r:KV kvs vs) (k:κ):RelO (Zlu kvs k) (valueAt vs k):=by
 unfold KV at r
 induction r with
 | nil=>exact True.intro
 | @cons p q ps qs h t ih =>
  obtain ⟨h1,h2⟩:=h
  by_cases e:p.1 = k
  ·have e':q.1 = k:=h1.symm.trans e
   have b:valueAt (q :: qs) k = some q.2:=by simp [valueAt,List.find?_cons,e']
   rw [Zd6 e,b]; exact h2
  ·have e':¬ q.1 = k:=fun z=>e (h1.trans z)
   have b:valueAt (q :: qs) k = valueAt qs k:=by simp [valueAt,List.find?_cons,e']
   rw [Zd5 e,b]; exact ih
theorem KV.any {kvs:List (κ × V)} {vs:List (κ × Value)} (r:KV kvs vs) (k:κ):(kvs.any fun kv=>decide (kv.1 = k)) = vs.any fun kv=>decide (kv.1 = k):=by
 unfold KV at r
 induction r with
 | nil=>rfl
 | cons h t ih=>rw [List.any_cons,List.any_cons,ih,h.1]
theorem KV.repl {kvs:List (κ × V)} {vs:List (κ × Value)} (r:KV kvs vs) (k:κ) {y:V} {u:Value} (ry:RelV y u) :
  KV (kvs.map fun kv=>if kv.1 = k then (kv.1,y) else kv) (vs.map fun kv=>if kv.1 = k then (kv.1,u) else kv):=by
 unfold KV at r ⊢
 induction r with
 | nil=>exact .nil
 | @cons p q ps qs h t ih =>
  rw [List.map_cons,List.map_cons]
  refine .cons ?_ ih
  obtain ⟨h1,h2⟩:=h
  by_cases e:p.1 = k
  ·rw [if_pos e,if_pos (h1.symm.trans e)]; exact ⟨h1,ry⟩
  ·rw [if_neg e,if_neg (fun z=>e (h1.trans z))]; exact ⟨h1,h2⟩
theorem KV.put {kvs:List (κ × V)} {vs:List (κ × Value)} (r:KV kvs vs) (k:κ) {y:V} {u:Value} (ry:RelV y u):KV (putK kvs k y) (stored vs k u):=by
 unfold putK stored
 rw [r.any k]
 by_cases e:(vs.any fun kv=>decide (kv.1 = k)) = true
 ·rw [if_pos e,if_pos e]; exact r.repl k ry
 ·rw [if_neg e,if_neg e]; exact Paired.snoc r ⟨rfl,ry⟩
theorem KV.length {kvs:List (κ × V)} {vs:List (κ × Value)} (r:KV kvs vs):kvs.length = vs.length:=Paired.length r
end
theorem Zpe {P:Program} {w:World} {k:Key} {u:Value} (r:RelV (kV k) u):(Wd P w).is k u = true:=by
 cases k with
 | inl i=>obtain ⟨t,e⟩:=(show ∃ t,u = Value.int i t from r); subst e; exact Zi7 P w i t
 | inr x=>obtain ⟨t,e⟩:=(show ∃ t,u = Value.str x t from r); subst e; exact Zjg P w x t
theorem Zia {P:Program} {w:World}:∀ {ks:List Key} {us:List Value},Vals (ks.map kV) us→ItemsAre (Wd P w) ks us
 | [],_,r=>by rw [List.map_nil] at r; cases r; exact .nil
 | k :: ks,_,r=>by
  rw [List.map_cons] at r
  cases r with
  | cons h t=>exact .cons (Zpe h) (Zia t)
noncomputable abbrev KT (H:Hp):List (List Key × V)→List (List Key × Addr × Value)→Prop:=Paired fun p q=>p.1 = q.1∧H q.2.1 = some (.tup (p.1.map kV))∧RelV p.2 q.2.2
theorem KT.val {H:Hp} {kvs:List (List Key × V)} {xs:List (List Key × Addr × Value)} (r:KT H kvs xs) (k:List Key):RelO (Zlu kvs k) ((atKey xs k).map (·.2)):=by
 induction r with
 | nil=>exact True.intro
 | @cons p q ps qs h t ih =>
  obtain ⟨h1,_,h2⟩:=h
  by_cases e:p.1 = k
  ·have e':q.1 = k:=h1.symm.trans e
   have b:atKey (q :: qs) k = some q.2:=by simp [atKey,List.find?_cons,e']
   rw [Zd6 e,b]; exact h2
  ·have e':¬ q.1 = k:=fun z=>e (h1.trans z)
   have b:atKey (q :: qs) k = atKey qs k:=by simp [atKey,List.find?_cons,e']
   rw [Zd5 e,b]; exact ih
theorem KT.repl {H:Hp} {kvs:List (List Key × V)} {xs:List (List Key × Addr × Value)} (r:KT H kvs xs) (k:List Key) {y:V} {u:Value} (ry:RelV y u) :
  KT H (kvs.map fun kv=>if kv.1 = k then (kv.1,y) else kv) (xs.map (putAt k u)):=by
 induction r with
 | nil=>exact .nil
 | @cons p q ps qs h t ih =>
  rw [List.map_cons,List.map_cons]
  refine .cons ?_ ih
  obtain ⟨h1,h2,h3⟩:=h
  unfold putAt
  by_cases e:p.1 = k
  ·rw [if_pos e,if_pos (h1.symm.trans e)]; exact ⟨h1,h2,ry⟩
  ·rw [if_neg e,if_neg (fun z=>e (h1.trans z))]; exact ⟨h1,h2,h3⟩
theorem KT.put {H:Hp} {kvs:List (List Key × V)} {xs:List (List Key × Addr × Value)} (r:KT H kvs xs) (k:List Key) {b:Addr} {y:V} {u:Value} (hb:H b = some (.tup (k.map kV))) (ry:RelV y u) :
  KT H (putK kvs k y) (storedH xs k b u):=by
 have e:(kvs.any fun kv=>decide (kv.1 = k)) = (atKey xs k).isSome:=by
  rw [Zj2,(r.val k).isSome_eq,Option.isSome_map]
 unfold putK storedH
 rw [e]
 by_cases q:(atKey xs k).isSome = true
 ·rw [if_pos q,if_pos q]; exact r.repl k ry
 ·rw [if_neg q,if_neg q]; exact Paired.snoc r ⟨rfl,hb,ry⟩
theorem KT.keeps {H H':Hp} {kvs:List (List Key × V)} {xs:List (List Key × Addr × Value)} (r:KT H kvs xs) (ht:∀ b ys,H b = some (.tup ys)→H' b = some (.tup ys)):KT H' kvs xs :=
 Paired.mapP r fun _ _ z=>⟨z.1,ht _ _ z.2.1,z.2.2⟩
section
variable {P:Program} {w:World} {H:Hp} {h:Heap} {a:Addr}
theorem Zz7 {u:HO} (ok:HOk P w H h) (e:Rd H a u):ObjOk P w H h a u:=e.ok ok
theorem Zou {kvs:List (Key × V)} (ok:HOk P w H h) (e:Rd H a (.dK kvs)):kvs.length ≤ sizeLine∧(a == sysModules) = false∧∃ vs,KV kvs vs∧h.DictOf (Wd P w) a vs :=
 show ObjOk P w H h a (.dK kvs) from Zz7 ok e
theorem Z07 {kvs:List (Key × V)} (ok:HOk P w H h) (e:H a = some (.dK kvs)):kvs.length ≤ sizeLine∧(a == sysModules) = false∧∃ vs,KV kvs vs∧h.DictOf (Wd P w) a vs:=Zou ok (.inl e)
theorem Zkt {ks:List Key} (ok:HOk P w H h) (e:H a = some (.tup (ks.map kV))):(tupleKind (Wd P w)).is h ks a:=by
 obtain ⟨_,its,r,o,h1,h2,n,h3⟩:=(show ObjOk P w H h a (.tup (ks.map kV)) from ok a _ e)
 exact ⟨o,its.toArray,n,h1,h2,h3,by simpa using Zia r⟩
theorem Zqd {kvs:List (List Key × V)} (ok:HOk P w H h) (e:Rd H a (.dT kvs)):kvs.length ≤ sizeLine∧(a == sysModules) = false ∧
  ∃ xs,KT H kvs xs∧h.DictOfH (tupleKind (Wd P w)) a xs:=by
 obtain ⟨z,y,xs,r,o,es,ep,h1,h2,h3,h4,h5⟩:=(show ObjOk P w H h a (.dT kvs) from Zz7 ok e)
 refine ⟨z,y,xs,r,o,es,ep,h1,h2,h3,h4,fun x hx=>?_,h5⟩
 have all:∀ {l:List (List Key × V)} {m:List (List Key × Addr × Value)},KT H l m→∀ x ∈ m,(tupleKind (Wd P w)).is h x.1 x.2.1:=by
  intro l m q
  induction q with
  | nil=>intro x hx; exact nomatch hx
  | @cons p q ps qs hq t ih =>
   intro x hx
   rcases List.mem_cons.mp hx with e | hx
   ·subst e
    exact Zkt ok (by rw [← hq.1]; exact hq.2.1)
   ·exact ih x hx
 exact all r x hx
theorem Z5n {kvs:List (List Key × V)} (ok:HOk P w H h) (e:H a = some (.dT kvs)):kvs.length ≤ sizeLine∧(a == sysModules) = false ∧
  ∃ xs,KT H kvs xs∧h.DictOfH (tupleKind (Wd P w)) a xs:=Zqd ok (.inl e)
end
noncomputable def DGet (H:Hp) (a:Addr) (y:V) (r:Option V):Prop :=
 (∃ kvs k,Rd H a (.dK kvs)∧y = kV k∧r = Zlu kvs k)∨∃ kvs k b,Rd H a (.dT kvs)∧y = .ref b∧H b = some (.tup (k.map kV))∧r = Zlu kvs k
noncomputable def DPut (H:Hp) (a:Addr) (y v:V) (H':Hp):Prop :=
 (∃ kvs k,H a = some (.dK kvs)∧y = kV k∧kvs.length < sizeLine∧H' = upd H a (.dK (putK kvs k v))) ∨
 ∃ kvs k b,H a = some (.dT kvs)∧y = .ref b∧H b = some (.tup (k.map kV))∧kvs.length < sizeLine∧H' = upd H a (.dT (putK kvs k v))
theorem DGet.k {H:Hp} {a:Addr} {kvs:List (Key × V)} {k:Key} (e:H a = some (.dK kvs)):DGet H a (kV k) (Zlu kvs k):=.inl ⟨kvs,k,.inl e,rfl,rfl⟩
theorem DGet.t {H:Hp} {a b:Addr} {kvs:List (List Key × V)} {k:List Key} (e:H a = some (.dT kvs)) (eb:H b = some (.tup (k.map kV))):DGet H a (.ref b) (Zlu kvs k):=.inr ⟨kvs,k,b,.inl e,rfl,eb,rfl⟩
theorem DPut.k {H:Hp} {a:Addr} {kvs:List (Key × V)} {k:Key} {v:V} (e:H a = some (.dK kvs)) (hl:kvs.length < sizeLine):DPut H a (kV k) v (upd H a (.dK (putK kvs k v))):=.inl ⟨kvs,k,e,rfl,hl,rfl⟩
theorem DPut.t {H:Hp} {a b:Addr} {kvs:List (List Key × V)} {k:List Key} {v:V} (e:H a = some (.dT kvs)) (eb:H b = some (.tup (k.map kV))) (hl:kvs.length < sizeLine) :
  DPut H a (.ref b) v (upd H a (.dT (putK kvs k v))):=.inr ⟨kvs,k,b,e,rfl,eb,hl,rfl⟩
section
variable {X:Cx} {pins:List (Addr × Obj)} {σ:St} {H:Hp} {s:Shared} {a:Addr} {y v:V} {u r:Value} {o:Option V} {A:Around} {E:Value→Shared→Prop}
theorem Inv.big (I:Inv X pins σ H s):sysModules < s.heap.objs.size:=by
 have h:mainGlobals < s.heap.objs.size:=(I.mod.glob.keeps I.bk).lt
 exact Nat.lt_trans (by decide) h
theorem Zoo {Q:Value→Shared→Prop} (hu:A.units + 1 < cLine) (I:Inv X pins σ H s) (g:DGet H a y (some v)) (ry:RelV y u) (h:∀ w' s',Inv X pins σ H s'→RelV v w'→Q w' s') :
  wpAny (model X.prog X.w) A (getItem (.ref a) u) Q E s:=by
 rcases g with ⟨kvs,k,e,ey,l⟩ | ⟨kvs,k,b,e,ey,eb,l⟩
 ·subst ey
  obtain ⟨z,hd,vs,rel,dd⟩:=Zou I.hok e
  obtain ⟨w',hw,rw'⟩:=RelO.some_of (v:=v) (o:=valueAt vs k) (by rw [l]; exact rel.val k)
  exact wpAny_getItem_of (Zpe ry) dd.mapOf hw (h w' _ (I.tok _) rw')
 ·subst ey
  cases (show u = Value.ref b from ry)
  obtain ⟨z,hd,xs,rel,dd⟩:=Zqd I.hok e
  obtain ⟨w',hw,rw'⟩:=RelO.some_of (v:=v) (o:=(atKey xs k).map (·.2)) (by rw [l]; exact rel.val k)
  obtain ⟨p,hp,hp2⟩:=Option.map_eq_some_iff.mp hw
  refine wpAny_getItem_heap (tupleKind_room_in1 hu) (Zkt I.hok eb) dd hp ?_
  rw [hp2]
  exact h w' _ (I.tok _) rw'
theorem Zt3 {Q:Value→Shared→Prop} (hu:A.units + 1 < cLine) (I:Inv X pins σ H s) (g:DGet H a y o) (ry:RelV y u) (h:∀ s',Inv X pins σ H s'→Q (.bool (!o.isSome)) s') :
  wpAny (model X.prog X.w) A (compareOp .NotIn u (.ref a)) Q E s:=by
 rcases g with ⟨kvs,k,e,ey,l⟩ | ⟨kvs,k,b,e,ey,eb,l⟩
 ·subst ey
  obtain ⟨z,hd,vs,rel,dd⟩:=Zou I.hok e
  refine wpAny_notIn_of (Zpe ry) hd dd.mapOf ?_
  rw [← (rel.val k).isSome_eq,← l]
  exact h _ (I.tok _)
 ·subst ey
  cases (show u = Value.ref b from ry)
  obtain ⟨z,hd,xs,rel,dd⟩:=Zqd I.hok e
  refine wpAny_notIn_heap (tupleKind_room_in1 hu) (Zkt I.hok eb) hd dd ?_
  have q:=(rel.val k).isSome_eq
  rw [Option.isSome_map] at q
  rw [← q,← l]
  exact h _ (I.tok _)
theorem Zjb {h':Heap} {t':Nat} {ob:HO} (I:Inv X pins σ H s) (mu:Mut (H a)) (hs:Heap.SameBut a s.heap h') (he:∃ q,h'.get? a = some q) (new:ObjOk X.prog X.w (upd H a ob) h' a ob) :
  Inv X pins σ (upd H a ob) { s with heap:=h',toks:=t' } :=
 I.write (x:=a) (e:=a) mu (.inl rfl) (fun b q hb z=>(hs.2 b hb).trans z) he new
theorem Ztn {P:Program} {w:World} {H':Hp} {h':Heap} {kvs:List (Key × V)} {vs:List (Key × Value)} (z:kvs.length ≤ sizeLine) (hd:(a == sysModules) = false) (rel:KV kvs vs) (dd:h'.DictOf (Wd P w) a vs) :
  ObjOk P w H' h' a (.dK kvs):=⟨z,hd,vs,rel,dd⟩
theorem Zmj {H':Hp} {Q:Unit→Shared→Prop} (hu:A.units + 1 < cLine) (I:Inv X pins σ H s) (g:DPut H a y v H') (ry:RelV y u) (rv:RelV v r) (h:∀ s',Inv X pins σ H' s'→Q () s') :
  wpAny (model X.prog X.w) A (setItem (.ref a) u r) Q E s:=by
 rcases g with ⟨kvs,k,e,ey,l,eH⟩ | ⟨kvs,k,b,e,ey,eb,l,eH⟩
 ·subst ey eH
  obtain ⟨z,hd,vs,rel,dd⟩:=Z07 I.hok e
  have hz:vs.length ≤ sizeLine:=by rw [← rel.length]; exact z
  have hl:(putK kvs k v).length ≤ sizeLine:=by have:=Zb9 kvs k v; omega
  refine wpAny_setItem_pairs (hsz:=hz) (Zpe ry) dd fun h' dd' hs=>h _ ?_
  have he:∃ q,h'.get? a = some q:=let ⟨q,_,_,hq,_⟩:=dd'; ⟨q,hq⟩
  exact Zjb I (by rw [e]; exact True.intro) hs he (Ztn hl hd (rel.put k rv) dd')
 ·subst ey eH
  cases (show u = Value.ref b from ry)
  obtain ⟨z,hd,xs,rel,dd⟩:=Z5n I.hok e
  have hz:xs.length ≤ sizeLine:=by rw [← Paired.length rel]; exact z
  have hl:(putK kvs k v).length ≤ sizeLine:=by have:=Zb9 kvs k v; omega
  refine wpAny_setItem_heap (hsz:=hz) (tupleKind_room_in1 hu) (Zkt I.hok eb) dd fun h' dd' hs=>h _ ?_
  obtain ⟨q,es,ep,hq,h2,h3,h4,_,h5⟩:=dd'
  refine Zjb I (by rw [e]; exact True.intro) hs ⟨q,hq⟩ ⟨hl,hd,_,(rel.put k eb rv).keeps fun c ys ec=>?_,q,es,ep,hq,h2,h3,h4,h5⟩
  rw [Zj (Z6r ec e (fun z=>nomatch z))]
  exact ec
end
section
variable {X:Cx} {pins:List (Addr × Obj)} {σ:St} {H:Hp} {s:Shared} {a:Addr} {kvs:List (Key × V)} {k:Key} {u:Value} {A:Around} {E:Value→Shared→Prop}
end
noncomputable def Z41 (i:Expr):Prop:=∀ ov iv,subscripted i false ov iv = operate [ov,iv] (getItem ov iv)
theorem Zuj {prog:Program} {w:World} {A:Around} {E:Value→Shared→Prop} {s:Shared} {env:Env} {value slice:Expr} {pos:Pos} {T id:String} {Q:Value→Shared→Prop}
  (hl:typeLookup (.type T) "__getitem__" = pure (some (.builtin id))) (hs:Z41 slice)
  (h:wpAny (model prog w) A (eval value env) (fun o s₁=>wpAny (model prog w) A (eval slice env) (fun i s₂=>s₂.TypeIs o T∧wpAny (model prog w) A (getItem o i) Q E s₂) E s₁) E s) :
  wpAny (model prog w) A (eval (.Subscript value slice pos) env) Q E s:=by
 refine Subscript_ (wpAny_mono h (fun o s₁ h₁=>wpAny_mono h₁ (fun i s₂ h₂=>?_) fun _ _ x=>x) fun _ _ x=>x)
 obtain ⟨hT,h₂⟩:=h₂
 unfold subscriptTail
 refine wpAny_bind ?_
 rw [getitemInPython_of_ne hT.not_modules]
 refine wpAny_bind (wpAny_specialOf hT hl ?_)
 have fin:wpAny (model prog w) A (subscripted slice false o i) (fun r s₃=>wpAny (model prog w) A (letTemporaryGo value o r >>= fun _=>pure r) Q E s₃) E s₂:=by
  rw [hs o i]
  exact wpAny_operating (wpAny_mono h₂ (fun r s₃ h₃=>wpAny_bind (wpAny_letTemporaryGo (wpAny_pure h₃))) fun _ _ x=>x)
 first
  | exact wpAny_pure (wpAny_bind fin)
  | exact wpAny_bind (wpAny_pure (wpAny_bind fin))
  | exact wpAny_bind fin
theorem Zi9 {X:Cx} {pins:List (Addr × Obj)} {σ:St} {H:Hp} {s:Shared} {a:Addr} {y:V} {o:Option V} (I:Inv X pins σ H s) (g:DGet H a y o):s.TypeIs (.ref a) "dict" := by
 rcases g with ⟨kvs,k,e,_,_⟩ | ⟨kvs,k,b,e,_,_,_⟩
 ·obtain ⟨_,_,vs,_,dd⟩:=Zou I.hok e
  exact dd.typeIs
 ·obtain ⟨_,_,xs,_,dd⟩:=Zqd I.hok e
  exact dd.typeIs
noncomputable def Z45 (td ty:TE):TE:=fun σ H Q=>td σ H fun x H1=>ty σ H1 fun y H2=>∃ a v,x = .ref a∧DGet H2 a y (some v)∧Q v H2
noncomputable def Z4o (td ty tv:TE):TS:=fun D σ H=>tv σ H fun v H1=>td σ H1 fun x H2=>ty σ H2 fun y H3=>∃ a H4,x = .ref a∧DPut H3 a y v H4∧D.nx σ H4
section
variable {X:Cx} {o i e value:Expr} {pos pos' tpos:Pos} {td ty tv:TE}
theorem Zt9 (hu:X.A.units + 1 < cLine) (ho:PE X o td) (hi:PE X i ty) (hs:Z41 i):PE X (.Subscript o i pos) (Z45 td ty):=by
 intro pins s σ H Q I h
 refine Zuj PySem.F.slot_dict_getitem.lookup hs (thn (ho pins s σ H _ I h) fun u s1 ⟨x,H1,I1,rx,q1⟩=>thn (hi pins s1 σ H1 _ I1 q1) fun iv s2 ⟨y,H2,I2,ry,a,v,ex,g,q2⟩=>?_)
 subst ex
 obtain rfl:u = Value.ref a:=rx
 exact ⟨Zi9 I2 g,Zoo hu I2 g ry fun w' s3 I3 rw'=>⟨v,H2,I3,rw',q2⟩⟩
theorem Zux (hu:X.A.units + 1 < cLine) (ho:PE X o td) (hi:PE X i ty) (hv:PE X value tv) (hs:swapsWith value (some (.Subscript o i pos')) pos.line X.env = pure false) :
  PS X (.Assign [.Subscript o i pos'] value pos) (Z4o td ty tv):=by
 intro pins s σ H D I h
 refine wpAny_Assign_Subscript (thn (hv pins s σ H _ I h) fun r s1 ⟨v,H1,I1,rv,q1⟩=>thn (ho pins s1 σ H1 _ I1 q1) fun u s2 ⟨x,H2,I2,rx,q2⟩=>thn (hi pins s2 σ H2 _ I2 q2) fun iv s3 ⟨y,H3,I3,ry,a,H4,ex,g,q3⟩=>?_) hs
 subst ex
 obtain rfl:u = Value.ref a:=rx
 exact Zmj hu I3 g ry rv fun s4 I4=>⟨σ,H4,I4,q3⟩
end
theorem Zq8 {P:Program} {w:World} {H:Hp} (h:Heap) (hb:sysModules < h.objs.size):ObjOk P w H (h.push { cls:=.type "dict", data:=.dict #[] }) h.objs.size (.dK []) :=
 ⟨Nat.zero_le _,beq_eq_false_iff_ne.mpr (Ne.symm (Nat.ne_of_lt hb)),[],.nil,Heap.DictOf.new h⟩
section
variable {X:Cx} {pos:Pos}
end
noncomputable def Zol:List (TE × TE)→St→Hp→(List (V × V)→Hp→Prop)→Prop
 | [],_,H,Q=>Q [] H
 | (tk,tv) :: r,σ,H,Q=>tk σ H fun x H1=>tv σ H1 fun y H2=>Zol r σ H2 fun ps H3=>Q ((x,y) :: ps) H3
noncomputable abbrev VV:List (V × V)→List (Value × Value)→Prop:=Paired fun p q=>RelV p.1 q.1∧RelV p.2 q.2
noncomputable def PPs (X:Cx) (pos:Pos) (keys:List (Option Expr)) (values:List Expr) (trs:List (TE × TE)):Prop :=
 ∀ (pins:List (Addr × Obj)) (s:Shared) (σ:St) (H:Hp) (Q:List (V × V)→Hp→Prop),Inv X pins σ H s→Zol trs σ H Q →
  wpAny (model X.prog X.w) X.A (evalPairs (pairTrees keys values X.env pos)) (fun vs s'=>∃ ps H',Inv X pins σ H' s'∧VV ps vs∧Q ps H') X.xe s
theorem Zvp {X:Cx} {pos:Pos}:PPs X pos [] [] []:=fun pins s σ H Q I h=>pairTrees_nil_walk ⟨[],H,I,.nil,h⟩
theorem Zrb {X:Cx} {pos:Pos} {k v:Expr} {ks:List (Option Expr)} {vs:List Expr} {tk tv:TE} {trs:List (TE × TE)} (hk:PE X k tk) (hv:PE X v tv) (hr:PPs X pos ks vs trs) :
  PPs X pos (some k :: ks) (v :: vs) ((tk,tv) :: trs):=fun pins s σ H Q I h =>
 pairTrees_cons_walk (thn (hk pins s σ H _ I h) fun u s1 ⟨x,H1,I1,rx,q1⟩=>thn (hv pins s1 σ H1 _ I1 q1) fun w2 s2 ⟨y,H2,I2,ry,q2⟩ =>
  thn (hr pins s2 σ H2 _ I2 q2) fun ws s3 ⟨ps,H3,I3,rel,q3⟩=>⟨(x,y) :: ps,H3,I3,.cons ⟨rx,ry⟩ rel,q3⟩)
noncomputable def Zds (kvs more:List (Key × V)):List (Key × V):=more.foldl (fun acc kv=>putK acc kv.1 kv.2) kvs
theorem KV.merge:∀ {more:List (Key × V)} {rs:List (Key × Value)} {kvs:List (Key × V)} {vs:List (Key × Value)},KV more rs→KV kvs vs→KV (Zds kvs more) (merged vs rs):=by
 intro more rs kvs vs r
 unfold KV at r
 induction r generalizing kvs vs with
 | nil=>intro q; exact q
 | @cons p q ps qs h t ih =>
  intro r0
  have e:KV (putK kvs p.1 p.2) (stored vs q.1 q.2):=by
   have:=r0.put p.1 h.2
   rw [← h.1]; exact this
  exact ih e
theorem Zct:∀ (more kvs:List (Key × V)),(Zds kvs more).length ≤ kvs.length + more.length
 | [],kvs=>by show kvs.length ≤ kvs.length + 0; omega
 | p :: r,kvs=>by
  have h1:=Zct r (putK kvs p.1 p.2)
  have h2:=Zb9 kvs p.1 p.2
  show (Zds (putK kvs p.1 p.2) r).length ≤ _
  rw [List.length_cons]; omega
theorem Zf6 {P:Program} {w:World}:∀ {kvs:List (Key × V)} {ws:List (Value × Value)},VV (kvs.map fun kv=>(kV kv.1,kv.2)) ws→∃ rs,Carries (Wd P w) ws rs∧KV kvs rs
 | [],_,r=>by rw [List.map_nil] at r; cases r; exact ⟨[],True.intro,.nil⟩
 | p :: kvs,_,r=>by
  rw [List.map_cons] at r
  cases r with
  | @cons a b as bs h t =>
   obtain ⟨rs,c,q⟩:=Zf6 (P:=P) (w:=w) t
   obtain ⟨b1,b2⟩:=b
   exact ⟨(p.1,b2) :: rs,⟨Zpe h.1,rfl,c⟩,.cons ⟨rfl,h.2⟩ q⟩
noncomputable def Z33 (trs:List (TE × TE)):TE:=fun σ H Q=>∀ p,H p = none→Zol trs σ (upd H p (.dK [])) fun ps H2=>H2 p = some (.dK [])∧∃ kvs:List (Key × V),ps = kvs.map (fun kv=>(kV kv.1,kv.2))∧kvs.length ≤ 15∧Q (.ref p) (upd H2 p (.dK (Zds [] kvs)))
theorem Zwo {X:Cx} {pos:Pos} {keys:List (Option Expr)} {values:List Expr} {trs:List (TE × TE)} (h:PPs X pos keys values trs) (hall:keys.all (·.isSome) = true) (hl:keys.length = values.length) (h0:keys ≠ [])
  (h15:keys.length ≤ 15):PE X (.Dict keys values pos) (Z33 trs):=by
 intro pins s σ H Q I q
 have hn:=I.hok.fresh (Nat.le_refl s.heap.objs.size)
 have I1:=I.laid (a:=s.heap.objs.size) (o:=.dK []) (h':=s.heap.push { cls:=.type "dict", data:=.dict #[] }) (t':=s.toks) (fun _ _ q=>Heap.get?_push_of_some _ q) (Nat.le_refl _) (Zq8 s.heap I.big)
 refine wpAny_Dict_walk (knd:=Wd X.prog X.w) hall hl h0 h15 (thn (h pins _ σ _ _ I1 (q _ hn)) fun ws s2 ⟨ps,H2,I2,rel,e,kvs,ep,lk,q2⟩=>?_)
 subst ep
 obtain ⟨rs,c,rk⟩:=Zf6 (P:=X.prog) (w:=X.w) rel
 obtain ⟨z,hd,vs0,r0,dd⟩:=Z07 I2.hok e
 cases r0
 refine ⟨rs,c,dd,fun h' dd' hs=>⟨.ref s.heap.objs.size,_,?_,rfl,q2⟩⟩
 have hz:(Zds [] kvs).length ≤ sizeLine:=by
  have h1:=Zct kvs []
  rw [List.length_nil] at h1
  rw [sizeLine_eq]; omega
 have he:∃ q,h'.get? s.heap.objs.size = some q:=let ⟨q,_,_,hq,_⟩:=dd'; ⟨q,hq⟩
 exact Zjb I2 (by rw [e]; exact True.intro) hs he (Ztn hz hd (rk.merge .nil) dd')
structure M1 (X:Cx) (o:Expr) (m:Str) (apos:Pos) (e:Expr) (cpos:Pos):Prop where
 base:attributeBase o m X.env (eval o X.env) = eval o X.env
 few:((backTo cpos (starEach [e] X.env)).all (fun x=>!x.1) && (backToKw cpos (keywordEach [] X.env)).all (fun x=>x.1.isSome)
  && decide (([e]:List Expr).length + ([]:List Keyword).length + (if ([]:List Keyword).isEmpty then 0 else 1) < 30)) = true
 line:(apos.endLine == cpos.line) = true
 trees:backTo cpos (starEach [e] X.env) = [(false,eval e X.env)]
structure M2 (X:Cx) (o:Expr) (m:Str) (apos:Pos) (e f:Expr) (cpos:Pos):Prop where
 base:attributeBase o m X.env (eval o X.env) = eval o X.env
 few:((backTo cpos (starEach [e,f] X.env)).all (fun x=>!x.1) && (backToKw cpos (keywordEach [] X.env)).all (fun x=>x.1.isSome)
  && decide (([e,f]:List Expr).length + ([]:List Keyword).length + (if ([]:List Keyword).isEmpty then 0 else 1) < 30)) = true
 line:(apos.endLine == cpos.line) = true
 trees:backTo cpos (starEach [e,f] X.env) = [(false,eval e X.env),(false,eval f X.env)]
noncomputable def IsD (H:Hp) (a:Addr):Prop:=(∃ kvs,Rd H a (.dK kvs))∨∃ kvs,Rd H a (.dT kvs)
section
variable {X:Cx} {pins:List (Addr × Obj)} {σ:St} {H:Hp} {s:Shared} {a:Addr} {y d:V} {u r:Value} {o:Option V} {A:Around} {E:Value→Shared→Prop}
end
section
variable {X:Cx} {o e f:Expr} {apos cpos:Pos} {td ty tx:TE}
end
end L2
namespace L2
open PySem PySem.Spec PyProof.Rows
variable {G:PySem.W.Frag}
noncomputable def Zfj:PyData→Option Key
 | .int i=>some (.inl i)
 | .str x=>some (.inr x)
 | _=>none
noncomputable def Zik:List PyData→Option (List Key)
 | []=>some []
 | d :: ds=>(Zfj d).bind fun k=>(Zik ds).bind fun ks=>some (k :: ks)
noncomputable def Zhl:PyData→Option KY
 | .tuple ds=>(Zik ds).map .inr
 | d=>(Zfj d).map .inl
noncomputable def Zmn:KY→Bool
 | .inl _=>false
 | .inr _=>true
theorem Zwa (k:Key):Zfj (Zyv k) = some k:=by cases k <;> rfl
theorem Zu0 (ks:List Key):Zik (ks.map Zyv) = some ks:=by
 induction ks with
 | nil=>rfl
 | cons k ks ih=>rw [List.map_cons,Zik,Zwa,ih]; rfl
theorem Zz5 (k:KY):Zhl (kyD k) = some k:=by
 cases k with
 | inl k=>cases k <;> rfl
 | inr ks=>show (Zik (ks.map Zyv)).map (Sum.inr:List Key→KY) = _; rw [Zu0]; rfl
noncomputable def Zsb (k:KY):List KY→List PyData→Option PyData
 | [],_=>none
 | _ :: _,[]=>none
 | j :: ks,d :: ds=>if j = k then some d else Zsb k ks ds
noncomputable def Z43 (k:KY) (x:PyData):List KY→List PyData→List PyData
 | [],ds=>ds
 | _ :: _,[]=>[]
 | j :: ks,d :: ds=>(if j = k then x else d) :: Z43 k x ks ds
noncomputable def Zsj (k:KY) (ks:List KY):Bool:=ks.any fun j=>decide (j = k)
noncomputable def Zp5 (k:KY) (ks:List KY):List KY:=if Zsj k ks = true then ks else ks ++ [k]
noncomputable def Zml (k:KY) (x:PyData) (ks:List KY) (ds:List PyData):List PyData:=if Zsj k ks = true then Z43 k x ks ds else ds ++ [x]
section
variable {H:Hp} {L:Addr→Prop} {κ:Type} [DecidableEq κ] {f:κ→KY}
noncomputable def Z4p (G:PySem.W.Frag) (H:Hp) (L:Addr→Prop) (a:Option V) (b:Option PyData):Prop:=(∃ v d,a = some v∧b = some d∧Da G H L v d)∨(a = none∧b = none)
theorem look (hf:∀ a b,f a = f b→a = b) (k:κ) (kvs:List (κ × V)):∀ ds,Das G H L (kvs.map (·.2)) ds→Z4p G H L (Zlu kvs k) (Zsb (f k) (kvs.map fun p=>f p.1) ds):=by
 induction kvs with
 | nil=>exact fun ds _=>.inr ⟨rfl,rfl⟩
 | cons p kvs ih =>
  intro ds h
  cases h with
  | cons h r =>
   rename_i d ds
   show Z4p G H L _ (if f p.1 = f k then some d else Zsb (f k) (kvs.map fun p=>f p.1) ds)
   by_cases e:p.1 = k
   ·rw [Zd6 e,if_pos (congrArg f e)]
    exact .inl ⟨_,_,rfl,rfl,h⟩
   ·rw [Zd5 e,if_neg fun z=>e (hf _ _ z)]
    exact ih _ r
theorem Z8e (hf:∀ a b,f a = f b→a = b) (k:κ) (kvs:List (κ × V)):(kvs.any fun kv=>decide (kv.1 = k)) = Zsj (f k) (kvs.map fun p=>f p.1):=by
 unfold Zsj
 rw [List.any_map]
 refine congrArg (List.any kvs) (funext fun p=>?_)
 exact decide_eq_decide.mpr ⟨congrArg f,hf _ _⟩
theorem Z9u (k:κ) (v:V) (kvs:List (κ × V)):(kvs.map (fun kv=>if kv.1 = k then (kv.1,v) else kv)).map (fun p=>f p.1) = kvs.map fun p=>f p.1:=by
 rw [List.map_map]
 refine List.map_congr_left fun p _=>?_
 show f (if p.1 = k then (p.1,v) else p).1 = f p.1
 by_cases c:p.1 = k
 ·rw [if_pos c]
 ·rw [if_neg c]
theorem Z9v (hf:∀ a b,f a = f b→a = b) (k:κ) {v:V} {x:PyData} (hv:Da G H L v x) (kvs:List (κ × V)):∀ ds,Das G H L (kvs.map (·.2)) ds→Das G H L ((kvs.map (fun kv=>if kv.1 = k then (kv.1,v) else kv)).map (·.2)) (Z43 (f k) x (kvs.map fun p=>f p.1) ds):=by
 induction kvs with
 | nil=>intro ds h; cases h; exact .nil
 | cons p kvs ih =>
  intro ds h
  cases h with
  | cons h r =>
   rename_i d ds
   refine .cons ?_ (ih _ r)
   show Da G H L (if p.1 = k then (p.1,v) else p).2 (if f p.1 = f k then x else d)
   by_cases e:p.1 = k
   ·rw [if_pos e,if_pos (congrArg f e)]; exact hv
   ·rw [if_neg e,if_neg fun z=>e (hf _ _ z)]; exact h
theorem Zkx (hf:∀ a b,f a = f b→a = b) (k:κ) (v:V) (kvs:List (κ × V)):(putK kvs k v).map (fun p=>f p.1) = Zp5 (f k) (kvs.map fun p=>f p.1):=by
 unfold putK Zp5
 rw [Z8e hf]
 cases c:Zsj (f k) (kvs.map fun p=>f p.1) with
 | true=>rw [if_pos rfl,if_pos rfl,Z9u]
 | false=>rw [if_neg Bool.false_ne_true,if_neg Bool.false_ne_true,List.map_append]; rfl
theorem Zkr (hf:∀ a b,f a = f b→a = b) (k:κ) {v:V} {x:PyData} (hv:Da G H L v x) (kvs:List (κ × V)) {ds:List PyData} (h:Das G H L (kvs.map (·.2)) ds):Das G H L ((putK kvs k v).map (·.2)) (Zml (f k) x (kvs.map fun p=>f p.1) ds):=by
 unfold putK Zml
 rw [Z8e hf]
 cases c:Zsj (f k) (kvs.map fun p=>f p.1) with
 | true=>rw [if_pos rfl,if_pos rfl]; exact Z9v hf k hv kvs _ h
 | false=>rw [if_neg Bool.false_ne_true,if_neg Bool.false_ne_true,List.map_append]; exact h.snoc hv
end
theorem Zjm:∀ a b:Key,(Sum.inl a:KY) = Sum.inl b→a = b:=fun _ _ h=>Sum.inl.inj h
theorem Zi3:∀ a b:List Key,(Sum.inr a:KY) = Sum.inr b→a = b:=fun _ _ h=>Sum.inr.inj h
section
variable {H:Hp} {L:Addr→Prop} {y:V} {e:PyData}
theorem Da.key1 {k:Key} (h:Da G H L y e) (hk:Zfj e = some k):y = kV k:=by
 cases h with
 | int i=>cases hk; rfl
 | str x=>cases hk; rfl
 | exc _ _ _=>unfold exD Zfj at hk; cases hk
 | fn _=>unfold fnD Zfj at hk; cases hk
 | dic _ _ _ _=>unfold dcD Zfj at hk; cases hk
 | _=>cases hk
theorem Das.keys {xs:List V} {ds:List PyData} (h:Das G H L xs ds):∀ ks,Zik ds = some ks→xs = ks.map kV :=
 Das.ind (Q:=fun xs ds=>∀ ks,Zik ds = some ks→xs = ks.map kV) (fun ks h=>by cases h; rfl) (fun {x xs d ds} h _ ih ks hk=>by
  rw [Zik] at hk
  obtain ⟨k,h1,hk⟩:=bs hk
  obtain ⟨ks',h2,hk⟩:=bs hk
  cases hk
  rw [h.key1 h1,ih _ h2]; rfl) h
theorem Da.keyT {ks:List Key} (h:Da G H L y e) (hk:Zhl e = some (.inr ks)):∃ b,y = .ref b∧H b = some (.tup (ks.map kV)):=by
 cases h with
 | tup e1 r =>
  rw [Zhl] at hk
  obtain ⟨ks',h1,h2⟩:=Option.map_eq_some_iff.mp hk
  cases h2
  exact ⟨_,rfl,by rw [← r.keys _ h1]; exact e1⟩
 | exc _ _ _=>unfold exD Zhl Zfj at hk; cases hk
 | fn _=>unfold fnD Zhl Zfj at hk; cases hk
 | dic _ _ _ _=>unfold dcD Zhl Zfj at hk; cases hk
 | _=>cases hk
theorem Da.keyS {k:Key} (h:Da G H L y e) (hk:Zhl e = some (.inl k)):y = kV k:=by
 refine h.key1 ?_
 unfold Zhl at hk
 split at hk
 ·obtain ⟨_,_,z⟩:=Option.map_eq_some_iff.mp hk; cases z
 ·obtain ⟨_,h1,z⟩:=Option.map_eq_some_iff.mp hk; cases z; exact h1
noncomputable def Zff (k:KY):List (PyData × PyData)→Option PyData
 | []=>none
 | p :: r=>if Zhl p.1 = some k then some p.2 else Zff k r
theorem Zel (k:KY) (ks:List KY):∀ ds,Zff k ((ks.map kyD).zip ds) = Zsb k ks ds:=by
 induction ks with
 | nil=>intro ds; rfl
 | cons j ks ih =>
  intro ds
  cases ds with
  | nil=>rfl
  | cons d ds =>
   show (if Zhl (kyD j) = some k then some d else Zff k ((ks.map kyD).zip ds)) = if j = k then some d else Zsb k ks ds
   rw [Zz5,ih]
   by_cases c:j = k
   ·rw [if_pos c,if_pos (congrArg some c)]
   ·rw [if_neg c,if_neg fun z=>c (Option.some.inj z)]
theorem Da.dget {x:V} {t:Bool} {kvs:List (PyData × PyData)} {k:KY} (h:Da G H L x (.dict ((.none,.bool t) :: kvs))) (hy:Da G H L y e) (hk:Zhl e = some k) (ht:Zmn k = t):∃ a o,x = .ref a∧IsD H a∧DGet H a y o∧Z4p G H L o (Zff k kvs):=by
 generalize ed:PyData.dict ((.none,.bool t) :: kvs) = d at h
 cases h with
 | dic l r dk q =>
  rename_i a o t' ks xs ds
  unfold dcD at ed
  injection ed with ed
  injection ed with e1 e2
  injection e1 with _ e1
  injection e1 with e1
  subst e1 e2
  rw [Zel]
  cases o with
  | lst _=>exact dk.elim
  | dK kv =>
   obtain ⟨rfl,rfl,rfl⟩:=dk
   cases k with
   | inr _=>cases ht
   | inl k=>exact ⟨a,_,rfl,.inl ⟨kv,r⟩,.inl ⟨kv,k,r,hy.keyS hk,rfl⟩,look Zjm k kv _ q⟩
  | dT kv =>
   obtain ⟨rfl,rfl,rfl⟩:=dk
   cases k with
   | inl _=>cases ht
   | inr k =>
    obtain ⟨b,hb,eb⟩:=hy.keyT hk
    exact ⟨a,_,rfl,.inr ⟨kv,r⟩,.inr ⟨kv,k,b,r,hb,eb,rfl⟩,look Zi3 k kv _ q⟩
 | exc _ _ _=>unfold exD at ed; cases ed
 | fn _=>unfold fnD at ed; cases ed
 | _=>cases ed
end
end L2
namespace L2
open PySem PySem.Spec PyProof.Rows
variable {G:PySem.W.Frag}
section
variable {X:Cx} {io:List Nat} {p c p' c':Bool} {a b e f o:Expr} {ma mb m mi mo me mf:MEt} {pos pp apos cpos px:Pos} {i:Nat} {x:Str}
theorem hu1 {n:Nat} (h:n + 64 < cLine):n + 1 < cLine:=Nat.lt_of_le_of_lt (Nat.add_le_add_left (by decide:1 ≤ 64) _) h
noncomputable def Zkk:PyData→PyData→Option OT:=fun d e=>match d with
 | .dict ((.none,.bool t) :: kvs)=>(Zhl e).bind fun k=>if Zmn k = t then (Zff k kvs).map OT.fz else none
 | _=>none
noncomputable def Z6f:PyData→PyData→(OT→Prop)→Prop:=fun d e k=>∃ r,Zkk d e = some r∧k r
noncomputable def Z7d:R2:=fun x y H Q=>∃ a v,x = .ref a∧DGet H a y (some v)∧Q v H
theorem Zrz:ByO Zkk Z6f:=fun _ _ r _ h hk=>⟨r,h,hk⟩
theorem Zzv:P2 G Z7d Z6f:=fun H L x y d e k Q hx hy h kk=>by
 obtain ⟨r,h,hk⟩:=h
 unfold Zkk at h
 split at h
 case h_2=>cases h
 rename_i t kvs
 obtain ⟨ky,h1,h⟩:=bs h
 by_cases ht:Zmn ky = t
 ·rw [if_pos ht] at h
  obtain ⟨a,o,rfl,_,g,R⟩:=hx.dget hy h1 ht
  obtain ⟨z,hz,rfl⟩:=Option.map_eq_some_iff.mp h
  rcases R with ⟨v,d,rfl,hd,q⟩ | ⟨_,hd⟩
  ·rw [hz] at hd
   cases hd
   exact ⟨a,v,rfl,g,kk H v (.fz z) [] (Same.refl _) (.fz (q.wide fun a l _=>⟨.inl l,fun m=>nomatch m⟩)) .nil (fun a m=>nomatch m) hk⟩
  ·rw [hz] at hd; cases hd
 ·rw [if_neg ht] at h; cases h
theorem Zrk (hu:X.A.units + 64 < cLine) (ha:ME X io p c a ma) (hb:ME X io p' c' b mb) (hc:p' = true∨c = true:=by first | exact Or.inl rfl | exact Or.inr rfl) (hs:Z41 b):ME X io (p && p') (c && c') (.Subscript a b pos) (Z14 Z6f ma mb):=by
 obtain ⟨_,A,sa⟩:=ha
 obtain ⟨_,B,sb⟩:=hb
 exact ⟨_,Zt9 (hu1 hu) A B hs,Z4y (r:=Z7d) Zzv sa sb hc⟩
theorem Rel.ownDc {C:MC G} {H:Hp} {σ:St} {δ:Zc} {fp:Fp} {ex:Addr→Prop} {t:Bool} {ks:List KY} {ds:List PyData} (R:Rel C io H σ δ fp ex) (hi:δ[i]? = some (some (.dc t ks ds))) :
  ∃ a' ob xs,σ[i]? = some (some (.ref a'))∧H a' = some (MuO.ho ob)∧ob.dic t ks xs∧Das G H (Lf C fp ex) xs ds∧fp i = [a']:=by
 obtain ⟨v,e,o⟩:=R.own i _ hi
 generalize hf:fp i = as at o
 cases o with
 | dc h k r=>exact ⟨_,_,_,e,h,k,r,rfl⟩
theorem Rel.topD {C:MC G} {H:Hp} {σ:St} {δ:Zc} {fp:Fp} {ex:Addr→Prop} {t:Bool} {ks ks':List KY} {ds ds':List PyData} {a':Addr} {ob ob':MuO} {ys:List V} (R:Rel C io H σ δ fp ex) (hi:δ[i]? = some (some (.dc t ks ds))) (hv:σ[i]? = some (some (.ref a')))
  (hf:fp i = [a']) (hx:H a' = some ob.ho) (dk:ob'.dic t ks' ys) (o:Das G H (Lf C fp ex) ys ds') :
  Rel C io (upd H a' ob'.ho) σ (δ.set i (some (.dc t ks' ds'))) (fpu fp i [a']) ex∧Stp false H δ fp (upd H a' ob'.ho) (δ.set i (some (.dc t ks' ds'))) (fpu fp i [a']):=by
 have hm:a' ∈ fp i:=by rw [hf]; exact .head _
 have ne':∀ a,¬ Foot fp a→a ≠ a':=fun a h z=>h ⟨i,by rw [z]; exact hm⟩
 have kp:∀ b o,H b = some o→b ≠ a'→upd H a' ob'.ho b = some o:=fun b o e n=>by rw [Zj n]; exact e
 have sub:∀ a,a ∈ [a']→a ∈ fp i:=fun a m=>by rw [hf]; exact m
 have o':Das G (upd H a' ob'.ho) (Lf C (fpu fp i [a']) (exu ex [])) ys ds':=by
  have f0:∀ a,¬ Foot fp a→¬ Foot (fpu fp i [a']) a:=fun a h z=>by
   rcases z.of_u with z | ⟨j,_,z⟩
   ·exact h ⟨i,sub a z⟩
   ·exact h ⟨j,z⟩
  refine o.frame (fun a zs l q=>⟨⟨f0 a l.1,fun z=>l.2.1 (Zae.mp z),l.2.2⟩,?_⟩) fun a zs q=>kp a _ q fun z=>ImO.nm q (z ▸ hx)
  rcases q with q | ⟨u,q⟩
  ·exact .inl (kp a _ q (ne' a l.1))
  ·exact .inr ⟨u,kp a _ q (ne' a l.1)⟩
 have key:=R.change (new:=[]) (as':=[a']) (t':=.dc t ks' ds') (H':=upd H a' ob'.ho) hi hv (fun b o e nb=>kp b o e fun z=>nb (by rw [z]; exact hm)) (fun b e=>by
   by_cases q:b = a'
   ·subst q; rw [Zm] at e; cases e
   ·rwa [Zj q] at e) (.dc Zm dk o') (Zdv a') (fun a m=>.inl (sub a m)) (fun a m=>nomatch m)
 exact ⟨key.1.drop fun a z=>.inl z,key.2⟩
noncomputable def Zzx (i:Nat) (m mi:MEt):MSt:=fun D δ=>m δ fun r δ1=>match δ1[i]? with
 | some (some (.dc t ks ds))=>mi δ1 fun n _=>match Zhl n.data with
  | some k=>(Zmn k = t∧ks.length < sizeLine)∧D.nx (δ1.set i (some (.dc t (Zp5 k ks) (Zml k r.data ks ds))))
  | none=>False
 | _=>False
theorem Zv9 (i:Nat) (hu:X.A.units + 64 < cLine) (he:ME X io p true e m) (hj:ME X io true c a mi) (hN:X.N[i]? = some x:=by rfl) (hv:Vis X.env.scope x:=by first | exact Or.inl rfl | exact Or.inr (Or.inl rfl) | exact Or.inr (Or.inr rfl)) (hd:(x == ("__debug__" : Str)) = false:=by decide)
  (hcd:(x == ("__classdict__" : Str)) = false:=by decide)
  (hs:swapsWith e (some (.Subscript (.Name x px) a pp)) pos.line X.env = pure false:=by rfl):MS X io (.Assign [.Subscript (.Name x px) a pp] e pos) (Zzx i m mi):=by
 obtain ⟨_,A,s⟩:=he
 obtain ⟨_,B,sj⟩:=hj
 refine ⟨_,Zux (hu1 hu) (pv i hN hv hd hcd) B A hs,fun C H σ δ fp ex D D' R h E=>?_⟩
 refine s C H σ δ fp ex _ _ R h fun H1 v r δ1 fp1 new r1 h1=>?_
 have R1:=r1.base
 have q:=(r1.da R).wide (L':=Lf C fp1 ex) fun a l _=>l rfl
 split at h1
 case h_2=>exact h1.elim
 rename_i t ks ds hi
 obtain ⟨a',_,_,hv0,_⟩:=R1.ownDc hi
 refine ⟨_,hv0,?_⟩
 refine sj.pureAfter R1 h1 fun H2 w n R2 s2 q2 h2=>?_
 split at h2
 case h_2=>exact h2.elim
 rename_i k hk
 obtain ⟨⟨ht,hl⟩,h2⟩:=h2
 obtain ⟨a2,ob,xs,hv2,hx,dk,o,hf⟩:=R2.ownDc hi
 rw [hv0] at hv2
 cases hv2
 have q':=q.same s2
 have kpp:Kp H1 fp1 H2 fp1:=⟨fun b o e _=>s2 _ _ e,fun z=>(nomatch z),fun a z=>.inl z,s2.al⟩
 cases ob with
 | lst _=>exact dk.elim
 | dK kv =>
  obtain ⟨rfl,rfl,rfl⟩:=dk
  rw [List.length_map] at hl
  cases k with
  | inr _=>cases ht
  | inl k =>
   obtain ⟨R3,S3⟩:=R2.topD (ob':=.dK (putK kv k v)) hi hv0 hf hx ⟨rfl,(Zkx Zjm k v kv).symm,rfl⟩ (Zkr Zjm k q' kv o)
   exact ⟨a',_,rfl,.inl ⟨kv,k,hx,q2.keyS hk,hl,rfl⟩,E.nx _ σ _ _ R3 (r1.stp.kp.trans (Kp.trans kpp S3.kp)) h2⟩
 | dT kv =>
  obtain ⟨rfl,rfl,rfl⟩:=dk
  rw [List.length_map] at hl
  cases k with
  | inl _=>cases ht
  | inr k =>
   obtain ⟨b',hb,eb⟩:=q2.keyT hk
   obtain ⟨R3,S3⟩:=R2.topD (ob':=.dT (putK kv k v)) hi hv0 hf hx ⟨rfl,(Zkx Zi3 k v kv).symm,rfl⟩ (Zkr Zi3 k q' kv o)
   exact ⟨a',_,rfl,.inr ⟨kv,k,b',hx,hb,eb,hl,rfl⟩,E.nx _ σ _ _ R3 (r1.stp.kp.trans (Kp.trans kpp S3.kp)) h2⟩
noncomputable def Zir (i:Nat) (e j:FE):FS:=wE e fun r δ1=>match δ1[i]? with
 | some (some (.dc t ks ds))=>wE j (fun n _=>match Zhl n.data with
  | some k=>if Zmn k = t∧ks.length < sizeLine then .nx (δ1.set i (some (.dc t (Zp5 k ks) (Zml k r.data ks ds)))) else .bad
  | none=>.bad) δ1
 | _=>.bad
theorem Zwp {fa fb:FE} {st:Stmt} (h:MS X io st (Zzx i (o2 fa) (o2 fb))):MS X io st (oS (Zir i fa fb)):=h.weak fun D δ h=>by
 refine (Zkm h).imp fun r δ' z=>?_
 split at z
 case h_2=>exact z.elim
 rename_i q; (try rw [q])
 refine (Zkm z).imp fun n δ2 z=>?_
 split at z
 case h_2=>exact z.elim
 rename_i k q2; (try rw [q2])
 exact J7 z
end
end L2
namespace L2
open PySem PySem.Spec PyProof.Rows
variable {G:PySem.W.Frag}
noncomputable def Zg7:PyData→PyData→Option PyData:=fun d e=>match d,e with | .str x,.str y=>if x.length + y.length ≤ sizeLine then some (.str (x ++ y)) else none | _,_=>none
noncomputable def Zzd:PyData→PyData→(PyData→Prop)→Prop:=fun d e k=>∃ r,Zg7 d e = some r∧k r
theorem Zsv:ByS Zg7 Zzd:=fun _ _ r _ h hk=>⟨r,h,hk⟩
theorem Zmy:P2s G (fun x y H Q=>∃ i j,x = .str i∧y = .str j∧i.length + j.length ≤ sizeLine∧Q (.str (i ++ j)) H) Zzd:=fun H L x y d e k Q hx hy h kk=>by
 obtain ⟨r,h,hk⟩:=h
 unfold Zg7 at h
 split at h
 case h_2=>cases h
 rename_i i j
 cases hx
 cases hy
 by_cases c:i.length + j.length ≤ sizeLine
 ·rw [if_pos c] at h
  cases h
  exact ⟨i,j,rfl,rfl,c,kk _ _ (.str _) hk⟩
 ·rw [if_neg c] at h; cases h
noncomputable def Ziy:PyData→PyData→Option OT:=fun d e=>match d,e with | .str x,.int i=>if x.length ≤ sizeLine then (atI x.cps.toList i).map fun c=>.fz (.str ⟨#[c]⟩) else none | _,_=>none
noncomputable def Z8o:PyData→PyData→(OT→Prop)→Prop:=fun d e k=>∃ r,Ziy d e = some r∧k r
theorem Zoq:ByO Ziy Z8o:=fun _ _ r _ h hk=>⟨r,h,hk⟩
theorem Zid:P2 G (rIx G) Z8o:=fun H L x y d e k Q hx hy h kk=>by
 obtain ⟨r,h,hk⟩:=h
 unfold Ziy at h
 split at h
 case h_2=>cases h
 rename_i z i
 cases hx
 cases hy
 by_cases c:z.length ≤ sizeLine
 ·rw [if_pos c] at h
  obtain ⟨ch,h1,rfl⟩:=Option.map_eq_some_iff.mp h
  exact .inr (.inr ⟨z,i,ch,rfl,rfl,c,h1,kk H _ (.fz (.str ⟨#[ch]⟩)) [] (Same.refl _) (.fz (.str _)) .nil (fun a m=>nomatch m) hk⟩)
 ·rw [if_neg c] at h; cases h
end L2
namespace L2
open PySem PySem.Spec PyProof.Rows PySem.W PySem.SeqAt
variable {G:PySem.W.Frag}
section
variable {prog:Program} {w:World} {A:Around} {E:Value→Shared→Prop} {s:Shared}
end
theorem Paired.at {α β:Type} {R:α→β→Prop} {as:List α} {bs:List β} (h:PySem.Paired R as bs):∀ {i:Nat} {y:β},bs[i]? = some y→∃ x,as[i]? = some x∧R x y:=by
 induction h with
 | nil=>intro i y z; cases z
 | cons h t ih =>
  intro i y z
  cases i with
  | zero=>cases z; exact ⟨_,rfl,h⟩
  | succ i=>exact ih z
end L2
namespace L2
open PySem PySem.Spec PyProof.Rows
variable {G:PySem.W.Frag}
noncomputable def Zh6 {α:Type} (xs:List α) (k:Nat) (y:α):List α:=xs.take k ++ y :: xs.drop k
noncomputable def Zw6:V→List V→Hp→VK→Prop:=fun x vs H Q=>∃ (l:Addr) (xs:List V) (i:Int) (y:V),x = .ref l∧vs = [.int i,y]∧H l = some (.lst xs)∧0 ≤ i∧i ≤ xs.length∧xs.length < sizeLine∧Q .non (upd H l (.lst (Zh6 xs i.toNat y)))
theorem Zn7 {X:Cx}:MtM X "list.insert" Zw6:=by
 intro pins s σ H x vs v us Q I rx rv h
 obtain ⟨l,xs,i,y,rfl,rfl,hH,h0,h1,hz,q⟩:=h
 cases rx
 obtain ⟨a,b,rfl,ra,rb⟩:=vals2 rv
 obtain ⟨t,rfl⟩:=(show ∃ t,a = Value.int i t from ra)
 obtain ⟨z,its,n,r,hl,e⟩:=I.lstM hH
 have hs:sizeLine = 16777216:=sizeLine_eq
 have fi:¬ (!Builtin.List.listFitsIndex i) = true:=by
  have:Builtin.List.listFitsIndex i = true:=fitsIndex_both (by omega) (by omega)
  rw [this]; exact Bool.false_ne_true
 refine call_meets F.slot_list_insert ⟨_,e,rfl⟩ F.entry_list_insert (F.args_list_insert_3 _ _ _) (AutoListH.list_insert_list_int_val_1 l its.toArray n i t b fi (by rw [List.size_toArray]; omega)) ⟨e,?_⟩
 refine ⟨.non,_,I.lset (its':=Zh6 its i.toNat b) hH e ?_ ((r.take i.toNat).append (.cons rb (r.drop i.toNat))) ?_,rfl,q⟩
 ·have k:(if i < 0 then (i + (its.toArray.size:Int)).toNat else min i.toNat its.toArray.size) = i.toNat:=by
   rw [if_neg (by omega),List.size_toArray]; omega
  show ((its.toArray.extract 0 (if i < 0 then (i + (its.toArray.size:Int)).toNat else min i.toNat its.toArray.size)).push b ++ its.toArray.extract (if i < 0 then (i + (its.toArray.size:Int)).toNat else min i.toNat its.toArray.size)) = (Zh6 its i.toNat b).toArray
  rw [k]
  apply Array.toList_inj.mp
  unfold Zh6
  simp [Array.toList_extract]
  exact List.take_of_length_le (by rw [List.length_drop]; exact Nat.le_refl _)
 ·rw [List.length_append,List.length_cons,List.length_take,List.length_drop]; omega
theorem Owns.ins {H:Hp} {L:Addr→Prop} {x:V} {r:OT} (hr:Own G H L x r []):∀ (k:Nat) {xs:List V} {ts:List OT} {as:List Addr},Owns G H L xs ts as→Owns G H L (Zh6 xs k x) (Zh6 ts k r) as
 | 0,_,_,_,h=>.cons hr h
 | k + 1,_,_,_,.nil=>.cons hr .nil
 | k + 1,_,_,_,.cons h t=>.cons h (Owns.ins hr k t)
section
variable {X:Cx} {io:List Nat} {p c:Bool} {e f:Expr} {mr:MAt} {pos apos cpos px:Pos} {x:Str} {st:Stmt} {ra:FA}
noncomputable def Zgo (i:Nat) (mr:MAt):MSt:=fun D δ=>match δ[i]? with
 | some (some (.nd _))=>mr δ fun rs δ1=>match OT.datas rs,δ1[i]? with
  | [.int k,d],some (some (.nd ts))=>(0 ≤ k∧k ≤ ts.length∧ts.length < sizeLine)∧D.nx (δ1.set i (some (.nd (Zh6 ts k.toNat (.fz d)))))
  | _,_=>False
 | _=>False
theorem Zmz (i:Nat) (ha:MA X io p true [e,f] mr) (hN:X.N[i]? = some x:=by rfl) (hv:Vis X.env.scope x:=by first | exact Or.inl rfl | exact Or.inr (Or.inl rfl) | exact Or.inr (Or.inr rfl)) (hd:(x == ("__debug__" : Str)) = false:=by decide)
  (hcd:(x == ("__classdict__" : Str)) = false:=by decide)
  (hbase:attributeBase (.Name x px) "insert" X.env (eval (.Name x px) X.env) = eval (.Name x px) X.env:=by rfl)
  (hfew:((backTo cpos (starEach [e,f] X.env)).all (fun x=>!x.1) && (backToKw cpos (keywordEach [] X.env)).all (fun x=>x.1.isSome)
   && decide ([e,f].length + ([]:List Keyword).length + (if ([]:List Keyword).isEmpty then 0 else 1) < 30)) = true:=by rfl)
  (hline:(apos.endLine == cpos.line) = true:=by rfl) (hs:starEach [e,f] X.env = (false,eval e X.env) :: starEach [f] X.env:=by rfl) (hplain:(backTo cpos (starEach [f] X.env)).any (·.1) = false:=by rfl)
  (hsw:swapsWith (.Call (.Attribute (.Name x px) "insert" apos) [e,f] [] cpos) none pos.line X.env = pure false:=by rfl) :
  MS X io (.Expr (.Call (.Attribute (.Name x px) "insert" apos) [e,f] [] cpos) pos) (Zgo i mr):=by
 obtain ⟨_,A,s⟩:=ha
 refine ⟨_,Zc3 (Zmb PySem.F.plainAttrs_list PySem.F.slot_list_insert PySem.F.type_list_insert Zn7 (pv i hN hv hd hcd) A hbase hfew hline hs hplain) hsw,fun C H σ δ fp ex D D' R h E=>?_⟩
 unfold Zgo at h
 split at h
 case h_2=>exact h.elim
 rename_i ts0 hi0
 obtain ⟨a',xs0,bs0,hv0,hx0,_,_⟩:=R.ownNd hi0
 refine ⟨_,hv0,.inl ⟨rfl,xs0,.inl (.inl hx0)⟩,?_⟩
 refine s C H σ δ fp ex _ _ R h fun H1 vs rs δ1 fp1 new r1 h1=>?_
 have q0:=r1.das R
 split at h1
 case h_2=>exact h1.elim
 rename_i k d ts1 ed hi1
 have R1:=r1.base
 obtain ⟨a1,xs1,bs1,hv1,hx1,o1,hf1⟩:=R1.ownNd hi1
 rw [hv0] at hv1
 cases hv1
 rw [ed] at q0
 cases q0 with
 | cons qk q0 =>
  cases q0 with
  | cons qd q0 =>
   cases q0
   cases qk
   have q:=qd.wide (L':=Lf C fp1 ex) fun a l _=>l rfl
   obtain ⟨⟨k0,k1,k2⟩,h1⟩:=h1
   rw [← o1.length] at k1 k2
   refine ⟨a',xs1,k,_,rfl,rfl,hx1,k0,k1,k2,?_⟩
   obtain ⟨R2,S2⟩:=R1.top hi1 hv0 hf1 hx1 (Owns.ins (.fz q) k.toNat o1) (List.Sublist.refl _)
   exact E.nx _ σ _ _ R2 (r1.stp.kp.trans S2.kp) h1
noncomputable def Zde (i:Nat) (as:FA):FS:=fun δ=>match δ[i]? with
 | some (some (.nd _))=>match as δ with
  | some (rs,δ1)=>match OT.datas rs,δ1[i]? with
   | [.int k,d],some (some (.nd ts))=>if 0 ≤ k∧k ≤ ts.length∧ts.length < sizeLine then .nx (δ1.set i (some (.nd (Zh6 ts k.toNat (.fz d))))) else .bad
   | _,_=>.bad
  | none=>.bad
 | _=>.bad
theorem Zpu {i:Nat} (h:MS X io st (Zgo i (o2 ra))):MS X io st (oS (Zde i ra)):=h.weak fun D δ h=>by
 unfold oS Zde at h; unfold Zgo
 split at h
 case h_2=>exact h.elim
 rename_i q; (try rw [q])
 split at h
 case h_2=>exact h.elim
 rename_i rs δ1 er
 refine ⟨rs,δ1,er,?_⟩
 split at h
 case h_2=>exact h.elim
 rename_i k d ts ed hi1
 rw [ed,hi1]
 exact J7 h
end
end L2
namespace L2
open PySem PySem.Spec PyProof.Rows PySem.W PySem.SeqAt
end L2
namespace L2
open PySem PySem.Spec PyProof.Rows
variable {G:PySem.W.Frag}
end L2
namespace L2
open PySem PySem.Spec PyProof.Rows
noncomputable def Z7l (o:Option (Option OT)) (δ:Zc):Option (OT × Zc):=match o with | some (some (.fz d))=>some (.fz d,δ) | _=>none
theorem Zwm (d:PyData) (δ:Zc):Z7l (some (some (.fz d))) δ = some (.fz d,δ):=rfl
noncomputable def Z0n (o:Option (Option OT)) (δ:Zc):Option (OT × Zc):=match o with | some (some t)=>some (.fz t.data,δ) | _=>none
theorem Zwf (t:OT) (δ:Zc):Z0n (some (some t)) δ = some (.fz t.data,δ):=rfl
theorem Zxp (i:Nat) (δ:Zc):Zd i δ = Z7l δ[i]? δ:=rfl
theorem Zvz (i:Nat) (δ:Zc):J5 i δ = Z0n δ[i]? δ:=rfl
theorem Yah (d:PyData) (δ:Zc):fC d δ = some (.fz d,δ):=rfl
theorem Zrj (g:PyData→PyData→Option PyData) (a b:FE) (δ:Zc):Zb g a b δ = (a δ).bind fun p=>(b p.2).bind fun q=>(g p.1.data q.1.data).bind fun d=>some (.fz d,q.2):=rfl
theorem Zt7 (g:PyData→PyData→Option OT) (a b:FE) (δ:Zc):Yx g a b δ = (a δ).bind fun p=>(b p.2).bind fun q=>(g p.1.data q.1.data).bind fun d=>some (d,q.2):=rfl
theorem Zyb (g:PyData→Option PyData) (a:FE) (δ:Zc):fUn g a δ = (a δ).bind fun p=>(g p.1.data).bind fun d=>some (.fz d,p.2):=rfl
noncomputable def onB {α:Type} (d:PyData) (x y:Option α):Option α:=match d with | .bool true=>x | .bool false=>y | _=>none
theorem Z4x {α:Type} (x y:Option α):onB (.bool true) x y = x:=rfl
theorem Z9s {α:Type} (x y:Option α):onB (.bool false) x y = y:=rfl
theorem Zub (a b:FE) (δ:Zc):Zsi a b δ = (a δ).bind fun p=>onB p.1.data (b p.2) (some (.fz (.bool false),p.2)):=by
 unfold Zsi onB
 cases a δ with
 | none=>rfl
 | some p=>first | rfl | (simp only [Option.bind_some]; done) | (simp only [Option.bind_some]; generalize p.1.data = d; cases d <;> first | rfl | (rename_i b; cases b <;> rfl))
theorem Z7b (a b:FE) (δ:Zc):fOr a b δ = (a δ).bind fun p=>onB p.1.data (some (.fz (.bool true),p.2)) (b p.2):=by
 unfold fOr onB
 cases a δ with
 | none=>rfl
 | some p=>first | rfl | (simp only [Option.bind_some]; done) | (simp only [Option.bind_some]; generalize p.1.data = d; cases d <;> first | rfl | (rename_i b; cases b <;> rfl))
theorem Z68 (t:FT) (a b:FE) (δ:Zc):fIf t a b δ = (t δ).bind fun p=>if p.1 = true then a p.2 else b p.2:=rfl
noncomputable def Z4n (t:OT) (δ:Zc):Option (Bool × Zc):=match t with | .fz (.bool b)=>some (b,δ) | _=>none
theorem Zz0 (b:Bool) (δ:Zc):Z4n (.fz (.bool b)) δ = some (b,δ):=rfl
theorem Z58 (e:FE) (δ:Zc):tV e δ = (e δ).bind fun p=>Z4n p.1 p.2:=by
 unfold tV Z4n
 cases e δ with
 | none=>rfl
 | some p=>rfl
theorem Zzk (t:FT) (δ:Zc):tNo t δ = (t δ).bind fun p=>some (!p.1,p.2):=rfl
theorem Z7a (t u:FT) (δ:Zc):tAn t u δ = (t δ).bind fun p=>if p.1 = true then u p.2 else some (false,p.2):=rfl
theorem Z4c (t u:FT) (δ:Zc):tO t u δ = (t δ).bind fun p=>if p.1 = true then some (true,p.2) else u p.2:=rfl
theorem Z5f (e:FE) (δ:Zc):tD e δ = (e δ).bind fun p=>(Zqg p.1.data).bind fun b=>some (b,p.2):=rfl
theorem Z5e (δ:Zc):Zk9 δ = some (true,δ):=rfl
theorem Z55 (δ:Zc):Zn δ = some ([],δ):=rfl
theorem Zkh (e:FE) (a:FA) (δ:Zc):Ze e a δ = (e δ).bind fun p=>(a p.2).bind fun q=>some (p.1 :: q.1,q.2):=rfl
theorem Zt6 (a:FA) (δ:Zc):Zi0 a δ = (a δ).bind fun p=>if p.1.length ≤ sizeLine then some (.fz (.tuple (OT.datas p.1)),p.2) else none:=rfl
theorem Zji (a:FA) (δ:Zc):Zd0 a δ = (a δ).bind fun p=>if p.1.length ≤ sizeLine then some (.nd p.1,p.2) else none:=rfl
theorem Z3f (a:FA) (δ:Zc):Z6n a δ = (a δ).bind fun p=>if p.1.length ≤ sizeLine then some (.tp p.1,p.2) else none:=rfl
theorem Z3g (e:FE) (δ:Zc):Z6k e δ = (e δ).bind fun p=>if Jp p.1.data = true then some (.fz p.1.data,p.2) else none:=rfl
theorem Z0o (e:FE) (δ:Zc):Zyz e δ = (e δ).bind fun p=>if Zwh p.1 = true then some (p.1,p.2) else none:=rfl
noncomputable def okO (x:RF) (δ:Zc):Option (OT × Zc):=match x with | .ok r=>some (r,δ) | _=>none
theorem Z0q (r:OT) (δ:Zc):okO (.ok r) δ = some (r,δ):=rfl
theorem Zre (F:FD) (a:FA) (δ:Zc):Yh F a δ = (a δ).bind fun p=>okO (F (OT.datas p.1)) p.2:=by
 unfold Yh okO
 cases a δ with
 | none=>rfl
 | some p=>rfl
noncomputable def atO {α:Type} (o:Option (Option OT)) (k:OT→Option α):Option α:=match o with | some (some t)=>k t | _=>none
theorem Z9f {α:Type} (t:OT) (k:OT→Option α):atO (some (some t)) k = k t:=rfl
theorem Zy0 (i:Nat) (F:FIO) (a:FA) (δ:Zc):Ztj i F a δ = atO δ[i]? fun _=>(a δ).bind fun p=>atO p.2[i]? fun t=>(F t (OT.datas p.1)).bind fun q=>some (q.1,p.2.set i (some q.2)):=by
 unfold Ztj
 generalize δ[i]? = o
 rcases o with _ | _ | t
 ·rfl
 ·rfl
 ·show (a δ).bind _ = (a δ).bind _
  cases a δ with
  | none=>rfl
  | some p =>
   show (fun o:Option (Option OT)=>(match o with | some (some t)=>(F t (OT.datas p.1)).bind fun q=>some (q.1,p.2.set i (some q.2)) | _=>none)) p.2[i]? = atO p.2[i]? _
   generalize p.2[i]? = o
   rcases o with _ | _ | t <;> rfl
theorem Zvg (g:List PyData→Option PyData) (a:FA) (δ:Zc):Zas g a δ = (a δ).bind fun p=>(g (OT.datas p.1)).bind fun d=>some (.fz d,p.2):=rfl
theorem Zx8 (g:List PyData→Option OT) (a:FA) (δ:Zc):fBl g a δ = (a δ).bind fun p=>(g (OT.datas p.1)).bind fun d=>some (d,p.2):=rfl
theorem Zu3 (T:String) (e:FE) (δ:Zc):Zpz T e δ = (e δ).bind fun p=>if Zfe p.1.data = true then none else some (.fz (.bool (Zme T p.1.data)),p.2):=rfl
theorem Yaa (δ:Zc):oN δ = some (none,δ):=rfl
noncomputable def asInt {α:Type} (d:PyData) (k:Int→Option α):Option α:=match d with | .int i=>k i | _=>none
theorem Zw0 {α:Type} (i:Int) (k:Int→Option α):asInt (.int i) k = k i:=rfl
noncomputable def Znc {α:Type} (d:PyData) (k:List PyData→Option α):Option α:=match d with | .list i=>k i | _=>none
theorem Zpq {α:Type} (i:List PyData) (k:List PyData→Option α):Znc (.list i) k = k i:=rfl
noncomputable def Zxf {α:Type} (d:PyData) (k:List PyData→Option α):Option α:=match d with | .tuple i=>k i | _=>none
theorem Z4w {α:Type} (i:List PyData) (k:List PyData→Option α):Zxf (.tuple i) k = k i:=rfl
theorem Z37 (e:FE) (δ:Zc):oI e δ = (e δ).bind fun p=>asInt p.1.data fun i=>some (some i,p.2):=by
 unfold oI asInt
 cases e δ with
 | none=>rfl
 | some p=>rfl
theorem Zze (e:FE) (lo hi:FO) (δ:Zc):fSl e lo hi δ = (e δ).bind fun p=>(lo p.2).bind fun q=>(hi q.2).bind fun r=>Znc p.1.data fun ds=>some (.nd ((cutD ds q.1 r.1).map OT.fz),r.2):=by
 unfold fSl Znc; rfl
theorem Zw7 (e:FE) (δ:Zc):Zbw e δ = (e δ).bind fun p=>Znc p.1.data fun ds=>some (ds,p.2):=by
 unfold Zbw Znc; rfl
theorem Z8p (e:FE) (δ:Zc):iTp e δ = (e δ).bind fun p=>Zxf p.1.data fun ds=>some (ds,p.2):=by
 unfold iTp Zxf; rfl
noncomputable def as1 {α:Type} (ds:List PyData) (k:Int→Option α):Option α:=match ds with | [.int i]=>k i | _=>none
theorem Z5h {α:Type} (i:Int) (k:Int→Option α):as1 [.int i] k = k i:=rfl
noncomputable def as2 {α:Type} (ds:List PyData) (k:Int→Int→Option α):Option α:=match ds with | [.int i,.int j]=>k i j | _=>none
theorem Z5i {α:Type} (i j:Int) (k:Int→Int→Option α):as2 [.int i,.int j] k = k i j:=rfl
theorem Zyf (a:FA) (δ:Zc):iRa a δ = (a δ).bind fun p=>as1 (OT.datas p.1) fun j=>if rOk j = true then some (Zcw 0 j.toNat,p.2) else none:=by
 unfold iRa as1; rfl
theorem Zzi (a:FA) (δ:Zc):iRb a δ = (a δ).bind fun p=>as2 (OT.datas p.1) fun i j=>if (rOk i && rOk j) = true then some (Zcw i (j - i).toNat,p.2) else none:=by
 unfold iRb as2; rfl
theorem Z6i (a:FA) (δ:Zc):Z8z a δ = (a δ).bind fun p=>as1 (OT.datas p.1) fun j=>if rOk j = true∧j.toNat ≤ sizeLine then some (.nd ((Zcw 0 j.toNat).map OT.fz),p.2) else none:=by
 unfold Z8z as1; rfl
theorem Z6c (a b:FE) (δ:Zc):Z8g a b δ = (a δ).bind fun p=>(b p.2).bind fun q=>asInt q.1.data fun k=>if rOk k = true∧k.toNat ≤ sizeLine then some (.nd (List.replicate k.toNat (.fz p.1.data)),p.2) else none:=by
 unfold Z8g asInt; rfl
noncomputable def Z54 {α:Type} (ds:List PyData) (k:List PyData→List PyData→Option α):Option α:=match ds with | [.list i,.list j]=>k i j | _=>none
theorem Z8r {α:Type} (i j:List PyData) (k:List PyData→List PyData→Option α):Z54 [.list i,.list j] k = k i j:=rfl
theorem Z3j (a:FA) (δ:Zc):Zzz a δ = (a δ).bind fun p=>Z54 (OT.datas p.1) fun as bs=>some (Zi8 as bs,p.2):=by
 unfold Zzz Z54; rfl
theorem Z6z (i:Nat) (d:PyData) (δ:Zc):gNm i d δ = some (δ.set i (some (.fz d))):=rfl
theorem Zxg (i:Nat) (d:PyData) (δ:Zc):Z12 i d δ = if Jp d = true then some (δ.set i (some (.fz d))) else none:=rfl
theorem Z7o (δ:Zc):gNl [] δ = some δ:=rfl
theorem Z7h (g:FG) (gs:FGs) (d:PyData) (r:List PyData) (δ:Zc):gCn g gs (d :: r) δ = (g d δ).bind (gs r):=rfl
theorem Z6u (n:Nat) (gs:FGs) (ds:List PyData) (δ:Zc):gTp n gs (.tuple ds) δ = if ds.length = n then gs ds δ else none:=rfl
theorem Z65 (n:Nat) (gs:FGs) (ds:List PyData) (δ:Zc):gLs n gs (.list ds) δ = if ds.length = n then gs ds δ else none:=rfl
noncomputable def RS.thn (r:RS) (g:FS):RS:=match r with | .nx δ=>g δ | r=>r
theorem Zy3 (δ:Zc) (g:FS):(RS.nx δ).thn g = g δ:=rfl
theorem Zz4 (r:OT) (δ:Zc) (g:FS):(RS.rt r δ).thn g = .rt r δ:=rfl
theorem Z73 (δ:Zc) (g:FS):(RS.bk δ).thn g = .bk δ:=rfl
theorem Z7f (δ:Zc) (g:FS):(RS.ct δ).thn g = .ct δ:=rfl
theorem Zyc (c:Str) (δ:Zc) (g:FS):(RS.ex c δ).thn g = .ex c δ:=rfl
theorem Zju (f g:FS) (δ:Zc):Zz f g δ = (f δ).thn g:=rfl
theorem Z69 (δ:Zc):fNx δ = .nx δ:=rfl
theorem Z5g (δ:Zc):Z9i δ = .bk δ:=rfl
theorem Z6m (δ:Zc):Z9p δ = .ct δ:=rfl
theorem Z2b (c:Str) (δ:Zc):Za0 c δ = .ex c δ:=rfl
theorem Z28 (δ:Zc):Z6g δ = .rt (.fz .none) δ:=rfl
noncomputable def onO {α:Type} (o:Option (α × Zc)) (k:α→Zc→RS):RS:=match o with | some (r,δ')=>k r δ' | none=>.bad
theorem Z5 {α:Type} (r:α) (δ:Zc) (k:α→Zc→RS):onO (some (r,δ)) k = k r δ:=rfl
theorem Zb5 (e:FE) (k:OT→Zc→RS) (δ:Zc):wE e k δ = onO (e δ) k:=by
 unfold wE onO
 cases e δ <;> rfl
noncomputable def onF (x:RF) (δ:Zc) (k:OT→Zc→RS):RS:=match x with | .ok r=>k r δ | .exn c=>.ex c δ | .bad=>.bad
theorem Ztb (r:OT) (δ:Zc) (k:OT→Zc→RS):onF (.ok r) δ k = k r δ:=rfl
theorem Zyu (c:Str) (δ:Zc) (k:OT→Zc→RS):onF (.exn c) δ k = .ex c δ:=rfl
theorem Zw1 (F:FD) (a:FA) (k:OT→Zc→RS) (δ:Zc):wX F a k δ = onO (a δ) fun rs δ1=>onF (F (OT.datas rs)) δ1 k:=by
 unfold wX onO onF
 cases a δ with
 | none=>rfl
 | some p=>rfl
theorem Zn2 (t:FT) (u w:FS) (δ:Zc):W0 t u w δ = onO (t δ) fun b δ'=>if b = true then u δ' else w δ':=by
 unfold W0 onO
 cases t δ <;> rfl
theorem Zxe (it:FI) (g:FG) (u:FS) (δ:Zc):Zaf it g u δ = onO (it δ) fun ds δ1=>forLoop g u ds δ1:=by
 unfold Zaf onO
 cases it δ <;> rfl
theorem Z3o (r:OT) (δ:Zc):Zi6 r δ = .nx δ:=rfl
theorem Zv0 (r:OT) (δ:Zc):Za1 r δ = .rt r δ:=rfl
theorem Z25 (r:OT) (δ:Zc):Z6j r δ = if Jp r.data = true then .rt (.fz r.data) δ else .bad:=rfl
theorem Zvo (i:Nat) (r:OT) (δ:Zc):Jh i r δ = .nx (δ.set i (some (.fz r.data))):=rfl
theorem Zqo (i:Nat) (r:OT) (δ:Zc):Zlj i r δ = if Jp r.data = true then .nx (δ.set i (some (.fz r.data))) else .bad:=rfl
theorem Zkz (i:Nat) (r:OT) (δ:Zc):Jf i r δ = .nx (δ.set i (some r)):=rfl
noncomputable def onD (o:Option Zc):RS:=match o with | some δ=>.nx δ | none=>.bad
theorem Z3h (δ:Zc):onD (some δ) = .nx δ:=rfl
theorem Z6e (g:FG) (r:OT) (δ:Zc):Z85 g r δ = onD (g r.data δ):=rfl
noncomputable def onT (o:Option (Option OT)) (k:OT→RS):RS:=match o with | some (some t)=>k t | _=>.bad
theorem Zzo (t:OT) (k:OT→RS):onT (some (some t)) k = k t:=rfl
theorem Zr6 (i:Nat) (δ:Zc):Zb8 i δ = onT δ[i]? fun t=>.rt t (δ.set i none):=rfl
theorem Zlt (i:Nat) (u:FS) (δ:Zc):Zaq i u δ = onT δ[i]? fun t=>u (δ.set i (some (.fz t.data))):=rfl
noncomputable def onN (o:Option (Option OT)) (k:List OT→RS):RS:=match o with | some (some (.nd ts))=>k ts | _=>.bad
theorem Z10 (t:List OT) (k:List OT→RS):onN (some (some (.nd t))) k = k t:=rfl
theorem Zlz (i:Nat) (e:FE) (δ:Zc):Yi i e δ = onN δ[i]? fun _=>onO (e δ) fun r δ1=>onN δ1[i]? fun ts=>if ts.length < sizeLine then .nx (δ1.set i (some (.nd (ts ++ [.fz r.data])))) else .bad:=by
 unfold Yi
 generalize δ[i]? = o
 rcases o with _ | _ | (_ | _ | _ | _)
 ·rfl
 ·rfl
 ·rfl
 ·show wE e _ δ = onO (e δ) _
  rw [Zb5]
  congr 1
 ·rfl
 ·rfl
theorem Zuo (i:Nat) (e:FE) (δ:Zc):Zko i e δ = onN δ[i]? fun _=>onO (e δ) fun r δ1=>onN δ1[i]? fun ts=>if ts.length < sizeLine then .nx (δ1.set i (some (.nd (ts ++ [r])))) else .bad:=by
 unfold Zko
 generalize δ[i]? = o
 rcases o with _ | _ | (_ | _ | _ | _)
 ·rfl
 ·rfl
 ·rfl
 ·show wE e _ δ = onO (e δ) _
  rw [Zb5]
  congr 1
 ·rfl
 ·rfl
noncomputable def onI (d:PyData) (k:Int→RS):RS:=match d with | .int i=>k i | _=>.bad
theorem Z9w (i:Int) (k:Int→RS):onI (.int i) k = k i:=rfl
noncomputable def onX (o:Option Nat) (k:Nat→RS):RS:=match o with | some i=>k i | _=>.bad
theorem Z9g (i:Nat) (k:Nat→RS):onX (some i) k = k i:=rfl
theorem Z4i (i:Nat) (e j:FE) (δ:Zc):Z7e i e j δ = onO (e δ) fun r δ1=>onN δ1[i]? fun ts=>onO (j δ1) fun n _=>onI n.data fun k=>onX (ixN ts.length k) fun j=>.nx (δ1.set i (some (.nd (ts.set j (.fz r.data))))):=by
 unfold Z7e
 rw [Zb5]
 congr 1
 funext r δ1
 generalize δ1[i]? = o
 rcases o with _ | _ | (_ | _ | _ | _)
 ·rfl
 ·rfl
 ·rfl
 ·show wE j _ δ1 = onO (j δ1) _
  rw [Zb5]
  congr 1
  funext n δ2
  generalize n.data = d
  cases d <;> try rfl
  show (match ixN _ _ with | some j=>_ | none=>_) = onX (ixN _ _) _
  generalize ixN _ _ = x
  cases x <;> rfl
 ·rfl
 ·rfl
noncomputable def onU (o:Option OT) (k:List OT→RS):RS:=match o with | some (.nd ts)=>k ts | _=>.bad
theorem Z59 (t:List OT) (k:List OT→RS):onU (some (.nd t)) k = k t:=rfl
noncomputable def onP (o:Option (Option OT)) (k:List OT→RS):RS:=match o with | some (some (.tp ts))=>k ts | _=>.bad
theorem Z4e (t:List OT) (k:List OT→RS):onP (some (some (.tp t))) k = k t:=rfl
theorem Zot (i c:Nat) (e:FE) (δ:Zc):Zdt i c e δ = onP δ[i]? fun ts=>onU ts[c]? fun us=>onO (e δ) fun r _=>if us.length < sizeLine then .nx (δ.set i (some (.tp (ts.set c (.nd (us ++ [.fz r.data])))))) else .bad:=by
 unfold Zdt
 generalize δ[i]? = o
 rcases o with _ | _ | (_ | _ | ts | _)
 ·rfl
 ·rfl
 ·rfl
 ·rfl
 ·show (match ts[c]? with | some (.nd us)=>wE e _ δ | _=>_) = onU ts[c]? _
  generalize ts[c]? = o
  rcases o with _ | (_ | _ | _ | _)
  ·rfl
  ·rfl
  ·show wE e _ δ = onO (e δ) _
   rw [Zb5]
  ·rfl
  ·rfl
 ·rfl
noncomputable def on2 (ds:List PyData) (k:PyData→PyData→RS):RS:=match ds with | [d,e]=>k d e | _=>.bad
theorem Yak (d e:PyData) (k:PyData→PyData→RS):on2 [d,e] k = k d e:=rfl
theorem Z5r (i j:Nat) (a:FA) (δ:Zc):Z7v i j a δ = onO (a δ) fun rs δ1=>on2 (OT.datas rs) fun d e=>.nx ((δ1.set i (some (.fz d))).set j (some (.fz e))):=by
 unfold Z7v onO on2
 cases a δ <;> rfl
theorem Zgu {np n:Nat} {S:FS} {ds:List PyData} (h:ds.length = np):J8 np n S ds = (S (Zac n ds)).told:=by
 unfold J8; rw [if_pos h]
theorem Zwl (δ:Zc):(RS.nx δ).told = .ok (.fz .none):=rfl
theorem Zn4 (r:OT) (δ:Zc):(RS.rt r δ).told = .ok r:=rfl
theorem Zuy (c:Str) (δ:Zc):(RS.ex c δ).told = .exn c:=rfl
theorem Z66 (i j:Int):Jq (.int i) (.int j) = some (.int (i + j)):=rfl
theorem Z9k (i j:Int):gSb (.int i) (.int j) = some (.int (i - j)):=rfl
theorem Yae (i j:Int):gLt (.int i) (.int j) = some (.bool (decide (i < j))):=rfl
theorem Z9b (i j:Int):gLe (.int i) (.int j) = some (.bool (decide (i ≤ j))):=rfl
theorem Z3v (i j:Int):gGt (.int i) (.int j) = some (.bool (decide (j < i))):=rfl
theorem Z42 (i j:Int):gGe (.int i) (.int j) = some (.bool (decide (j ≤ i))):=rfl
theorem Zsr {i j:Int} (h:Zxv i j = true):Zfd (.int i) (.int j) = some (.int (i * j)):=by
 unfold Zfd i2c; dsimp only; rw [if_pos h]
theorem Zvb {i j:Int} (h:Zy5 i j = true):Zad (.int i) (.int j) = some (.int (i.fdiv j)):=by
 unfold Zad i2c; dsimp only; rw [if_pos h]
theorem Z2m {i j:Int} (h:j ≠ 0):Za2 (.int i) (.int j) = some (.int (i.fmod j)):=by
 unfold Za2 i2c Z72; dsimp only; rw [if_pos (decide_eq_true h)]
theorem Z2g {x y:Int} (h:x.natAbs < 2 ^ 64):Zxv x y = true:=Zhh.mpr (.of_left (intBits_le_64 (by omega) (by omega)))
theorem Z03 {x y:Int} (h:y.natAbs < 2 ^ 64):Zxv x y = true:=Zhh.mpr (.of_right (intBits_le_64 (by omega) (by omega)))
theorem Ztw {n:Nat} {i j:Int} (h0:j ≠ 0) (h:Bt n j) (hn:n ≤ 9000:=by decide):Zy5 i j = true:=by
 obtain ⟨h1,h2⟩:=DivOk.of (i:=i) h0 h hn
 unfold Zy5
 rw [decide_eq_true h1,decide_eq_true h2]; rfl
theorem Z35 (i j:Int):gEq (.int i) (.int j) = some (.bool (decide (i = j))):=by
 show some (PyData.bool (i == j)) = _
 rw [show (i == j) = decide (i = j) from rfl]
theorem Yac (i j:Int):gNe (.int i) (.int j) = some (.bool (!decide (i = j))):=by
 show some (PyData.bool (!(i == j))) = _
 rw [show (i == j) = decide (i = j) from rfl]
theorem Z9e (d:PyData):gIs d .none = some (.bool (Zgi d)):=rfl
theorem Z3e (d:PyData):Zyk d .none = some (.bool (!Zgi d)):=rfl
theorem Z4t (ds:List PyData) (i:Int):gIx (.list ds) (.int i) = (atI ds i).bind fun x=>some (.fz x):=rfl
theorem Z84 (ds:List PyData) (i:Int):gIx (.tuple ds) (.int i) = (atI ds i).bind fun x=>some (.fz x):=rfl
theorem Z0d (ds:List PyData):Zb7 [.list ds] = some (.int ds.length):=rfl
theorem Z7p (ds:List PyData):Zb7 [.tuple ds] = some (.int ds.length):=rfl
theorem Z8j (i:Int):Z4j [.int i] = some (.int (i.natAbs:Int)):=by
 show some (PyData.int (if i < 0 then -i else i)) = _
 congr 2; split <;> omega
theorem Z6t (i j:Int):Yaf [.int i,.int j] = some (.int (if j > i then j else i)):=rfl
theorem Z7w (i j:Int):Z9c [.int i,.int j] = some (.int (if j < i then j else i)):=rfl
theorem Z74 (i:Int):Z77 [.int i] = some (.int i):=rfl
theorem Z8s (b:Bool):Z77 [.bool b] = some (.int (if b then 1 else 0)):=rfl
theorem Zuv (ds:List PyData):Zoe [.list ds] = some (.nd (ds.map OT.fz)):=rfl
theorem Z6a (ds:List PyData):Zoe [.tuple ds] = some (.nd (ds.map OT.fz)):=rfl
theorem Zzn {ds es:List PyData} (h:ds.length + es.length ≤ sizeLine):Zp9 (.list ds) (.list es) = some (.nd ((ds ++ es).map OT.fz)):=by
 unfold Zp9; dsimp only; rw [if_pos h]
theorem Z1m (i:Int):Z18 (.int i) = some (.int (-i)):=rfl
theorem Z8q (b:Bool):Z3p (.bool b) = some (.bool (!b)):=rfl
theorem Z8v (b:Bool):Zqg (.bool b) = some b:=rfl
theorem Z60 (i:Int):Zqg (.int i) = some (i != 0):=rfl
theorem Z8a:Zqg .none = some false:=rfl
theorem Z7j (ds:List PyData):Zqg (.list ds) = some (!ds.isEmpty):=rfl
theorem Zj3 {gg:FG} {u:FS} {ds:List PyData} {δ:Zc} (I:Nat→Zc→Prop) (h0:I 0 δ)
  (turn:∀ (i:Nat) (d:PyData) (δ:Zc),ds[i]? = some d→I i δ→∃ δ1 δ2,gg d δ = some δ1∧(u δ1 = .nx δ2∨u δ1 = .ct δ2)∧I (i + 1) δ2):∃ δ',forLoop gg u ds δ = .nx δ'∧I ds.length δ':=by
 induction ds generalizing δ I with
 | nil=>exact ⟨δ,rfl,h0⟩
 | cons d ds ih =>
  obtain ⟨δ1,δ2,e1,e2,h1⟩:=turn 0 d δ rfl h0
  obtain ⟨δ',e3,h3⟩:=ih (δ:=δ2) (fun i δ=>I (i + 1) δ) h1 fun i d' δ hd hi=>turn (i + 1) d' δ (by simpa using hd) hi
  refine ⟨δ',?_,h3⟩
  rw [Jg,e1]
  dsimp only
  rcases e2 with e2 | e2 <;> rw [e2] <;> exact e3
noncomputable def Goes (r:RS) (Q:Zc→Prop):Prop:=∃ δ,(r = .nx δ∨r = .ct δ)∧Q δ
theorem Goes.nx {δ:Zc} {Q:Zc→Prop} (h:Q δ):Goes (.nx δ) Q:=⟨δ,.inl rfl,h⟩
theorem Goes.ct {δ:Zc} {Q:Zc→Prop} (h:Q δ):Goes (.ct δ) Q:=⟨δ,.inr rfl,h⟩
theorem Zni {α:Type} {me:FE} {cs:Zc} (mk:α→PyData) (f:α→OT):∀ (xs:List α) (z:Option OT),(∀ x ∈ xs,me (some (.fz (mk x)) :: cs) = some (f x,some (.fz (mk x)) :: cs)) →
  ∃ z',compLoop (gNm 0) Zk9 me (xs.map mk) (z :: cs) = some (xs.map f,z' :: cs)
 | [],z,_=>⟨z,rfl⟩
 | x :: xs,z,h=>by
  obtain ⟨z',e⟩:=Zni mk f xs (some (.fz (mk x))) fun y hy=>h y (.tail _ hy)
  refine ⟨z',?_⟩
  rw [List.map_cons,compLoop]
  show (some (some (OT.fz (mk x)) :: cs)).bind _ = _
  rw [Option.bind_some]
  show (some (true,some (OT.fz (mk x)) :: cs)).bind _ = _
  rw [Option.bind_some,if_pos rfl,h x (.head _),Option.bind_some,e]; rfl
theorem Zkd {α:Type} {t:FT} {me:FE} {cs:Zc} (mk:α→PyData) (p:α→Bool) (f:α→OT):∀ (xs:List α) (z:Option OT),(∀ x ∈ xs,t (some (.fz (mk x)) :: cs) = some (p x,some (.fz (mk x)) :: cs))→(∀ x ∈ xs,p x = true→me (some (.fz (mk x)) :: cs) = some (f x,some (.fz (mk x)) :: cs)) →
  ∃ z',compLoop (gNm 0) t me (xs.map mk) (z :: cs) = some ((xs.filter p).map f,z' :: cs)
 | [],z,_,_=>⟨z,rfl⟩
 | x :: xs,z,ht,h=>by
  obtain ⟨z',e⟩:=Zkd mk p f xs (some (.fz (mk x))) (fun y hy=>ht y (.tail _ hy)) fun y hy=>h y (.tail _ hy)
  refine ⟨z',?_⟩
  rw [List.map_cons,compLoop]
  show (some (some (OT.fz (mk x)) :: cs)).bind _ = _
  rw [Option.bind_some,ht x (.head _),Option.bind_some]
  dsimp only
  by_cases hp:p x = true
  ·rw [if_pos hp,h x (.head _) hp,Option.bind_some,e,List.filter_cons_of_pos hp]; rfl
  ·rw [if_neg hp,e,List.filter_cons_of_neg hp]
theorem Zjz {α:Type} {caps:List Nat} {it:FI} {me:FE} {cs δ δ1:Zc} (xs:List α) (mk:α→PyData) (f:α→OT) (hi:it δ = some (xs.map mk,δ1)) (hz:xs.length ≤ sizeLine) (hb:blk 1 caps δ1 = none :: cs)
  (h:∀ x ∈ xs,me (some (.fz (mk x)) :: cs) = some (f x,some (.fz (mk x)) :: cs)):Wu 1 caps it (gNm 0) Zk9 me δ = some (.nd (xs.map f),δ1):=by
 unfold Wu
 rw [hi,Option.bind_some]
 dsimp only
 rw [if_pos (by rw [List.length_map]; exact hz),hb]
 obtain ⟨z',e⟩:=Zni (me:=me) (cs:=cs) mk f xs none h
 rw [e]; rfl
theorem Zeh {α:Type} {caps:List Nat} {it:FI} {t:FT} {me:FE} {cs δ δ1:Zc} (xs:List α) (mk:α→PyData) (p:α→Bool) (f:α→OT) (hi:it δ = some (xs.map mk,δ1)) (hz:xs.length ≤ sizeLine) (hb:blk 1 caps δ1 = none :: cs)
  (ht:∀ x ∈ xs,t (some (.fz (mk x)) :: cs) = some (p x,some (.fz (mk x)) :: cs)) (h:∀ x ∈ xs,p x = true→me (some (.fz (mk x)) :: cs) = some (f x,some (.fz (mk x)) :: cs)):Wu 1 caps it (gNm 0) t me δ = some (.nd ((xs.filter p).map f),δ1):=by
 unfold Wu
 rw [hi,Option.bind_some]
 dsimp only
 rw [if_pos (by rw [List.length_map]; exact hz),hb]
 obtain ⟨z',e⟩:=Zkd (t:=t) (me:=me) (cs:=cs) mk p f xs none ht h
 rw [e]; rfl
theorem Z94:(2 ≤ sizeLine) = True:=by simp [sizeLine_eq]
theorem Z99:(1 ≤ sizeLine) = True:=by simp [sizeLine_eq]
theorem Z9h:(0 ≤ sizeLine) = True:=by simp
theorem Z4l:(3 ≤ sizeLine) = True:=by simp [sizeLine_eq]
theorem Zdf {α:Type} (f:α→PyData) (xs:List α):(xs.map fun x=>OT.fz (f x)).map OT.data = xs.map f:=by
 rw [List.map_map]; exact List.map_congr_left fun x _=>OT.data_fz _
theorem Ztu {α:Type} {j:Int} {x:α} (h0:0 ≤ j) (h1:j ≤ 1000000):(if rOk j = true then some x else none) = some x:=if_pos (Zmo (by omega) h1)
theorem Zuq {α:Type} {i j:Int} {x:α} (h0:0 ≤ i) (h1:i ≤ 1000000) (h2:0 ≤ j) (h3:j ≤ 1000000):(if (rOk i && rOk j) = true then some x else none) = some x:=if_pos (by rw [Zmo (by omega) h1,Zmo (by omega) h3]; rfl)
theorem Zy2 {r:RS} {k:Nat} (h:k ≤ 1000000):(if k < sizeLine then r else .bad) = r:=if_pos (by rw [sizeLine_eq]; omega)
end L2
namespace L2
open PySem PySem.Spec PyProof.Rows
noncomputable def EvV (e:FE) (δ:Zc) (d:PyData):Prop:=∃ t,e δ = some (t,δ)∧t.data = d
noncomputable def EvA (a:FA) (δ:Zc) (ds:List PyData):Prop:=∃ ts,a δ = some (ts,δ)∧OT.datas ts = ds
noncomputable def EvT (t:FT) (δ:Zc) (b:Bool):Prop:=t δ = some (b,δ)
noncomputable def Told (F:FD) (ds:List PyData) (d:PyData):Prop:=∃ t,F ds = .ok t∧t.data = d
section
variable {e a b:FE} {as:FA} {δ δ':Zc} {x y d:PyData} {xs ds:List PyData} {i j:Nat} {p q:Bool} {t u:FT} {S S':FS} {r:RS}
theorem EvV.cast {e:FE} {δ:Zc} {x y:PyData} (h:EvV e δ x) (k:x = y):EvV e δ y:=k ▸ h
theorem Za (h:δ[i]? = some (some (.fz d)):=by rfl):EvV (Zd i) δ d:=⟨_,by rw [Zxp,h,Zwm],OT.data_fz _⟩
theorem Zdq {t:OT} (h:δ[i]? = some (some t)) (hd:t.data = d):EvV (J5 i) δ d:=⟨_,by rw [Zvz,h,Zwf],by rw [OT.data_fz,hd]⟩
theorem Yr:EvV (fC d) δ d:=⟨_,rfl,OT.data_fz _⟩
theorem Zr {g:PyData→PyData→Option PyData} (ha:EvV a δ x) (hb:EvV b δ y) (h:g x y = some d):EvV (Zb g a b) δ d:=by
 obtain ⟨_,e1,d1⟩:=ha
 obtain ⟨_,e2,d2⟩:=hb
 exact ⟨_,by rw [Zrj,e1,Option.bind_some,e2,Option.bind_some,d1,d2,h,Option.bind_some],OT.data_fz _⟩
theorem Zdi {g:PyData→PyData→Option OT} {o:OT} (ha:EvV a δ x) (hb:EvV b δ y) (h:g x y = some o) (hd:o.data = d):EvV (Yx g a b) δ d:=by
 obtain ⟨_,e1,d1⟩:=ha
 obtain ⟨_,e2,d2⟩:=hb
 exact ⟨_,by rw [Zt7,e1,Option.bind_some,e2,Option.bind_some,d1,d2,h,Option.bind_some],hd⟩
theorem Zli (ha:EvV a δ x) (hb:EvV b δ y) (h:gIx x y = some (.fz d)):EvV (Yx gIx a b) δ d:=Zdi ha hb h (OT.data_fz _)
theorem Jw {i j:Int} (ha:EvV a δ (.int i)) (hb:EvV b δ (.int j)):EvV (Zb Jq a b) δ (.int (i + j)):=Zr ha hb rfl
theorem Zyl {i j:Int} (ha:EvV a δ (.int i)) (hb:EvV b δ (.int j)):EvV (Zb gSb a b) δ (.int (i - j)):=Zr ha hb rfl
theorem Z0c {g:PyData→Option PyData} (ha:EvV a δ x) (h:g x = some d):EvV (fUn g a) δ d:=by
 obtain ⟨_,e1,d1⟩:=ha
 exact ⟨_,by rw [Zyb,e1,Option.bind_some,d1,h,Option.bind_some],OT.data_fz _⟩
theorem Zgx (ha:EvV a δ (.bool true)) (hb:EvV b δ d):EvV (Zsi a b) δ d:=by
 obtain ⟨_,e1,d1⟩:=ha
 obtain ⟨_,e2,d2⟩:=hb
 exact ⟨_,by rw [Zub,e1,Option.bind_some,d1,Z4x,e2],d2⟩
theorem Z08 {T:String} (ha:EvV a δ x) (hf:Zfe x = false:=by rfl):EvV (Zpz T a) δ (.bool (Zme T x)):=by
 obtain ⟨_,e1,d1⟩:=ha
 exact ⟨_,by rw [Zu3,e1,Option.bind_some,d1,if_neg (by rw [hf]; decide)],OT.data_fz _⟩
theorem Zk:EvA Zn δ []:=⟨_,rfl,Ze1⟩
theorem Zf (h:EvV e δ d) (k:EvA as δ ds):EvA (Ze e as) δ (d :: ds):=by
 obtain ⟨_,e1,d1⟩:=h
 obtain ⟨_,e2,d2⟩:=k
 exact ⟨_,by rw [Zkh,e1,Option.bind_some,e2,Option.bind_some],by rw [Zc2,d1,d2]⟩
theorem Z6 {F:FD} (h:EvA as δ ds) (k:Told F ds d):EvV (Yh F as) δ d:=by
 obtain ⟨_,e1,d1⟩:=h
 obtain ⟨_,e2,d2⟩:=k
 exact ⟨_,by rw [Zre,e1,Option.bind_some,d1,e2,Z0q],d2⟩
theorem Zet {g:List PyData→Option PyData} (h:EvA as δ ds) (k:g ds = some d):EvV (Zas g as) δ d:=by
 obtain ⟨_,e1,d1⟩:=h
 exact ⟨_,by rw [Zvg,e1,Option.bind_some,d1,k,Option.bind_some],OT.data_fz _⟩
theorem Z6b {g:List PyData→Option OT} {o:OT} (h:EvA as δ ds) (k:g ds = some o) (hd:o.data = d):EvV (fBl g as) δ d:=by
 obtain ⟨_,e1,d1⟩:=h
 exact ⟨_,by rw [Zx8,e1,Option.bind_some,d1,k,Option.bind_some],hd⟩
theorem Zch:∀ ts:List OT,(OT.datas ts).length = ts.length
 | []=>by rw [Ze1]; rfl
 | t :: ts=>by rw [Zc2,List.length_cons,List.length_cons,Zch ts]
theorem datas_map:∀ ts:List OT,OT.datas ts = ts.map OT.data
 | []=>Ze1
 | t :: ts=>by rw [Zc2,List.map_cons,datas_map ts]
theorem Zow (h:EvA as δ ds) (hl:ds.length ≤ 1000):EvV (Zi0 as) δ (.tuple ds):=by
 obtain ⟨ts,e1,d1⟩:=h
 have:=Zch ts
 rw [d1] at this
 exact ⟨_,by rw [Zt6,e1,Option.bind_some,if_pos (by rw [sizeLine_eq]; show ts.length ≤ _; omega)],by rw [OT.data_fz]; exact congrArg _ d1⟩
theorem Ztm (h:EvA as δ ds) (hl:ds.length ≤ 1000):EvV (Zd0 as) δ (.list ds):=by
 obtain ⟨ts,e1,d1⟩:=h
 have:=Zch ts
 rw [d1] at this
 exact ⟨_,by rw [Zji,e1,Option.bind_some,if_pos (by rw [sizeLine_eq]; show ts.length ≤ _; omega)],by rw [OT.data_nd,← datas_map,d1]⟩
theorem Zie {o:OT} {b:Bool} (h:o.data = .bool b):o = .fz (.bool b):=by
 cases o with
 | fz d=>rw [OT.data_fz] at h; rw [h]
 | nd ts=>rw [OT.data_nd] at h; cases h
 | tp ts=>rw [OT.data_tp] at h; cases h
 | dc _ _ _=>rw [OT.data_dc] at h; cases h
theorem Zd7 (h:EvV e δ (.bool p)):EvT (tV e) δ p:=by
 obtain ⟨_,e1,d1⟩:=h
 unfold EvT
 rw [Z58,e1,Option.bind_some,Zie d1,Zz0]
theorem Z9t (h:EvV e δ d) (k:Zqg d = some p):EvT (tD e) δ p:=by
 obtain ⟨_,e1,d1⟩:=h
 unfold EvT
 rw [Z5f,e1,Option.bind_some,d1,k,Option.bind_some]
theorem Zcx (h:EvV e δ (.bool p)):EvT (tD e) δ p:=Z9t h rfl
theorem Zcb (h:EvT t δ p):EvT (tNo t) δ (!p):=by
 unfold EvT at h ⊢
 rw [Zzk,h,Option.bind_some]
theorem Zxr (h:EvT t δ false) (k:EvT u δ p):EvT (tO t u) δ p:=by
 unfold EvT at h k ⊢
 rw [Z4c,h,Option.bind_some,if_neg Bool.false_ne_true,k]
theorem Zv (h:S δ = .nx δ') (k:S' δ' = r):Zz S S' δ = r:=by rw [Zju,h,Zy3,k]
theorem Znj {o:OT} (h:S δ = .rt o δ'):Zz S S' δ = .rt o δ':=by rw [Zju,h,Zz4]
theorem Ym (h:EvV e δ d):wE e (Jh i) δ = .nx (δ.set i (some (.fz d))):=by
 obtain ⟨_,e1,d1⟩:=h
 rw [Zb5,e1,Z5,Zvo,d1]
theorem Z0b (h:EvV e δ d):∃ o,wE e Za1 δ = .rt o δ∧o.data = d:=by
 obtain ⟨_,e1,d1⟩:=h
 exact ⟨_,by rw [Zb5,e1,Z5,Zv0],d1⟩
theorem Zao (h:EvT t δ true) (k:S δ = r):W0 t S S' δ = r:=by
 unfold EvT at h
 rw [Zn2,h,Z5,if_pos rfl,k]
theorem Yl (h:EvT t δ false) (k:S' δ = r):W0 t S S' δ = r:=by
 unfold EvT at h
 rw [Zn2,h,Z5,if_neg (by decide),k]
theorem Z0u {F:FD} {k:OT→Zc→RS} (h:EvA as δ ds) (hF:Told F ds d) (hk:∀ o,o.data = d→k o δ = r):wX F as k δ = r:=by
 obtain ⟨_,e1,d1⟩:=h
 obtain ⟨o,e2,d2⟩:=hF
 rw [Zw1,e1,Z5,d1,e2,Ztb,hk o d2]
theorem Zpw {F:FD} {k:OT→Zc→RS} {c:Str} (h:EvA as δ ds) (hF:F ds = .exn c):wX F as k δ = .ex c δ:=by
 obtain ⟨_,e1,d1⟩:=h
 rw [Zw1,e1,Z5,d1,hF,Zyu]
noncomputable def Zmg (S:FS) (δ:Zc) (d:PyData):Prop:=∃ o δ',S δ = .rt o δ'∧o.data = d
theorem Wv (h:S δ = .nx δ') (k:Zmg S' δ' d):Zmg (Zz S S') δ d:=by
 obtain ⟨o,δ2,e,hd⟩:=k
 exact ⟨o,δ2,Zv h e,hd⟩
theorem Zkc (k:Zmg S δ d):Zmg (Zz S S') δ d:=by
 obtain ⟨o,δ2,e,hd⟩:=k
 exact ⟨o,δ2,Znj e,hd⟩
theorem Zak (h:EvV e δ d):Zmg (wE e Za1) δ d:=by
 obtain ⟨o,e1,hd⟩:=Z0b h
 exact ⟨o,δ,e1,hd⟩
theorem Zpj (h:EvT t δ true) (k:Zmg S δ d):Zmg (W0 t S S') δ d:=by
 obtain ⟨o,δ2,e,hd⟩:=k
 exact ⟨o,δ2,Zao h e,hd⟩
theorem We {np n:Nat} (hl:xs.length = np) (k:Zmg S (Zac n xs) d):Told (J8 np n S) xs d:=by
 obtain ⟨o,δ2,e,hd⟩:=k
 exact ⟨o,by rw [Zgu hl,e,Zn4],hd⟩
noncomputable def EvO (o:FO) (δ:Zc) (l:Option Int):Prop:=o δ = some (l,δ)
theorem Z3w:EvO oN δ none:=rfl
theorem Zxs {i:Int} (h:EvV e δ (.int i)):EvO (oI e) δ (some i):=by
 obtain ⟨_,e1,d1⟩:=h
 unfold EvO
 rw [Z37,e1,Option.bind_some,d1,Zw0]
theorem Zzp {lo hi:FO} {l h:Option Int} (he:EvV e δ (.list ds)) (hl:EvO lo δ l) (hh:EvO hi δ h):EvV (fSl e lo hi) δ (.list (cutD ds l h)):=by
 obtain ⟨_,e1,d1⟩:=he
 unfold EvO at hl hh
 exact ⟨_,by rw [Zze,e1,Option.bind_some,hl,Option.bind_some,hh,Option.bind_some,d1,Zpq],by rw [OT.data_nd,OT.map_fz]⟩
theorem Ztg {es:List PyData} (ha:EvV a δ (.list ds)) (hb:EvV b δ (.list es)) (h:ds.length + es.length ≤ 1000000):EvV (Yx Zp9 a b) δ (.list (ds ++ es)) :=
 Zdi ha hb (Zzn (by rw [sizeLine_eq]; omega)) (by rw [OT.data_nd,OT.map_fz])
noncomputable def EvI (it:FI) (δ:Zc) (ds:List PyData):Prop:=it δ = some (ds,δ)
theorem Zbd (h:EvV e δ (.list ds)):EvI (Zbw e) δ ds:=by
 obtain ⟨_,e1,d1⟩:=h
 unfold EvI
 rw [Zw7,e1,Option.bind_some,d1,Zpq]
theorem Zfk {n:Nat} (h:EvA as δ [.int n]) (hn:n ≤ 1000000):EvI (iRa as) δ (Zcw 0 n):=by
 obtain ⟨_,e1,d1⟩:=h
 unfold EvI
 rw [Zyf,e1,Option.bind_some,d1,Z5h,Ztu (by omega) (by omega),Int.toNat_natCast]
theorem Zhp {it:FI} {g:FG} (h:EvI it δ ds) (k:forLoop g S ds δ = r):Zaf it g S δ = r:=by
 unfold EvI at h
 rw [Zxe,h,Z5,k]
theorem Zi2 {α:Type} {caps:List Nat} {it:FI} {me:FE} {cs:Zc} (xs:List α) (mk f:α→PyData) (hi:EvI it δ (xs.map mk)) (hz:xs.length ≤ 1000000) (hb:blk 1 caps δ = none :: cs) (h:∀ x ∈ xs,EvV me (some (.fz (mk x)) :: cs) (f x)):EvV (Wu 1 caps it (gNm 0) Zk9 me) δ (.list (xs.map f)):=by
 have g:∀ x,∃ o:OT,x ∈ xs→me (some (.fz (mk x)) :: cs) = some (o,some (.fz (mk x)) :: cs)∧o.data = f x:=fun x=>by
  by_cases c:x ∈ xs
  ·obtain ⟨o,h1,h2⟩:=h x c
   exact ⟨o,fun _=>⟨h1,h2⟩⟩
  ·exact ⟨.fz .none,fun z=>absurd z c⟩
 obtain ⟨o,ho⟩:=Classical.axiomOfChoice g
 unfold EvI at hi
 refine ⟨_,Zjz (cs:=cs) xs mk o hi (by rw [sizeLine_eq]; omega) hb (fun x hx=>(ho x hx).1),?_⟩
 rw [OT.data_nd,List.map_map]
 exact congrArg _ (List.map_congr_left fun x hx=>(ho x hx).2)
theorem Zkw {ts:List OT} (h:EvV e δ d) (hi:δ[i]? = some (some (.nd ts))) (hl:ts.length ≤ 1000000):Yi i e δ = .nx (δ.set i (some (.nd (ts ++ [.fz d])))):=by
 obtain ⟨_,e1,d1⟩:=h
 rw [Zlz,hi,Z10,e1,Z5,hi,Z10,Zy2 hl,d1]
theorem Zc9 {o:OT} (h:e δ = some (o,δ)):wE e (Jf i) δ = .nx (δ.set i (some o)):=by rw [Zb5,h,Z5,Zkz]
theorem Z0e {o:OT} (h:δ[i]? = some (some o)) (hd:o.data = d):Zmg (Zb8 i) δ d:=⟨o,_,by rw [Zr6,h,Zzo],hd⟩
theorem Zh1 {o:OT} (h:δ[i]? = some (some o)) (k:S (δ.set i (some (.fz o.data))) = r):Zaq i S δ = r:=by rw [Zlt,h,Zzo,k]
theorem Zhy {np n:Nat} (hl:xs.length = np) (k:S (Zac n xs) = .nx δ'):Told (J8 np n S) xs .none:=⟨_,by rw [Zgu hl,k,Zwl],OT.data_fz _⟩
theorem Zj1 {np n:Nat} {c:Str} (hl:xs.length = np) (k:S (Zac n xs) = .ex c δ'):J8 np n S xs = .exn c:=by rw [Zgu hl,k,Zuy]
theorem Zeo {c:Str} (h:S δ = .ex c δ'):Zz S S' δ = .ex c δ':=by rw [Zju,h,Zyc]
theorem Told.ok {F:FD} {b:Bool} (h:Told F ds (.bool b)):F ds = .ok (.fz (.bool b)):=by
 obtain ⟨o,e1,d1⟩:=h
 rw [e1,Zie d1]
theorem Zki {o:OT} {i:Int} (h:o.data = .int i):o = .fz (.int i):=by
 cases o with
 | fz d=>rw [OT.data_fz] at h; rw [h]
 | nd ts=>rw [OT.data_nd] at h; cases h
 | tp ts=>rw [OT.data_tp] at h; cases h
 | dc _ _ _=>rw [OT.data_dc] at h; cases h
theorem Told.int {F:FD} {i:Int} (h:Told F ds (.int i)):F ds = .ok (.fz (.int i)):=by
 obtain ⟨o,e1,d1⟩:=h
 rw [e1,Zki d1]
theorem Zpl {o:OT} (h:o.data = .none):o = .fz .none:=by
 cases o with
 | fz d=>rw [OT.data_fz] at h; rw [h]
 | nd ts=>rw [OT.data_nd] at h; cases h
 | tp ts=>rw [OT.data_tp] at h; cases h
 | dc _ _ _=>rw [OT.data_dc] at h; cases h
theorem Told.of {F:FD} {o:OT} (h:F ds = .ok o) (hd:o.data = d):Told F ds d:=⟨o,h,hd⟩
end
end L2
namespace L2
open PySem PySem.Spec PyProof.Rows
section
variable {e a b:FE} {as:FA} {δ δ':Zc} {x y d:PyData} {xs ds:List PyData} {i j:Int} {k:Nat} {p q:Bool} {t u:FT} {S S':FS} {r:RS} {Q:PyData→Prop}
theorem Jm (ha:EvV a δ (.int i)) (hb:EvV b δ (.int j)) (h:j ≠ 0):EvV (Zb Za2 a b) δ (.int (i.fmod j)):=Zr ha hb (Z2m h)
theorem Z23 {i j:Int} (h:(decide (0 < j) && decide (j < 18446744073709551616)) = true):Zad (.int i) (.int j) = some (.int (i.fdiv j)):=by
 rw [Bool.and_eq_true,decide_eq_true_eq,decide_eq_true_eq] at h
 exact Zvb (Ztw (n:=64) (by omega) (Bt.of_lt (by omega) (by omega)))
theorem Zej (ha:EvV a δ (.int i)) (hb:EvV b δ (.int j)) (h:(decide (0 < j) && decide (j < 18446744073709551616)) = true:=by decide):EvV (Zb Zad a b) δ (.int (i.fdiv j)):=Zr ha hb (Z23 h)
theorem Ze2 (ha:EvV a δ (.int i)) (hb:EvV b δ (.int j)) (h:i.natAbs < 2 ^ 64:=by decide):EvV (Zb Zfd a b) δ (.int (i * j)):=Zr ha hb (Zsr (Z2g h))
theorem Zi4 (ha:EvV a δ (.int i)) (hb:EvV b δ (.int j)) (h:j.natAbs < 2 ^ 64:=by decide):EvV (Zb Zfd a b) δ (.int (i * j)):=Zr ha hb (Zsr (Z03 h))
theorem Zns (ha:EvV a δ (.int i)) (hb:EvV b δ (.int j)) (h:decide (i < j) = p):EvV (Zb gLt a b) δ (.bool p):=h ▸ Zr ha hb rfl
theorem Zw5 (ha:EvV a δ (.int i)) (hb:EvV b δ (.int j)) (h:decide (j < i) = p):EvV (Zb gGt a b) δ (.bool p):=h ▸ Zr ha hb (Z3v _ _)
theorem Zzc (ha:EvV a δ (.int i)) (hb:EvV b δ (.int j)) (h:decide (j ≤ i) = p):EvV (Zb gGe a b) δ (.bool p):=h ▸ Zr ha hb (Z42 _ _)
theorem Zjh (ha:EvV a δ (.int i)) (hb:EvV b δ (.int j)) (h:decide (i = j) = p):EvV (Zb gEq a b) δ (.bool p):=h ▸ Zr ha hb (Z35 _ _)
theorem Z0z (ha:EvV a δ (.int i)):EvV (fUn Z18 a) δ (.int (-i)):=Z0c ha (Z1m _)
theorem Za3 {ds:List PyData} (h:EvV e δ (.list ds)):EvV (Zas Zb7 (Ze e Zn)) δ (.int ds.length):=Zet (Zf h Zk) (Z0d ds)
theorem Zdj (ha:EvV a δ (.list ds)) (hb:EvV b δ (.int i)) (h:atI ds i = some d):EvV (Yx gIx a b) δ d:=Zli ha hb (by rw [Z4t,h]; rfl)
noncomputable def Zxm (S:FS) (δ:Zc) (Q:PyData→Prop):Prop:=∃ d,Zmg S δ d∧Q d
theorem Zba (h:S δ = .nx δ') (k:Zxm S' δ' Q):Zxm (Zz S S') δ Q:=k.imp fun _ k=>⟨Wv h k.1,k.2⟩
theorem Z0k (h:EvV e δ d) (k:Q d):Zxm (wE e Za1) δ Q:=⟨d,Zak h,k⟩
theorem Z4f {o:OT} (h:δ[k]? = some (some o)) (hd:Q o.data):Zxm (Zb8 k) δ Q:=⟨_,Z0e h rfl,hd⟩
theorem Zro {np n:Nat} (hl:xs.length = np) (h:Zxm S (Zac n xs) Q):∃ d,Told (J8 np n S) xs d∧Q d:=h.imp fun _ k=>⟨We hl k.1,k.2⟩
theorem Zk8 {it:FI} {g:FG} (I:Nat→Zc→Prop) (hi:EvI it δ ds) (h0:I 0 δ) (turn:∀ (i:Nat) (d:PyData) (δ:Zc),ds[i]? = some d→I i δ→∃ δ1 δ2,g d δ = some δ1∧(S δ1 = .nx δ2∨S δ1 = .ct δ2)∧I (i + 1) δ2) (k:∀ δ',I ds.length δ'→Zxm S' δ' Q):Zxm (Zz (Zaf it g S) S') δ Q:=by
 obtain ⟨δ',e,h⟩:=Zj3 I h0 turn
 exact Zba (Zhp hi e) (k δ' h)
theorem Zge {it:FI} {g:FG} (I:Nat→Zc→Prop) (hi:EvI it δ ds) (h0:I 0 δ) (turn:∀ (i:Nat) (d:PyData) (δ:Zc),ds[i]? = some d→I i δ→∃ δ1 δ2,g d δ = some δ1∧(S δ1 = .nx δ2∨S δ1 = .ct δ2)∧I (i + 1) δ2) (k:∀ δ',I ds.length δ'→Zmg S' δ' d):Zmg (Zz (Zaf it g S) S') δ d:=by
 obtain ⟨δ',e,h⟩:=Zj3 I h0 turn
 exact Wv (Zhp hi e) (k δ' h)
theorem Zey {it:FI} {g:FG} (I:Nat→Zc→Prop) (hi:EvI it δ ds) (h0:I 0 δ) (turn:∀ (i:Nat) (d:PyData) (δ:Zc),ds[i]? = some d→I i δ→∃ δ1 δ2,g d δ = some δ1∧(S δ1 = .nx δ2∨S δ1 = .ct δ2)∧I (i + 1) δ2):∃ δ',Zaf it g S δ = .nx δ'∧I ds.length δ':=by
 obtain ⟨δ',e,h⟩:=Zj3 I h0 turn
 exact ⟨δ',Zhp hi e,h⟩
theorem Zt0 {m n:Nat} (h:EvA as δ [.int m,.int n]) (hm:m ≤ 1000000) (hn:n ≤ 1000000):EvI (iRb as) δ (Zcw m (n - m)):=by
 obtain ⟨_,e1,d1⟩:=h
 unfold EvI
 rw [Zzi,e1,Option.bind_some,d1,Z5i,Zuq (by omega) (by omega) (by omega) (by omega),show ((n:Int) - (m:Int)).toNat = n - m by omega]
theorem Zfu:wE (Zd0 Zn) (Jf k) δ = .nx (δ.set k (some (.nd []))):=Zc9 (by rw [Zji]; rfl)
theorem Zp2 {i:Int} (h:0 < j):0 ≤ i.fmod j:=by rw [Zk7 h]; exact Int.emod_nonneg _ (by omega)
theorem Zoa {i:Int} (h:0 < j):i.fmod j < j:=by rw [Zk7 h]; exact Int.emod_lt_of_pos _ h
theorem Zah (i:Int) {n:Nat} (h:0 < n):∃ m:Nat,i.fmod (n:Int) = m∧m < n:=by
 have h0:=Zp2 (i:=i) (j:=n) (by omega)
 have h1:=Zoa (i:=i) (j:=n) (by omega)
 exact ⟨(i.fmod n).toNat,by omega,by omega⟩
theorem Zwz {es:List PyData} (h:EvA as δ ds) (hz:Z1p ds = some es):EvI (Zpp as) δ es:=by
 obtain ⟨_,e1,d1⟩:=h
 unfold EvI Zpp
 rw [e1,Option.bind_some,d1,hz,Option.bind_some]
theorem Zyg {xs:List Str} {D c:Str} {h:FS} {δ2:Zc} (e:S δ = .ex c δ') (hc:(xs.contains c && Zsw c D) = true) (hh:h (δ'.set k (some (.fz (exD c)))) = .nx δ2):Zys xs S D k h δ = .nx (δ2.set k none):=by
 unfold Zys
 rw [e]
 dsimp only
 rw [if_pos hc,hh]
theorem Z1i {xs:List Str} {D x:Str} (ha:EvV a δ (exD x)) (h:xs.contains x = true) (hd:Zsw x D = p):EvV (Zrg xs D a) δ (.bool p):=by
 obtain ⟨_,e1,d1⟩:=ha
 exact ⟨_,by unfold Zrg; rw [e1,Option.bind_some,d1,show Zj4 (exD x) = some x from rfl,Option.bind_some,if_pos h],by rw [OT.data_fz,hd]⟩
theorem Zj6 {it:FI} {g gg:FG} {δ1:Zc} (I:Nat→Zc→Prop) {J:Zc→Prop} (hg:gg d δ = some δ1) (hi:EvI it δ1 ds) (h0:I 0 δ1) (turn:∀ (i:Nat) (d:PyData) (δ:Zc),ds[i]? = some d→I i δ→∃ δ1 δ2,g d δ = some δ1∧(S δ1 = .nx δ2∨S δ1 = .ct δ2)∧I (i + 1) δ2) (hJ:∀ δ',I ds.length δ'→J δ'):∃ δ1 δ2,gg d δ = some δ1∧(Zaf it g S δ1 = .nx δ2∨Zaf it g S δ1 = .ct δ2)∧J δ2:=by
 obtain ⟨δ',e,h⟩:=Zj3 I h0 turn
 exact ⟨δ1,δ',hg,.inl (Zhp hi e),hJ δ' h⟩
theorem Zh5 {T:String} (ha:EvV a δ x) (h:Zme T x = p) (hf:Zfe x = false:=by rfl):EvV (Zpz T a) δ (.bool p):=(Z08 ha hf).cast (by rw [h])
theorem Zmw {f g h:Int→Int→Bool} {c d:FE} {m n:Int} (ha:EvV a δ (.int i)) (hb:EvV b δ (.int j)) (hc:EvV c δ (.int m)) (hd:EvV d δ (.int n)):EvV (Zfa f g h a b c d) δ (.bool (f i j && (g j m && h m n))):=by
 obtain ⟨_,e1,d1⟩:=ha
 obtain ⟨_,e2,d2⟩:=hb
 obtain ⟨_,e3,d3⟩:=hc
 obtain ⟨_,e4,d4⟩:=hd
 have io:∀ i,intOf (.int i) = some i:=fun _=>rfl
 unfold EvV Zfa
 rw [e1,Option.bind_some,e2,Option.bind_some,d1,io,Option.bind_some,d2,io,Option.bind_some]
 cases f i j with
 | false=>exact ⟨_,rfl,OT.data_fz _⟩
 | true =>
  rw [if_pos rfl,e3,Option.bind_some,d3,io,Option.bind_some]
  cases g j m with
  | false=>exact ⟨_,rfl,OT.data_fz _⟩
  | true=>exact ⟨_,by rw [if_pos rfl,e4,Option.bind_some,d4,io,Option.bind_some]; rfl,OT.data_fz _⟩
theorem Ztv {a b:FE} {bs es:List PyData} {as:List PyData} (ha:EvV a δ (.list as)) (hb:EvV b δ (.list bs)) (hz:Zi8 as bs = es):EvI (Zpp (Ze a (Ze b Zn))) δ es:=Zwz (Zf ha (Zf hb Zk)) (congrArg some hz)
theorem Zqi {α:Type} {caps:List Nat} {it:FI} {me:FE} {t:FT} {cs:Zc} (xs:List α) (mk:α→PyData) (pr:α→Bool) (hi:EvI it δ (xs.map mk)) (hz:xs.length ≤ 1000000) (hb:blk 1 caps δ = none :: cs) (ht:∀ x ∈ xs,EvT t (some (.fz (mk x)) :: cs) (pr x)) (h:∀ x ∈ xs,pr x = true→me (some (.fz (mk x)) :: cs) = some (.fz (mk x),some (.fz (mk x)) :: cs)):EvV (Wu 1 caps it (gNm 0) t me) δ (.list ((xs.filter pr).map mk)):=by
 unfold EvI at hi
 refine ⟨_,Zeh (cs:=cs) xs mk pr (fun x=>.fz (mk x)) hi (by rw [sizeLine_eq]; omega) hb (fun x hx=>ht x hx) h,?_⟩
 rw [OT.data_nd,List.map_map]
 exact congrArg _ (List.map_congr_left fun x _=>OT.data_fz _)
theorem Told.none {F:FD} (h:Told F ds .none):F ds = .ok (.fz .none):=by
 obtain ⟨o,e1,d1⟩:=h
 rw [e1,Zpl d1]
end
end L2
namespace My
open PySem L2 PySem.Spec
noncomputable def Zat:FS :=
 (Zz (wE (Zas Z4j (Ze (Zd 0) Zn)) (Jh 0))
  (Zz (wE (Zas Z4j (Ze (Zd 1) Zn)) (Jh 1))
  (Zz (Zgd (tV (Zb gNe (Zd 1) (fC (.int 0)))) (Zz (wE (Zb Za2 (Zd 0) (Zd 1)) (Jh 2))
  (Zz (wE (Zd 1) (Jh 0))
  (wE (Zd 2) (Jh 1)))))
  (wE (Zd 0) Za1))))
noncomputable def Wr:FD:=J8 2 3 Zat
noncomputable def Ze7:FS :=
 (Zz (wE (Yh Wr (Ze (Zd 0) (Ze (Zd 1) Zn))) (Jh 2))
  (Zz (W0 (tV (Zb gLt (Zd 1) (fC (.int 0))))
  (wE (fUn Z18 (Zd 2)) (Jh 2))
  fNx)
  (wE (Zi0 (Ze (Zb Zad (Zd 0) (Zd 2)) (Ze (Zb Zad (Zd 1) (Zd 2)) Zn))) Za1)))
noncomputable def Zex:FD:=J8 2 3 Ze7
noncomputable def Zed:FS :=
 (wE (Zsi (Zpz "int" (Zd 0)) (fUn Z3p (Zpz "bool" (Zd 0)))) Za1)
noncomputable def Zbe:FD:=J8 1 1 Zed
noncomputable def Zee:FS :=
 (Zz (W0 (tO (tNo (tD (Yh Zbe (Ze (Zd 0) Zn)))) (tO (tNo (tD (Yh Zbe (Ze (Zd 1) Zn)))) (tV (Zb gEq (Zd 1) (fC (.int 0))))))
  (Za0 "NoNumber")
  fNx)
  (wE (Yh Zex (Ze (Zd 0) (Ze (Zd 1) Zn))) Za1))
noncomputable def Zmi:FD:=J8 2 2 Zee
noncomputable def Zbq:FS :=
 (Zz (wE (fC (.int 1)) (Jh 1))
  (Zz (Zaf (Zbw (Zd 0)) (gNm 2)
  (wE (Zb Zfd (Zb Zad (Zd 1) (Yh Wr (Ze (Zd 1) (Ze (Yx gIx (Zd 2) (fC (.int 1))) Zn)))) (Yx gIx (Zd 2) (fC (.int 1)))) (Jh 1)))
  (wE (Zd 1) Za1)))
noncomputable def Zbp:FD:=J8 1 3 Zbq
noncomputable def Zb6:FS :=
 (Zz (wE (fC (.int 1)) (Jh 1))
  (Zz (Zaf (Zbw (Zd 0)) (gNm 2)
  (wE (Yh Zbp (Ze (Yx Zp9 (Zd0 (Ze (Zi0 (Ze (fC (.int 1)) (Ze (Zd 1) Zn))) Zn)) (Zd 2)) Zn)) (Jh 1)))
  (wE (Zd 1) Za1)))
noncomputable def Zja:FD:=J8 1 3 Zb6
noncomputable def Zd1:FS :=
 (wE (Wu 1 [0] (Zbw (Zd 1)) (gNm 0) Zk9 (Zb Zfd (Yx gIx (Zd 0) (fC (.int 0))) (Zb Zad (Zd 1) (Yx gIx (Zd 0) (fC (.int 1)))))) Za1)
noncomputable def Zd2:FD:=J8 2 2 Zd1
noncomputable def Zdb:FS :=
 (wE (Wu 1 [0] (Zbw (Zd 1)) (gNm 0) Zk9 (Yh Zd2 (Ze (Zd 1) (Ze (Zd 0) Zn)))) Za1)
noncomputable def Zlx:FD:=J8 2 2 Zdb
noncomputable def Zbi:FS :=
 (Zz (wE (Zd0 Zn) (Jf 1))
  (Zz (Zaf (iRa (Ze (Zd 0) Zn)) (gNm 2)
  (Zaf (iRb (Ze (Zb Jq (Zd 2) (fC (.int 1))) (Ze (Zd 0) Zn))) (gNm 3)
  (Yi 1 (Zi0 (Ze (Zd 2) (Ze (Zd 3) Zn))))))
  (Zb8 1)))
noncomputable def Wt:FD:=J8 1 4 Zbi
noncomputable def Zdw (n:Nat):List (Nat × Nat):=(List.range n).flatMap fun i=>(List.range (n - (i + 1))).map fun j=>(i,i + 1 + j)
noncomputable def ptD (p:Nat × Nat):PyData:=.tuple [.int p.1,.int p.2]
theorem Zfz {n:Nat} {p:Nat × Nat} (h:p ∈ Zdw n):p.1 < p.2∧p.2 < n:=by
 unfold Zdw at h
 obtain ⟨i,hi,hp⟩:=List.mem_flatMap.mp h
 obtain ⟨j,hj,rfl⟩:=List.mem_map.mp hp
 have:=List.mem_range.mp hi
 have:=List.mem_range.mp hj
 dsimp only
 omega
noncomputable def Zb4 (n i:Nat):List (Nat × Nat):=(List.range i).flatMap fun i=>(List.range (n - (i + 1))).map fun j=>(i,i + 1 + j)
theorem Zeq (n:Nat):∀ i,(Zb4 n i).length ≤ i * n
 | 0=>by simp [Zb4]
 | i + 1=>by
  have:=Zeq n i
  unfold Zb4 at this ⊢
  rw [List.range_succ,List.flatMap_append,List.length_append]
  simp only [List.flatMap_cons,List.flatMap_nil,List.append_nil,List.length_map,List.length_range]
  have e:(i + 1) * n = i * n + n:=by rw [Nat.succ_mul]
  omega
theorem Zf7 (n i:Nat):Zb4 n (i + 1) = Zb4 n i ++ (List.range (n - (i + 1))).map fun j=>(i,i + 1 + j):=by
 unfold Zb4; rw [List.range_succ,List.flatMap_append]; simp
theorem Zjw (n:Nat) (hn:n ≤ 1000):Told Wt [.int n] (.list ((Zdw n).map ptD)):=by
 refine We rfl <| Wv Zfu <| Zge (ds:=Zcw 0 n) (fun i δ=>∃ z1 z2,δ = [some (.fz (.int n)),some (.nd (((Zb4 n i).map ptD).map OT.fz)),z1,z2]) (Zfk (Zf Za Zk) (by omega)) ⟨_,_,rfl⟩ (fun i d δ hd h=>?_) fun δ' h=>?_
 ·obtain ⟨z1,z2,rfl⟩:=h
  obtain ⟨hi,rfl⟩:=Zap hd
  rw [Int.zero_add]
  have ln:=Zeq n i
  have l2:i * n ≤ 999 * 1000:=Nat.mul_le_mul (by omega) hn
  refine Zj6 (ds:=Zcw ((i + 1:Nat):Int) (n - (i + 1))) (fun j δ=>∃ z,δ = [some (.fz (.int n)),some (.nd (((Zb4 n i ++ (List.range j).map fun j=>(i,i + 1 + j)).map ptD).map OT.fz)),some (.fz (.int i)),z]) rfl (Zt0 (m:=i + 1) (Zf (EvV.cast (Jw Za Yr) rfl) (Zf Za Zk)) (by omega) (by omega)) ⟨z2,by rw [List.range_zero,List.map_nil,List.append_nil]; rfl⟩ (fun j d δ hd h=>?_) fun δ' h=>?_
  ·obtain ⟨z,rfl⟩:=h
   obtain ⟨hj,rfl⟩:=Zap hd
   refine ⟨_,_,rfl,.inl (Zkw (Zow (Zf Za (Zf Za Zk)) (show 2 ≤ 1000 by decide)) rfl (by rw [List.length_map,List.length_map,List.length_append,List.length_map,List.length_range]; omega)),some (.fz (.int (((i + 1:Nat):Int) + j))),?_⟩
   rw [List.range_succ]
   simp only [List.map_append,List.append_assoc]
   rfl
  ·obtain ⟨z,rfl⟩:=h
   rw [Jv,← Zf7]
   exact ⟨_,_,rfl⟩
 ·obtain ⟨z1,z2,rfl⟩:=h
  rw [Jv]
  exact Z0e rfl (by rw [OT.data_nd,OT.map_fz]; rfl)
end My
namespace My
open PySem L2 PySem.Spec
noncomputable def Zab:FS :=
 (Zz (W0 (tV (Zb gLt (Zd 1) (Zas Zb7 (Ze (Zd 0) Zn))))
  (wE (Yx gIx (Zd 0) (Zd 1)) Za1)
  fNx)
  (wE (fC (.int 0)) Za1))
noncomputable def Yc:FD:=J8 2 2 Zab
noncomputable def Zeg:FS :=
 (Zz (W0 (tV (Zb gEq (Zb Za2 (Zb Zad (Zd 0) (fC (.int 7))) (fC (.int 8))) (fC (.int 3))))
  (wE (Zb Jq (Zb Jq (Zd 2) (fC (.int 1))) (Zb Za2 (Zb Zad (Zd 0) (fC (.int 56))) (Zb gSb (Zd 3) (Zd 2)))) Za1)
  fNx)
  (wE (Zb Jq (Zd 1) (Zb Za2 (Zd 0) (Zb gSb (Zb Jq (Zd 2) (fC (.int 1))) (Zd 1)))) Za1))
noncomputable def Zpt:FD:=J8 4 4 Zeg
noncomputable def Zd9:FS :=
 (Zz (wE (Zb Za2 (Zb Zfd (Zb Jq (Zb Jq (Zb Za2 (Zd 0) (fC (.int 2147483629))) (Zb Zfd (fC (.int 9973)) (Zd 1))) (fC (.int 5))) (fC (.int 48271))) (fC (.int 2147483647))) (Jh 2))
  (Zz (wE (Zb Za2 (Zb Zfd (Zd 2) (Zd 2)) (fC (.int 2147483587))) (Jh 2))
  (wE (Zb Zad (Zb Za2 (Zb Zfd (Zb Jq (Zd 2) (Zb Zfd (fC (.int 7919)) (Zd 1))) (fC (.int 16807))) (fC (.int 2147483563))) (fC (.int 8))) Za1)))
noncomputable def Ze0:FD:=J8 2 3 Zd9
noncomputable def Zcp:FS :=
 (Zz (wE (Zd0 Zn) (Jf 2))
  (Zz (wE (Zd 0) (Jh 3))
  (Zz (Zaf (iRa (Ze (Zd 1) Zn)) (gNm 4)
  (Zz (wE (Yh Ze0 (Ze (Zd 0) (Ze (Zd 4) Zn))) (Jh 5))
  (Zz (W0 (tV (Zb gGe (Zd 0) (Zb Zq0 (fC (.int 10)) (fC (.int 18)))))
  (wE (Zb Za2 (Zd 3) (fC (.int 720720))) (Jh 5))
  fNx)
  (Zz (wE (Zb Zad (Zd 3) (fC (.int 720720))) (Jh 3))
  (Yi 2 (Zd 5))))))
  (Zb8 2))))
noncomputable def Zj5:FD:=J8 2 6 Zcp
noncomputable def Wi (p:List Int):PyData:=.list (p.map PyData.int)
theorem Zqw {p:List Int} {i:Int} (h0:0 ≤ i) (h1:i < p.length):atI (p.map PyData.int) i = some (.int (p.getD i.toNat 0)):=by
 rw [Zj7 h0,List.getElem?_map,List.getElem?_eq_getElem (by omega)]
 simp [List.getD_eq_getElem?_getD,List.getElem?_eq_getElem (show i.toNat < p.length by omega)]
theorem Za9 {a b:FE} {δ:Zc} {p:List Int} {i:Int} (ha:EvV a δ (Wi p)) (hb:EvV b δ (.int i)) (h0:0 ≤ i) (h1:i < p.length):EvV (Yx gIx a b) δ (.int (p.getD i.toNat 0)):=Zdj ha hb (Zqw h0 h1)
theorem Zfx {a:FE} {δ:Zc} {p:List Int} (ha:EvV a δ (Wi p)):EvV (Zas Zb7 (Ze a Zn)) δ (.int p.length):=by
 have:=Za3 (ds:=p.map PyData.int) ha
 rwa [List.length_map] at this
theorem Z48:Zq0 (.int 10) (.int 18) = some (.int 1000000000000000000):=rfl
theorem Zld (ns:List Int) {k:Int} (h0:0 ≤ k):∃ c,Yc [Wi ns,.int k] = .ok (.fz (.int c)):=by
 by_cases c:k < ns.length
 ·exact ⟨_,Told.int <| We rfl <| Zkc (Zpj (Zd7 (Zns Za (Zfx Za) (decide_eq_true c))) (Zak (Za9 Za Za h0 c)))⟩
 ·exact ⟨_,Told.int <| We rfl <| Wv (Yl (Zd7 (Zns Za (Zfx Za) (decide_eq_false c))) rfl) (Zak Yr)⟩
theorem Zhj {i:Nat} {e:FE} {δ:Zc} {vs:List Int} {v:Int} (h:EvV e δ (.int v)) (hi:δ[i]? = some (some (.nd (vs.map fun v=>.fz (.int v))))) (hl:vs.length ≤ 1000000):Yi i e δ = .nx (δ.set i (some (.nd ((vs ++ [v]).map fun v=>.fz (.int v))))):=by
 rw [Zkw h hi (by rw [List.length_map]; exact hl),List.map_append]; rfl
theorem Zk5 (vs:List Int):(OT.nd (vs.map fun v=>OT.fz (.int v))).data = Wi vs:=by rw [OT.data_nd,Zdf]; rfl
end My
namespace L2
open PySem PySem.Spec PyProof.Rows
variable {G:PySem.W.Frag}
section
variable {X:Cx} {io:List Nat} {p c:Bool} {e a b:Expr} {es:List Expr} {m mj:MEt} {pos apos cpos px sp kp:Pos} {i:Nat} {x:Str} {fa fb:FE} {st:Stmt}
noncomputable def Zkn (i:Nat) (mj m:MEt):MSt:=fun D δ=>match δ[i]? with
 | some (some (.nd ts))=>mj δ fun n _=>match n.data with
  | .int k=>match ixN ts.length k with
   | some j=>match ts[j]? with
    | some (.nd us)=>m δ fun r _=>us.length < sizeLine∧D.nx (δ.set i (some (.nd (ts.set j (.nd (us ++ [.fz r.data]))))))
    | _=>False
   | none=>False
  | _=>False
 | _=>False
theorem Zkq (i:Nat) (hj:ME X io true c a mj) (he:ME X io true true e m) (hPa:Zgp a:=by exact fun _ _=>rfl) (hN:X.N[i]? = some x:=by rfl) (hv:Vis X.env.scope x:=by first | exact Or.inl rfl | exact Or.inr (Or.inl rfl) | exact Or.inr (Or.inr rfl)) (hd:(x == ("__debug__" : Str)) = false:=by decide)
  (hcd:(x == ("__classdict__" : Str)) = false:=by decide)
  (hbase:attributeBase (.Subscript (.Name x px) a sp) "append" X.env (eval (.Subscript (.Name x px) a sp) X.env) = eval (.Subscript (.Name x px) a sp) X.env:=by rfl)
  (hfew:((backTo cpos (starEach [e] X.env)).all (fun x=>!x.1) && (backToKw cpos (keywordEach [] X.env)).all (fun x=>x.1.isSome)
   && decide ([e].length + ([]:List Keyword).length + (if ([]:List Keyword).isEmpty then 0 else 1) < 30)) = true:=by rfl)
  (hline:(apos.endLine == cpos.line) = true:=by rfl) (hs:starEach [e] X.env = (false,eval e X.env) :: starEach [] X.env:=by rfl) (hplain:(backTo cpos (starEach [] X.env)).any (·.1) = false:=by rfl)
  (hsw:swapsWith (.Call (.Attribute (.Subscript (.Name x px) a sp) "append" apos) [e] [] cpos) none pos.line X.env = pure false:=by rfl) :
  MS X io (.Expr (.Call (.Attribute (.Subscript (.Name x px) a sp) "append" apos) [e] [] cpos) pos) (Zkn i mj m):=by
 obtain ⟨_,A,s⟩:=he
 obtain ⟨_,B,sj⟩:=hj
 refine ⟨_,Zc3 (Zmb PySem.F.plainAttrs_list PySem.F.slot_list_append PySem.F.type_list_append Zck (Zwb (Zr0 rfl) (pv i hN hv hd hcd) B hPa) (Jx A Zdn hs) hbase hfew hline hs hplain) hsw,fun C H σ δ fp ex D D' R h E=>?_⟩
 unfold Zkn at h
 split at h
 case h_2=>exact h.elim
 rename_i ts hi
 obtain ⟨a',_,_,hv0,_⟩:=R.ownNd hi
 refine ⟨_,hv0,?_⟩
 refine sj.pureAfter R h fun H2 w n R2 s2 q2 h2=>?_
 obtain ⟨k,rfl,h2⟩:=q2.intInv h2
 split at h2
 case h_2=>exact h2.elim
 rename_i j hj
 split at h2
 case h_2=>exact h2.elim
 rename_i us hus
 obtain ⟨a2,xs2,bs2,hv2,hx2,o2,hf2⟩:=R2.ownNd hi
 rw [hv0] at hv2
 cases hv2
 obtain ⟨xr,cr,hxr,orow,_⟩:=o2.get hus
 obtain ⟨b',ws0,rfl,hb0⟩:∃ b' ws0,xr = V.ref b'∧H2 b' = some (.lst ws0):=by
  cases orow with
  | nd h r=>exact ⟨_,_,rfl,h⟩
 refine ⟨a',xs2,k,V.ref b',rfl,rfl,.inl (.inl hx2),?_,?_⟩
 ·unfold atI
  rw [o2.length,hj]
  exact hxr
 refine ⟨.inl ⟨rfl,ws0,.inl (.inl hb0)⟩,?_⟩
 refine s.pureAfter R2 h2 fun H3 v r R3 s3 q h3=>?_
 obtain ⟨a3,xs3,bs3,hv3,hx3,o3,hf3⟩:=R3.ownNd hi
 rw [hv0] at hv3
 cases hv3
 have exs:xs3 = xs2:=by
  have:=s3 _ _ hx2
  rw [hx3] at this
  cases this; rfl
 subst exs
 obtain ⟨xr3,cr3,hxr3,orow3,hsub3⟩:=o3.get hus
 rw [hxr] at hxr3
 cases hxr3
 have nd3:=R3.nd i
 rw [hf3] at nd3
 have hn3:=List.nodup_cons.mp nd3
 cases orow3 with
 | nd hb r3 =>
  rename_i ws3 bs4
  have hbm:b' ∈ bs3:=hsub3.subset (.head _)
  have hbf:b' ∈ fp i:=by rw [hf3]; exact .tail _ hbm
  have hLb:¬ Lf C fp ex b':=fun l=>l.1 ⟨i,hbf⟩
  have q':=q.wide (L':=Lf C fp ex) fun a l _=>l rfl
  obtain ⟨as',oo,ss,_⟩:=Owns.deep (ws':=ws3 ++ [v]) (us':=us ++ [.fz r.data]) hb hLb (fun cs hcs=>⟨cs,by have:=hcs.snoc (.fz q'); simpa using this,List.Sublist.refl _⟩) o3 hn3.2 hxr hus
  refine ⟨b',ws3,v,rfl,rfl,hb,by rw [r3.length]; exact h3.1,?_⟩
  have hba:a' ≠ b':=fun z=>hn3.1 (z ▸ hbm)
  have sub:∀ a,a ∈ a' :: as'→a ∈ fp i:=fun a m=>by
   rw [hf3]
   rcases List.mem_cons.mp m with rfl | m
   ·exact .head _
   ·exact .tail _ (ss.subset m)
  have kp:∀ b o,H3 b = some o→b ≠ b'→upd H3 b' (.lst (ws3 ++ [v])) b = some o:=fun b o e n=>by rw [Zj n]; exact e
  have lw:∀ a,Lf C fp ex a→upd H3 b' (.lst (ws3 ++ [v])) a ≠ none→Lf C (fpu fp i (a' :: as')) (exu ex []) a:=fun a l _=>⟨fun z=>by
   rcases z.of_u with z | ⟨j,_,z⟩
   ·exact l.1 ⟨i,sub a z⟩
   ·exact l.1 ⟨j,z⟩,fun z=>l.2.1 (Zae.mp z),l.2.2⟩
  obtain ⟨R4,S4⟩:=R3.change (new:=[]) (as':=a' :: as') (t':=.nd (ts.set j (.nd (us ++ [.fz r.data])))) (H':=upd H3 b' (.lst (ws3 ++ [v]))) hi hv0 (fun b o e nb=>kp b o e fun z=>nb (by rw [z]; exact hbf)) (fun b e=>by
   by_cases q:b = b'
   ·subst q; rw [Zm] at e; cases e
   ·rwa [Zj q] at e) (.nd (by rw [Zj hba]; exact hx3) (oo.wide lw)) (List.nodup_cons.mpr ⟨fun m=>hn3.1 (ss.subset m),hn3.2.sublist ss⟩) (fun a m=>.inl (sub a m)) (fun a m=>nomatch m)
  have k1:Kp H fp H3 fp:=⟨fun b o e _=>s3 _ _ (s2 _ _ e),fun z=>(nomatch z),fun a z=>.inl z,fun b e=>s2.al b (s3.al b e)⟩
  exact E.nx _ σ _ _ (R4.drop fun a z=>.inl z) (k1.trans S4.kp) h3.2
noncomputable def Zf2 (i:Nat) (j e:FE):FS:=fun δ=>match δ[i]? with
 | some (some (.nd ts))=>wE j (fun n _=>match n.data with
  | .int k=>match ixN ts.length k with
   | some j=>match ts[j]? with
    | some (.nd us)=>wE e (fun r _=>if us.length < sizeLine then .nx (δ.set i (some (.nd (ts.set j (.nd (us ++ [.fz r.data])))))) else .bad) δ
    | _=>.bad
   | none=>.bad
  | _=>.bad) δ
 | _=>.bad
theorem Zkj (h:MS X io st (Zkn i (o2 fb) (o2 fa))):MS X io st (oS (Zf2 i fb fa)):=h.weak fun D δ h=>by
 unfold oS Zf2 at h; unfold Zkn
 split at h
 case h_2=>exact h.elim
 rename_i q; (try rw [q]); (try dsimp only)
 refine (Zkm h).imp fun n δ' z=>?_
 split at z
 case h_2=>exact z.elim
 rename_i k q1; (try rw [q1]); (try dsimp only)
 split at z
 case h_2=>exact z.elim
 rename_i j q2; (try rw [q2]); (try dsimp only)
 split at z
 case h_2=>exact z.elim
 rename_i us q3; (try rw [q3]); (try dsimp only)
 exact (Zkm z).imp fun r δ' z=>J7 z
end
end L2
namespace L2
open PySem PySem.Spec PyProof.Rows
variable {G:PySem.W.Frag}
section
variable {X:Cx} {io:List Nat} {p c p' c':Bool} {a b e:Expr} {ma mb m:MEt} {pos pp:Pos} {x:Str}
theorem Z1d {n:Int} {t:Tok} (hg:Gl X x) (hm:X.mg x = some (.int n t)) (hdb:(x == ("__debug__" : Str)) = false:=by decide):ME X io true true (.Name x pos) (mC (.int n)) :=
 ⟨_,Znv (v:=.int n) hg hm ⟨t,rfl⟩ hdb,fun C H σ δ fp ex K Q R h k=>k H (.int n) _ δ fp [] (.fz R (.refl _ _ _ _) (.int n)) h⟩
noncomputable def Zs1 (ma mb:MEt):MEt:=fun δ K=>ma δ fun rk _=>∃ k:Int,rk.data = .int k∧mb δ fun rv _=>K (.dc false [.inl (.inl k)] [rv.data]) δ
theorem Zuz (ha:ME X io true c a ma) (hb:ME X io true true b mb):ME X io true true (.Dict [some a] [b] pos) (Zs1 ma mb):=by
 obtain ⟨_,A,sa⟩:=ha
 obtain ⟨_,B,sb⟩:=hb
 refine ⟨_,Zwo (Zrb A B Zvp) rfl rfl (fun z=>nomatch z) (show 1 ≤ 15 by decide),fun C H σ δ fp ex K Q R h kk q hq=>?_⟩
 have s0:Same H (upd H q (.dK [])):=Z2 hq _
 have R0:Rel C io (upd H q (.dK [])) σ δ fp (exu ex [q]):=R.made s0 fun a m=>by
  rw [List.mem_singleton.mp m]
  exact ⟨hq,by rw [Zm]; exact Option.some_ne_none _⟩
 refine sa.pureAfter R0 h fun H1 v r R1 s1 q1 h1=>?_
 obtain ⟨k,hk,h1⟩:=h1
 rw [hk] at q1
 have hv:v = .int k:=by cases q1; rfl
 refine sb.pureAfter R1 h1 fun H2 v2 r2 R2 s2 q2 h2=>?_
 have e2:H2 q = some (.dK []):=s2 _ _ (s1 _ _ Zm)
 refine ⟨e2,[(.inl k,v2)],by rw [hv]; rfl,show 1 ≤ 15 by decide,?_⟩
 have keep:∀ b o,H2 b = some o→b ≠ q→upd H2 q (.dK (Zds [] [(.inl k,v2)])) b = some o:=fun b o e n=>by rw [Zj n]; exact e
 have sm:Same H (upd H2 q (.dK (Zds [] [(.inl k,v2)]))):=fun b o e=>keep b o (s2 _ _ (s1 _ _ (s0 _ _ e))) fun z=>by rw [z,hq] at e; cases e
 have d3:Da X.K (upd H2 q (.dK (Zds [] [(.inl k,v2)]))) (fun a=>((true = true→Lf C fp ex a)∨H a = none)∧a ∉ [q]) v2 r2.data:=q2.frame (fun a xs l e=>by
  have l:=l rfl
  have n:a ≠ q:=fun z=>l.2.1 (.inr (List.mem_singleton.mpr z))
  exact ⟨⟨.inl fun _=>⟨l.1,fun z=>l.2.1 (.inl z),l.2.2⟩,fun m=>n (List.mem_singleton.mp m)⟩,e.imp (fun e=>keep a _ e n) fun z=>z.imp fun o e=>keep a _ e n⟩) fun a xs e=>keep a _ e fun z=>by
   rw [z,e2] at e
   cases xs <;> cases e
 exact kk _ _ _ δ fp [q] (RE.tree (H1:=H) R R (Stp.same (Same.refl H) fun _ z=>z) sm (Zb3 hq) (Zdv q) (.dc (o:=.dK [(.inl k,v2)]) Zm ⟨rfl,rfl,rfl⟩ (.cons d3 .nil))) h2
noncomputable def Zsh (a b:FE):FE:=fun δ=>(a δ).bind fun p=>match p.1.data with
 | .int k=>(b δ).bind fun q=>some (.dc false [.inl (.inl k)] [q.1.data],δ)
 | _=>none
theorem Zr5 {fa fb:FE} (h:ME X io p c e (Zs1 (o2 fa) (o2 fb))):ME X io p c e (o2 (Zsh fa fb)):=h.weak fun δ K z=>by
 obtain ⟨r,δ',h,k⟩:=z
 obtain ⟨⟨x,δ1⟩,h1,h⟩:=bs h
 dsimp only at h
 split at h
 case h_2=>cases h
 rename_i n hn
 obtain ⟨⟨y,δ2⟩,h2,h⟩:=bs h
 cases h
 exact ⟨x,δ1,h1,n,hn,y,δ2,h2,k⟩
end
end L2
namespace L2
open PySem PySem.Spec PyProof.Rows
variable {G:PySem.W.Frag}
noncomputable def Zgy:List PyData→Option (List Str)
 | []=>some []
 | .str x :: ds=>(Zgy ds).map (x :: ·)
 | _ :: _=>none
theorem Zif:∀ (ts:List Str),Zgy (ts.map PyData.str) = some ts
 | []=>rfl
 | t :: ts=>by rw [List.map_cons,Zgy,Zif ts]; rfl
theorem Das.strs {H:Hp} {L:Addr→Prop}:∀ {xs:List V} {ds:List PyData} {ts:List Str},Das G H L xs ds→Zgy ds = some ts→xs = ts.map V.str
 | _,[],_,.nil,h=>by cases h; rfl
 | _,d :: ds,_,.cons h r,e=>by
  cases d with
  | str x =>
   rw [Zgy] at e
   obtain ⟨ts,e1,rfl⟩:=Option.map_eq_some_iff.mp e
   cases h
   rw [r.strs e1]; rfl
  | _=>cases e
theorem Ze9:∀ {ts:List Str} {us:List Value},Vals (ts.map V.str) us→∃ l:List (Str × Tok),us = strValues l∧l.map (·.1) = ts
 | [],_,r=>by cases r; exact ⟨[],rfl,rfl⟩
 | t :: ts,_,r=>by
  rw [List.map_cons] at r
  cases r with
  | cons h r =>
   obtain ⟨k,rfl⟩:=h
   obtain ⟨l,rfl,rfl⟩:=Ze9 r
   exact ⟨(t,k) :: l,rfl,rfl⟩
section
variable {X:Cx} {K:PySem.W.Frag}
noncomputable def rJoin (K:PySem.W.Frag):V→List V→Hp→VK→Prop:=fun x vs H Q=>∃ sep b ts,x = .str sep∧vs = [.ref b]∧SqL K H b (ts.map V.str)∧JoinOk sep ts = true∧Q (.str (PySem.Txt.join sep ts)) H
theorem Ztz (hK:X.K = K):MtR X "str.join" (rJoin K):=by
 intro pins s σ H x vs v us Q I rx rv h
 obtain ⟨sep,b,ts,rfl,rfl,hb,ok,q⟩:=h
 obtain ⟨t,rfl⟩:=rx
 obtain ⟨u,rfl,ru⟩:=rv.one
 cases ru
 obtain ⟨its,n,r,hl,o,e1,e2,e3,e4⟩:=I.lstQ hK hb
 obtain ⟨l,rfl,hl2⟩:=Ze9 r
 exact SC.join (l:=l) (texts:=ts) ⟨o,e1,e2,n,e4⟩ hl2 ok fun t' k=>⟨.str _,H,I.tok k,⟨t',rfl⟩,q⟩
end
section
variable {X:Cx} {io:List Nat} {p c p' c':Bool} {o e:Expr} {es:List Expr} {mo:MEt} {mr:MAt} {apos cpos:Pos} {r:V→List V→Hp→VK→Prop} {name:Str} {id:String}
noncomputable def PMs (G:PySem.W.Frag) (r:V→List V→Hp→VK→Prop) (g:Str→List PyData→Option PyData):Prop:=∀ (H:Hp) (L:Addr→Prop) (z:Str) (xs:List V) (ds:List PyData) (d:PyData) (Q:VK),Das G H L xs ds→g z ds = some d→(∀ v,ScD v d→Q v H)→r (.str z) xs H Q
noncomputable def Z4d (g:Str→List PyData→Option PyData) (mo:MEt) (mr:MAt):MEt:=fun δ K=>mo δ fun ro δ1=>∃ z,ro.data = .str z∧mr δ1 fun rs δ2=>∃ d,g z (OT.datas rs) = some d∧K (.fz d) δ2
theorem Da.strInv {H:Hp} {L:Addr→Prop} {v:V} {z:Str} (h:Da G H L v (.str z)):v = .str z:=by cases h; rfl
theorem Z9y {g:Str→List PyData→Option PyData} {to:TE} {t:TA} (P:PMs G r g) (so:SE G io p c to mo) (sa:SA G io p' c' t mr):SE G io (p && p') true (tBM G "str" r to t) (Z4d g mo mr):=fun C H σ δ fp ex K Q R h kk =>
 so C H σ δ fp ex _ _ R h fun H1 v ro δ1 fp1 new1 r1 h1=>by
  obtain ⟨z,hz,h1⟩:=h1
  have q:=r1.da R
  rw [hz] at q
  cases q.strInv
  exact ⟨rfl,sa C H1 σ δ1 fp1 ex _ _ r1.base h1 fun H2 vs rs δ2 fp2 new2 r2 h2=>by
   obtain ⟨d,e,h2⟩:=h2
   exact P H2 _ z vs _ d _ (r2.das r1.base) e fun v sc=>kk H2 v _ δ2 fp2 [] (.fz r2.base (r1.stp.trans r2.stp) sc.da) h2⟩
theorem Ztr {g:Str→List PyData→Option PyData} (P:PMs X.K r g) (slot:Slot "str" name id) (hty:typeOf (.builtin id) = pure (.type "method_descriptor")) (hm:MtR X id r) (ho:ME X io p c o mo) (ha:MA X io p' c' (e :: es) mr)
  (hbase:attributeBase o name X.env (eval o X.env) = eval o X.env:=by rfl)
  (hfew:((backTo cpos (starEach (e :: es) X.env)).all (fun x=>!x.1) && (backToKw cpos (keywordEach [] X.env)).all (fun x=>x.1.isSome)
   && decide ((e :: es).length + ([]:List Keyword).length + (if ([]:List Keyword).isEmpty then 0 else 1) < 30)) = true:=by rfl)
  (hline:(apos.endLine == cpos.line) = true:=by rfl) (hs:starEach (e :: es) X.env = (false,eval e X.env) :: starEach es X.env:=by rfl) (hplain:(backTo cpos (starEach es X.env)).any (·.1) = false:=by rfl) :
  ME X io (p && p') true (.Call (.Attribute o name apos) (e :: es) [] cpos) (Z4d g mo mr):=by
 obtain ⟨_,O,so⟩:=ho
 obtain ⟨_,A,sa⟩:=ha
 exact ⟨_,Zmb PySem.F.plainAttrs_str slot hty hm O A hbase hfew hline hs hplain,Z9y P so sa⟩
noncomputable def Zl2:Str→List PyData→Option PyData:=fun z ds=>match ds with
 | [.list es]=>(Zgy es).bind fun ts=>if JoinOk z ts = true then some (.str (PySem.Txt.join z ts)) else none
 | _=>none
theorem Zxi:PMs G (rJoin G) Zl2:=fun H L z xs ds d Q hx h kk=>by
 unfold Zl2 at h
 split at h
 case h_2=>cases h
 rename_i es
 obtain ⟨ts,h1,h⟩:=bs h
 split at h
 case isFalse=>cases h
 rename_i ok
 cases h
 cases hx with
 | cons q r0 =>
  cases r0
  cases q with
  | lst l e r=>exact ⟨z,_,ts,rfl,rfl,.inl (r.strs h1 ▸ e),ok,kk _ (.str _)⟩
  | scr ks =>
   rename_i a ns
   cases ns with
   | nil=>cases h1; exact ⟨z,_,[],rfl,rfl,ks.sq,ok,kk _ (.str _)⟩
   | cons n ns=>cases h1
noncomputable def Zvc (g:Str→List PyData→Option PyData) (o:FE) (a:FA):FE:=fun δ=>(o δ).bind fun p=>match p.1.data with
 | .str z=>(a p.2).bind fun q=>(g z (OT.datas q.1)).bind fun d=>some (.fz d,q.2)
 | _=>none
variable {fo:FE} {ra:FA}
theorem Zmx {g:Str→List PyData→Option PyData} (h:ME X io p c e (Z4d g (o2 fo) (o2 ra))):ME X io p c e (o2 (Zvc g fo ra)):=h.weak fun δ K z=>by
 obtain ⟨r,δ',h,k⟩:=z
 obtain ⟨⟨x,δ1⟩,h1,h⟩:=bs h
 dsimp only at h
 split at h
 case h_2=>cases h
 rename_i z hz
 obtain ⟨⟨y,δ2⟩,h2,h⟩:=bs h
 obtain ⟨d,h3,h⟩:=bs h
 cases h
 exact ⟨x,δ1,h1,z,hz,y,δ2,h2,_,h3,k⟩
end
end L2
namespace L2
open PySem PySem.Spec PyProof.Rows
variable {G:PySem.W.Frag}
section
variable {X:Cx} {io:List Nat} {p c:Bool} {e tg:Expr} {m:MEt}
noncomputable def Zdx (z:Str):List PyData:=z.cps.toList.map fun c=>.str ⟨#[c]⟩
noncomputable def Zgw:List PyData→Option PyData:=fun ds=>match ds with | [.str z]=>if z.length ≤ sizeLine then some (.int z.length) else none | _=>none
noncomputable def Z1o:List PyData→(PyData→Prop)→Prop:=fun ds k=>∃ d,Zgw ds = some d∧k d
theorem Ziq:∀ ds r k,Zgw ds = some r→k r→Z1o ds k:=fun ds r k h hk=>⟨r,h,hk⟩
theorem Zeu:PNs G (fun xs H Q=>∃ z,xs = [.str z]∧z.length ≤ sizeLine∧Q (.int z.length) H) Z1o:=fun H L xs ds k Q hx h kk=>by
 obtain ⟨d,h,hk⟩:=h
 unfold Zgw at h
 split at h
 case h_2=>cases h
 split at h
 case isFalse=>cases h
 rename_i z hz
 cases h
 cases hx with
 | cons q r0 =>
  cases r0
  cases q.strInv
  exact ⟨z,rfl,hz,kk _ _ (.int _) hk⟩
end
end L2
namespace L2
open PySem PySem.Spec PyProof.Rows
variable {G:PySem.W.Frag}
section
variable {X:Cx}
noncomputable def Z8f (neg:Bool):R2:=fun y x H Q=>∃ a o,x = .ref a∧DGet H a y o∧Q (.bl (if neg then !o.isSome else o.isSome)) H
theorem Zpn (hu:X.A.units + 64 < cLine):OpR X (compareOp .NotIn) (Z8f true):=by
 intro pins s σ H y x iv u Q I ry rx h
 obtain ⟨a,o,rfl,g,q⟩:=h
 cases rx
 exact Zt3 (hu1 hu) I g ry fun s3 I3=>⟨.bl (!o.isSome),H,I3,rfl,q⟩
noncomputable def Zp8 (neg:Bool):PyData→PyData→Option PyData:=fun e d=>match d with
 | .dict ((.none,.bool t) :: kvs)=>(Zhl e).bind fun k=>if Zmn k = t then some (.bool (if neg then !(Zff k kvs).isSome else (Zff k kvs).isSome)) else none
 | _=>none
noncomputable def Z6s (neg:Bool):PyData→PyData→(PyData→Prop)→Prop:=fun e d k=>∃ r,Zp8 neg e d = some r∧k r
theorem Z38 {neg:Bool}:ByS (Zp8 neg) (Z6s neg):=fun _ _ r _ h hk=>⟨r,h,hk⟩
theorem Z00 {neg:Bool}:P2s G (Z8f neg) (Z6s neg):=fun H L y x e d k Q hy hx h kk=>by
 obtain ⟨r,h,hk⟩:=h
 unfold Zp8 at h
 split at h
 case h_2=>cases h
 rename_i t kvs
 obtain ⟨ky,h1,h⟩:=bs h
 by_cases ht:Zmn ky = t
 ·rw [if_pos ht] at h
  cases h
  obtain ⟨a,o,rfl,_,g,R⟩:=hx.dget hy h1 ht
  have eo:o.isSome = (Zff ky kvs).isSome:=by
   rcases R with ⟨v,d,rfl,hd,_⟩ | ⟨rfl,hd⟩ <;> rw [hd] <;> rfl
  exact ⟨a,o,rfl,g,by rw [eo]; exact kk _ _ (.bl _) hk⟩
 ·rw [if_neg ht] at h; cases h
noncomputable def Zn1:List PyData→Option PyData:=fun ds=>match ds with | [.dict ((.none,.bool false) :: kvs)]=>some (.int kvs.length) | _=>none
noncomputable def Z0a:List PyData→(PyData→Prop)→Prop:=fun ds k=>∃ d,Zn1 ds = some d∧k d
theorem Zh8:∀ ds r k,Zn1 ds = some r→k r→Z0a ds k:=fun ds r k h hk=>⟨r,h,hk⟩
noncomputable def Zy6:List V→Hp→VK→Prop:=fun xs H Q=>∃ a kvs,xs = [.ref a]∧Rd H a (.dK kvs)∧Q (.int kvs.length) H
theorem Zbb:Zcn X (.builtin "len") Zy6:=by
 intro pins s σ H xs us Q I rv h
 obtain ⟨a,kvs,rfl,e,q⟩:=h
 obtain ⟨u,rfl,ru⟩:=rv.one
 cases ru
 obtain ⟨z,hd,vs,rel,dd⟩:=Zou I.hok e
 refine call_len_dict hd dd (by rw [← rel.length]; rw [sizeLine_eq] at z; omega) ?_
 exact ⟨.int kvs.length,H,I.tok _,⟨_,by rw [rel.length]⟩,q⟩
theorem Ze4:PNs G Zy6 Z0a:=fun H L xs ds k Q hx h kk=>by
 obtain ⟨d,h,hk⟩:=h
 unfold Zn1 at h
 split at h
 case h_2=>cases h
 rename_i kvs
 cases h
 cases hx with
 | cons q r0 =>
  cases r0
  generalize ed:PyData.dict ((.none,.bool false) :: kvs) = d at q
  cases q with
  | dic l r dk qs =>
   rename_i a o t' ks xs ds
   unfold dcD at ed
   injection ed with ed
   injection ed with e1 e2
   injection e1 with _ e1
   injection e1 with e1
   subst e1 e2
   cases o with
   | lst _=>exact dk.elim
   | dT _=>exact nomatch dk.1
   | dK kv =>
    obtain ⟨_,e1,e2⟩:=dk
    subst e1 e2
    refine ⟨a,kv,rfl,r,?_⟩
    have hl:kv.length = (((kv.map fun p=>(Sum.inl p.1:KY)).map kyD).zip ds).length:=by
     have:=qs.length
     rw [List.length_map] at this
     rw [List.length_zip,List.length_map,List.length_map,← this,Nat.min_self]
    rw [hl]
    exact kk _ _ (.int _) hk
  | exc _ _ _=>unfold exD at ed; cases ed
  | fn _=>unfold fnD at ed; cases ed
  | _=>cases ed
noncomputable def Ztf:V→List V→Hp→VK→Prop:=fun x vs H Q=>∃ z y,x = .str z∧vs = [.str y]∧Q (.int (Builtin.Str.occurrences z y 0 z.length (z.length + 1)).length) H
theorem Zkb:MtR X "str.count" Ztf:=by
 intro pins s σ H x vs v us Q I rx rv h
 obtain ⟨z,y,rfl,rfl,q⟩:=h
 obtain ⟨t,rfl⟩:=rx
 obtain ⟨w,rfl,ru⟩:=rv.one
 obtain ⟨u,rfl⟩:=ru
 exact call_gives F.slot_str_count (typeIs_str _ _ _) F.entry_str_count (F.args_str_count_2 _ _) (gives_str_count z y t u) ⟨.int _,H,I.tok _,⟨_,rfl⟩,q⟩
noncomputable def Zdl:Str→List PyData→Option PyData:=fun z ds=>match ds with | [.str y]=>some (.int (Builtin.Str.occurrences z y 0 z.length (z.length + 1)).length) | _=>none
theorem Zj9:PMs G Ztf Zdl:=fun H L z xs ds d Q hx h kk=>by
 unfold Zdl at h
 split at h
 case h_2=>cases h
 rename_i y
 cases h
 cases hx with
 | cons q r0 =>
  cases r0
  cases q.strInv
  exact ⟨z,y,rfl,rfl,kk _ (.int _)⟩
end
end L2
namespace L2
open PySem PySem.Spec PyProof.Rows
theorem noInt:typeLookup (.type "str") "__int__" = pure none:=by rw [typeLookup_type,builtinLookup_eq_fast]; kernel_rfl
theorem Zo4:typeLookup (.type "str") "__index__" = pure none:=by rw [typeLookup_type,builtinLookup_eq_fast]; kernel_rfl
theorem Znm:typeLookup (.type "str") "__trunc__" = pure none:=by rw [typeLookup_type,builtinLookup_eq_fast]; kernel_rfl
theorem Z2r {α:Type} {M:Model} {A:Around} {Q:α→Shared→Prop} {E:Value→Shared→Prop} {s:Shared} {a b:Sem α} (h:a = b) (k:wpAny M A b Q E s):wpAny M A a Q E s:=h ▸ k
theorem Zjj (t:Tok):Meets (Builtin.«int.__new__» ⟨[.type "int", .str ⟨#[48]⟩ t],[]⟩) (Made.int 0).spec :=
 Meets.of_wp fun prog w A R s hs=>by
  obtain ⟨hp,g,d,tk,os⟩:=s
  have f1:=F.conv_sub_int
  have f2:=F.madeHere_int
  have hT:(⟨hp,g,d,tk,os⟩:Shared).TypeIs (.str ⟨#[48]⟩ t) "str" := rfl
  have f3:=noInt
  have f4:=Zo4
  have f5:=Znm
  repeat (any_goals (first | assumption | wp_step))
  refine Z2r (b:=mkInt 0) (by kernel_rfl) ?_
  repeat (any_goals (first | assumption | wp_step))
  all_goals first | exact ⟨_,rfl,hs⟩ | skip
theorem Zjk (t:Tok):Meets (Builtin.«int.__new__» ⟨[.type "int", .str ⟨#[49]⟩ t],[]⟩) (Made.int 1).spec :=
 Meets.of_wp fun prog w A R s hs=>by
  obtain ⟨hp,g,d,tk,os⟩:=s
  have f1:=F.conv_sub_int
  have f2:=F.madeHere_int
  have hT:(⟨hp,g,d,tk,os⟩:Shared).TypeIs (.str ⟨#[49]⟩ t) "str" := rfl
  have f3:=noInt
  have f4:=Zo4
  have f5:=Znm
  repeat (any_goals (first | assumption | wp_step))
  refine Z2r (b:=mkInt 1) (by kernel_rfl) ?_
  repeat (any_goals (first | assumption | wp_step))
  all_goals first | exact ⟨_,rfl,hs⟩ | skip
noncomputable def Zs2:List V→Hp→VK→Prop:=fun xs H Q=>(xs = [.str ⟨#[48]⟩]∧Q (.int 0) H)∨(xs = [.str ⟨#[49]⟩]∧Q (.int 1) H)
theorem Zl0 {X:Cx}:Zcn X (.type "int") Zs2:=by
 intro pins s σ H xs us Q I rv h
 rcases h with ⟨rfl,q⟩ | ⟨rfl,q⟩
 ·obtain ⟨u,rfl,t,rfl⟩:=rv.one
  exact call_int_1 (Zjj t) (show (Made.int 0).post _ s from ⟨rfl,.int 0,H,I.tok _,⟨_,rfl⟩,q⟩)
 ·obtain ⟨u,rfl,t,rfl⟩:=rv.one
  exact call_int_1 (Zjk t) (show (Made.int 1).post _ s from ⟨rfl,.int 1,H,I.tok _,⟨_,rfl⟩,q⟩)
noncomputable def Zf0:List PyData→Option PyData:=fun ds=>match ds with
 | [.str z]=>if z = ⟨#[48]⟩ then some (.int 0) else if z = ⟨#[49]⟩ then some (.int 1) else none
 | _=>none
noncomputable def Zsg:List PyData→(PyData→Prop)→Prop:=fun ds k=>∃ d,Zf0 ds = some d∧k d
theorem Zwc:∀ ds r k,Zf0 ds = some r→k r→Zsg ds k:=fun ds r k h hk=>⟨r,h,hk⟩
theorem Zqz {G:PySem.W.Frag}:PNs G Zs2 Zsg:=fun H L xs ds k Q hx h kk=>by
 obtain ⟨d,h,hk⟩:=h
 unfold Zf0 at h
 split at h
 case h_2=>cases h
 rename_i z
 cases hx with
 | cons q r0 =>
  cases r0
  cases q.strInv
  split at h
  ·rename_i hz; subst hz; cases h
   exact .inl ⟨rfl,kk _ _ (.int _) hk⟩
  ·split at h
   ·rename_i hz; subst hz; cases h
    exact .inr ⟨rfl,kk _ _ (.int _) hk⟩
   ·cases h
end L2
namespace L2
open PySem PySem.Spec PyProof.Rows
variable {G:PySem.W.Frag}
section
variable {X:Cx} {io:List Nat} {p c:Bool} {a e:Expr} {ma:MEt} {pos p2:Pos}
noncomputable def Yab:V→Option Int→Option Int→Hp→VK→Prop:=fun x lo hi H Q=>∃ z,x = .str z∧z.length ≤ sizeLine∧Q (.str (PySem.Txt.slice z lo hi)) H
theorem Z09:SlR X Yab:=by
 intro pins s σ H x v vl vu lo hi sl Q I rx hs pl pu h
 obtain ⟨z,rfl,hz,q⟩:=h
 obtain ⟨t,rfl⟩:=rx
 have fin:∀ t' k,EP X pins σ Q (.str (PySem.Txt.slice z lo hi) t') { s with toks:=k }:=fun t' k=>⟨.str _,H,I.tok k,⟨t',rfl⟩,q⟩
 obtain ⟨o,e1,e2,e3⟩:=hs
 refine ⟨"str", _,F.slot_str_getitem.lookup,typeIs_str _ _ _,?_⟩
 cases pl with
 | none=>cases pu with
  | none=>exact wpAny_getItem_str_slice (l:=none) (u:=none) (st:=none) ⟨o,e1,e2,e3⟩ rfl (post_val_or_str ⟨Nat.le_trans (PySem.Txt.slice_le z _ _) hz,fin⟩)
  | int j w=>exact wpAny_getItem_str_slice (l:=none) (u:=some (j,w)) (st:=none) ⟨o,e1,e2,e3⟩ rfl (post_val_or_str ⟨Nat.le_trans (PySem.Txt.slice_le z _ _) hz,fin⟩)
 | int i u=>cases pu with
  | none=>exact wpAny_getItem_str_slice (l:=some (i,u)) (u:=none) (st:=none) ⟨o,e1,e2,e3⟩ rfl (post_val_or_str ⟨Nat.le_trans (PySem.Txt.slice_le z _ _) hz,fin⟩)
  | int j w=>exact wpAny_getItem_str_slice (l:=some (i,u)) (u:=some (j,w)) (st:=none) ⟨o,e1,e2,e3⟩ rfl (post_val_or_str ⟨Nat.le_trans (PySem.Txt.slice_le z _ _) hz,fin⟩)
noncomputable def Z75 (m:MEt) (ml mh:MOt):MEt:=fun δ K=>m δ fun r δ1=>ml δ1 fun lo δ2=>mh δ2 fun hi δ3=>∃ z,r.data = .str z∧z.length ≤ sizeLine∧K (.fz (.str (PySem.Txt.slice z lo hi))) δ3
theorem Zyh {lo hi:Option Expr} {ml mh:MOt} (ha:ME X io true c a ma) (hl:MO X io true lo ml) (hh:MO X io true hi mh):ME X io true true (.Subscript a (.Slice lo hi none p2) pos) (Z75 ma ml mh):=by
 obtain ⟨_,A,s⟩:=ha
 obtain ⟨_,B,sl⟩:=hl
 obtain ⟨_,D,sh⟩:=hh
 refine ⟨_,Zku Z09 A B D,?_⟩
 intro C H σ δ fp ex K' Q R h k
 refine s C H σ δ fp ex _ _ R h fun H1 v r δ1 fp1 new r1 h1=>?_
 refine sl C H1 σ δ1 fp1 ex _ _ r1.base h1 fun H2 l δ2 fp2 R2 S2 h2=>?_
 refine sh C H2 σ δ2 fp2 ex _ _ R2 h2 fun H3 u δ3 fp3 R3 S3 h3=>?_
 obtain ⟨z,hz,hl,h3⟩:=h3
 have q:=r1.da R
 rw [hz] at q
 cases q.strInv
 exact ⟨z,rfl,hl,k H3 _ _ δ3 fp3 [] (.fz R3 ((r1.stp.trans S2).trans S3) (.str _)) h3⟩
noncomputable def Zxc (e:FE) (lo hi:FO):FE:=fun δ=>(e δ).bind fun p=>(lo p.2).bind fun q=>(hi q.2).bind fun r=>match p.1.data with | .str z=>if z.length ≤ sizeLine then some (.fz (.str (PySem.Txt.slice z q.1 r.1)),r.2) else none | _=>none
theorem Zsc {fa:FE} {lo hi:FO} (h:ME X io p c e (Z75 (o2 fa) (o2 lo) (o2 hi))):ME X io p c e (o2 (Zxc fa lo hi)):=h.weak fun δ K z=>by
 obtain ⟨r,δ',h,k⟩:=z
 obtain ⟨⟨x,δ1⟩,h1,h⟩:=bs h
 obtain ⟨⟨y,δ2⟩,h2,h⟩:=bs h
 obtain ⟨⟨w,δ3⟩,h3,h⟩:=bs h
 dsimp only at h
 split at h
 case h_2=>cases h
 rename_i z hz
 split at h
 case isFalse=>cases h
 rename_i hl
 cases h
 exact ⟨x,δ1,h1,y,δ2,h2,w,_,h3,z,hz,hl,k⟩
end
end L2
namespace L2
open PySem PySem.Spec PyProof.Rows
variable {G:PySem.W.Frag}
noncomputable def Sg (z:Str) (t:Tok) (it:Addr) (i:Nat) (h:Heap):Prop:=h.IsStrIter it "str_ascii_iterator" z t i∨h.IsStrIter it "str_iterator" z t i
theorem Sg.keep {z:Str} {t:Tok} {it:Addr} {i:Nat} {h h':Heap} (q:Sg z t it i h) (k:∀ o,h.get? it = some o→h'.get? it = some o):Sg z t it i h' :=
 q.imp (fun ⟨o,a,b⟩=>⟨o,k o a,b⟩) fun ⟨o,a,b⟩=>⟨o,k o a,b⟩
theorem Sg.obj {z:Str} {t:Tok} {it:Addr} {i:Nat} {h:Heap} (q:Sg z t it i h):∃ o,h.get? it = some o∧∀ v,o.data ≠ .cell v:=by
 rcases q with ⟨o,a,_,d⟩ | ⟨o,a,_,d⟩
 ·exact ⟨o,a,fun v z=>by rw [d] at z; cases z⟩
 ·exact ⟨o,a,fun v z=>by rw [d] at z; cases z⟩
section
variable {P:Program} {w:World} {A:Around} {E:Value→Shared→Prop} {s:Shared}
theorem Sg.next {z:Str} {t:Tok} {it:Addr} {i c:Nat} {Q:Value→Shared→Prop} (q:Sg z t it i s.heap) (hx:z.cps[i]? = some c) (hQ:∀ h',Sg z t it (i + 1) h'→Heap.SameBut it s.heap h'→Q (.str ⟨#[c]⟩ s.toks) { s with heap:=h',toks:=s.toks + 1 }) :
  wpAny (model P w) A (Builtin.SmallTypes.nextOf (.ref it)) Q E s :=
 q.elim (fun q=>wpAny_nextOf_ascii_item q hx fun h' a=>hQ h' (.inl a)) fun q=>wpAny_nextOf_wide_item q hx fun h' a=>hQ h' (.inr a)
theorem Sg.stop {z:Str} {t:Tok} {it:Addr} {i:Nat} {Q:Value→Shared→Prop} (hh:A.handled = none) (q:Sg z t it i s.heap) (hx:z.cps[i]? = none) (hE:∀ h' e,Heap.ExtBut it s.heap h'→(∃ o,h'.get? e = some o∧o.cls = .type "StopIteration")→E (.ref e) { s with heap:=h' }) :
  wpAny (model P w) A (Builtin.SmallTypes.nextOf (.ref it)) Q E s :=
 q.elim (fun q=>wpAny_nextOf_ascii_end hh q hx hE) fun q=>wpAny_nextOf_wide_end hh q hx hE
structure Ap (z TI TO i1 i2:Addr):Prop where
 a1:TI ≠ z
 a2:TO ≠ z
 a3:i1 ≠ z
 a4:i2 ≠ z
 a5:i1 ≠ TO
 a6:i2 ≠ TO
 a7:i1 ≠ i2
 a8:TI ≠ TO
 a9:TI ≠ i1
 a10:TI ≠ i2
theorem Zxq {z TI TO i1 i2:Addr} {a b:Value} {x y:Str} {tx ty:Tok} {i c c':Nat} {Q:Value→Shared→Prop} (D:Ap z TI TO i1 i2)
  (hz:IsZip s.heap z TI TO .none) (hTI:IsPair s.heap TI (.ref i1) (.ref i2)) (hTO:IsPair s.heap TO a b) (h1:Sg x tx i1 i s.heap) (h2:Sg y ty i2 i s.heap) (e1:x.cps[i]? = some c) (e2:y.cps[i]? = some c')
  (hQ:∀ h',IsZip h' z TI TO (rawInt s.heap.objs.size)→IsPair h' TO (.str ⟨#[c]⟩ s.toks) (.str ⟨#[c']⟩ (s.toks + 1))→Sg x tx i1 (i + 1) h'→Sg y ty i2 (i + 1) h'→IsPair h' s.heap.objs.size (.str ⟨#[c]⟩ s.toks) (.str ⟨#[c']⟩ (s.toks + 1)) →
   (∀ c o,c ∉ [z,TO,i1,i2]→s.heap.get? c = some o→h'.get? c = some o)→Q (.ref s.heap.objs.size) { s with heap:=h',toks:=s.toks + 2 }) :
  wpAny (model P w) A (Builtin.«zip.__next__» ⟨[.ref z],[]⟩) (fun fin s'=>∃ v,fin = .done (.ret v)∧Q v s') E s:=by
 have st:∀ {b c:Addr} {h h':Heap},Heap.SameBut b h h'→c ≠ b→∀ o,h.get? c = some o→h'.get? c = some o:=fun sb n o e=>sb.extBut _ _ n e
 show wpAny _ _ (field (.ref z) 2 >>= _) _ _ _
 refine wpAny_bind (wpAny_field hz rfl (x:=.bool false) rfl ?_)
 show wpAny _ _ (field (.ref z) 3 >>= _) _ _ _
 refine wpAny_bind (wpAny_field hz rfl (x:=.ref TI) rfl (wpAny_bind (wpAny_seqItems hTI rfl ?_)))
 show wpAny _ _ (Builtin.SmallTypes.ownedTupleIsFree (.ref z) >>= _) _ _ _
 refine wpAny_bind ?_
 unfold Builtin.SmallTypes.ownedTupleIsFree
 refine wpAny_bind (wpAny_field hz rfl (x:=.none) rfl (wpAny_pure ?_))
 simp only [if_true]
 refine wpAny_bind (wpAny_rule (wpAny_bind (wpAny_field hz rfl (x:=.ref TO) rfl (wpAny_bind (wpAny_setField_rec hz (by simp) fun h3 z3 b3=>?_)))))
 replace z3:IsZip h3 z TI TO .ellipsis:=z3
 refine wpAny_bind ?_
 simp only [List.zipIdx_cons,List.zipIdx_nil,List.forIn_cons,List.forIn_nil]
 refine wpAny_bind (wpAny_bind (wpAny_onRaise ?_))
 show wpAny _ _ (Builtin.SmallTypes.nextOf (.ref i1) >>= _) _ _ _
 refine wpAny_bind (Sg.next (s:={ s with heap:=h3 }) (h1.keep (st b3 D.a3)) e1 fun h4 k4 b4=>wpAny_pure ?_)
 have o4:IsPair h4 TO a b:=b4.extBut _ _ D.a5.symm (b3.extBut _ _ D.a2 hTO)
 refine wpAny_bind (wpAny_seqItems o4 rfl (wpAny_bind (Zbm (s:={ s with heap:=h4,toks:=s.toks + 1 }) o4 fun h5 o5 b5=>wpAny_bind (wpAny_letGo (wpAny_pure ?_)))))
 replace o5:IsPair h5 TO (.str ⟨#[c]⟩ s.toks) b:=o5
 refine wpAny_bind (wpAny_bind (wpAny_onRaise ?_))
 show wpAny _ _ (Builtin.SmallTypes.nextOf (.ref i2) >>= _) _ _ _
 refine wpAny_bind (Sg.next (s:={ s with heap:=h5,toks:=s.toks + 1 }) (((h2.keep (st b3 D.a4)).keep (st b4 D.a7.symm)).keep (st b5 D.a6)) e2 fun h6 k6 b6=>wpAny_pure ?_)
 have o6:IsPair h6 TO (.str ⟨#[c]⟩ s.toks) b:=b6.extBut _ _ D.a6.symm o5
 refine wpAny_bind (wpAny_seqItems o6 rfl (wpAny_bind (Zbm (s:={ s with heap:=h6,toks:=s.toks + 1 + 1 }) o6 fun h7 o7 b7=>wpAny_bind (wpAny_letGo (wpAny_pure (wpAny_pure ?_))))))
 replace o7:IsPair h7 TO (.str ⟨#[c]⟩ s.toks) (.str ⟨#[c']⟩ (s.toks + 1)):=o7
 refine wpAny_bind (wpAny_seqItems o7 rfl (wpAny_bind (wpAny_newTuple ?_)))
 have sz:h7.objs.size = s.heap.objs.size:=by rw [b7.1,b6.1,b5.1,b4.1,b3.1]
 have z7:IsZip h7 z TI TO .ellipsis:=b7.extBut _ _ D.a2.symm (b6.extBut _ _ D.a4.symm (b5.extBut _ _ D.a2.symm (b4.extBut _ _ D.a3.symm z3)))
 have t1:Sg x tx i1 (i + 1) h7:=((k4.keep (st b5 D.a5)).keep (st b6 D.a7)).keep (st b7 D.a5)
 have t2:Sg y ty i2 (i + 1) h7:=k6.keep (st b7 D.a6)
 have old:∀ c o,c ∉ [z,TO,i1,i2]→s.heap.get? c = some o→h7.get? c = some o:=fun c o n e=>by
  simp only [List.mem_cons,List.not_mem_nil,or_false,not_or] at n
  exact b7.extBut _ _ n.2.1 (b6.extBut _ _ n.2.2.2 (b5.extBut _ _ n.2.1 (b4.extBut _ _ n.2.2.1 (b3.extBut _ _ n.1 e))))
 show wpAny _ _ (Builtin.SmallTypes.ownedTupleHandOut (.ref z) (.ref h7.objs.size) >>= _) _ _ _
 refine wpAny_bind ?_
 unfold Builtin.SmallTypes.ownedTupleHandOut
 have zp:IsZip (h7.push { cls:=.type "tuple", data:=.seq #[.str ⟨#[c]⟩ s.toks,.str ⟨#[c']⟩ (s.toks + 1)] }) z TI TO .ellipsis:=Heap.get?_push_of_some _ z7
 refine wpAny_bind (wpAny_setField_rec zp (by simp) fun h8 z8 b8=>?_)
 replace z8:IsZip h8 z TI TO (rawInt h7.objs.size):=z8
 refine wpAny_setField_rec z8 (by simp) fun h9 z9 b9=>?_
 replace z9:IsZip h9 z TI TO (rawInt h7.objs.size):=z9
 have up:∀ c o,c ≠ z→h7.get? c = some o→h9.get? c = some o:=fun c o n e=>b9.extBut _ _ n (b8.extBut _ _ n (Heap.get?_push_of_some _ e))
 have nz:h7.objs.size ≠ z:=Nat.ne_of_gt (Heap.lt_size z7)
 have p9:IsPair h9 h7.objs.size (.str ⟨#[c]⟩ s.toks) (.str ⟨#[c']⟩ (s.toks + 1)):=b9.extBut _ _ nz (b8.extBut _ _ nz (Heap.get?_push_size _ rfl))
 refine wpAny_pure ⟨_,rfl,?_⟩
 show Q (.ref h7.objs.size) _
 rw [sz] at z9 p9 ⊢
 exact hQ h9 z9 (up _ _ D.a2 o7) (t1.keep fun o e=>up _ o D.a3 e) (t2.keep fun o e=>up _ o D.a4 e) p9 fun c o n e=>up c o (fun q=>n (by simp [q])) (old c o n e)
theorem Zz9 {z TI TO i1 i2:Addr} {a b:Value} {x y:Str} {tx ty:Tok} {i:Nat} {Q:PySem.Fin→Shared→Prop} (hh:A.handled = none) (D:Ap z TI TO i1 i2)
  (hz:IsZip s.heap z TI TO .none) (hTI:IsPair s.heap TI (.ref i1) (.ref i2)) (hTO:IsPair s.heap TO a b) (h1:Sg x tx i1 i s.heap) (h2:Sg y ty i2 i s.heap) (he:x.cps[i]? = none∨y.cps[i]? = none)
  (hE:∀ h' e t',(∀ c o,c ∉ [z,TO,i1,i2]→s.heap.get? c = some o→h'.get? c = some o)→(∃ o,h'.get? e = some o∧o.cls = .type "StopIteration")→E (.ref e) { s with heap:=h',toks:=t' }) :
  wpAny (model P w) A (Builtin.«zip.__next__» ⟨[.ref z],[]⟩) Q E s:=by
 have st:∀ {b c:Addr} {h h':Heap},Heap.SameBut b h h'→c ≠ b→∀ o,h.get? c = some o→h'.get? c = some o:=fun sb n o e=>sb.extBut _ _ n e
 show wpAny _ _ (field (.ref z) 2 >>= _) _ _ _
 refine wpAny_bind (wpAny_field hz rfl (x:=.bool false) rfl ?_)
 show wpAny _ _ (field (.ref z) 3 >>= _) _ _ _
 refine wpAny_bind (wpAny_field hz rfl (x:=.ref TI) rfl (wpAny_bind (wpAny_seqItems hTI rfl ?_)))
 show wpAny _ _ (Builtin.SmallTypes.ownedTupleIsFree (.ref z) >>= _) _ _ _
 refine wpAny_bind ?_
 unfold Builtin.SmallTypes.ownedTupleIsFree
 refine wpAny_bind (wpAny_field hz rfl (x:=.none) rfl (wpAny_pure ?_))
 simp only [if_true]
 refine wpAny_bind (wpAny_rule (wpAny_bind (wpAny_field hz rfl (x:=.ref TO) rfl (wpAny_bind (wpAny_setField_rec hz (by simp) fun h3 z3 b3=>?_)))))
 replace z3:IsZip h3 z TI TO .ellipsis:=z3
 refine wpAny_bind ?_
 simp only [List.zipIdx_cons,List.zipIdx_nil,List.forIn_cons,List.forIn_nil]
 refine wpAny_bind (wpAny_bind (wpAny_onRaise ?_))
 show wpAny _ _ (Builtin.SmallTypes.nextOf (.ref i1) >>= _) _ _ _
 cases e1:x.cps[i]? with
 | none =>
  refine wpAny_bind (Sg.stop (s:={ s with heap:=h3 }) hh (h1.keep (st b3 D.a3)) e1 fun h4 e b4 he=>?_)
  obtain ⟨oe,hoe,hce⟩:=he
  have z4:IsZip h4 z TI TO .ellipsis:=b4 _ _ D.a3.symm z3
  have ez:e ≠ z:=fun q=>by subst q; rw [z4] at hoe; cases hoe; simp at hce
  refine wpAny_setField_rec z4 (by simp) fun h5 _ b5=>hE h5 e s.toks (fun c o n q=>?_) ⟨oe,b5.extBut _ _ ez hoe,hce⟩
  simp only [List.mem_cons,List.not_mem_nil,or_false,not_or] at n
  exact b5.extBut _ _ n.1 (b4 _ _ n.2.2.1 (b3.extBut _ _ n.1 q))
 | some c =>
  refine wpAny_bind (Sg.next (s:={ s with heap:=h3 }) (h1.keep (st b3 D.a3)) e1 fun h4 k4 b4=>wpAny_pure ?_)
  have o4:IsPair h4 TO a b:=b4.extBut _ _ D.a5.symm (b3.extBut _ _ D.a2 hTO)
  refine wpAny_bind (wpAny_seqItems o4 rfl (wpAny_bind (Zbm (s:={ s with heap:=h4,toks:=s.toks + 1 }) o4 fun h5 o5 b5=>wpAny_bind (wpAny_letGo (wpAny_pure ?_)))))
  refine wpAny_bind (wpAny_bind (wpAny_onRaise ?_))
  show wpAny _ _ (Builtin.SmallTypes.nextOf (.ref i2) >>= _) _ _ _
  refine wpAny_bind (Sg.stop (s:={ s with heap:=h5,toks:=s.toks + 1 }) hh (((h2.keep (st b3 D.a4)).keep (st b4 D.a7.symm)).keep (st b5 D.a6)) (he.resolve_left (by rw [e1]; exact fun q=>nomatch q)) fun h6 e b6 he=>?_)
  obtain ⟨oe,hoe,hce⟩:=he
  have z6:IsZip h6 z TI TO .ellipsis:=b6 _ _ D.a4.symm (b5.extBut _ _ D.a2.symm (b4.extBut _ _ D.a3.symm z3))
  have ez:e ≠ z:=fun q=>by subst q; rw [z6] at hoe; cases hoe; simp at hce
  refine wpAny_setField_rec z6 (by simp) fun h7 _ b7=>hE h7 e (s.toks + 1) (fun c o n q=>?_) ⟨oe,b7.extBut _ _ ez hoe,hce⟩
  simp only [List.mem_cons,List.not_mem_nil,or_false,not_or] at n
  exact b7.extBut _ _ n.1 (b6 _ _ n.2.2.2 (b5.extBut _ _ n.2.1 (b4.extBut _ _ n.2.2.1 (b3.extBut _ _ n.1 q))))
noncomputable abbrev yT1 (h:Heap) (x:Str) (t:Tok):Heap:=h.push { cls:=.type (strIterType x),data:=.fields #[.str x t,.int 0 0] }
noncomputable abbrev yT2 (h:Heap) (x y:Str) (t u:Tok):Heap:=yT1 (yT1 h x t) y u
noncomputable abbrev yT3 (h:Heap) (x y:Str) (t u:Tok):Heap:=(yT2 h x y t u).push { cls:=.type "tuple", data:=.seq #[.ref h.objs.size,.ref (yT1 h x t).objs.size] }
noncomputable abbrev yT4 (h:Heap) (x y:Str) (t u:Tok):Heap:=(yT3 h x y t u).push { cls:=.type "tuple", data:=.seq #[.none,.none] }
noncomputable abbrev yT5 (h:Heap) (x y:Str) (t u:Tok):Heap:=(yT4 h x y t u).push { cls:=.type "zip", data:=.fields #[.none,.bool false,.bool false,.ref (yT2 h x y t u).objs.size,.ref (yT3 h x y t u).objs.size] }
theorem Zqj (x y:Str) (t u:Tok) :
  Meets (Builtin.«zip.__new__» ⟨[.type "zip", .str x t,.str y u],[]⟩) (fun _ R s=>R (.ok (.ret (.ref (yT4 s.heap x y t u).objs.size))) { s with heap:=yT5 s.heap x y t u }) :=
 .of_wp fun prog w A R s h=>by
  obtain ⟨hp,g,d,tk,os⟩:=s
  have hsub:=sub_zip
  wp_walk using wpAny_pyIter_strU
  exact ⟨_,rfl,h⟩
theorem Sg.at {h:Heap} {x:Str} {t:Tok} {it:Addr} (e:h.get? it = some { cls:=.type (strIterType x),data:=.fields #[.str x t,.int 0 0] }):Sg x t it 0 h:=by
 unfold strIterType at e
 split at e
 ·exact .inl ⟨_,e,rfl,rfl⟩
 ·exact .inr ⟨_,e,rfl,rfl⟩
theorem Zo3 {x y:Str} {t u:Tok} {Q:Value→Shared→Prop}
  (h:∀ h' n,n = s.heap.objs.size→IsZip h' (n + 4) (n + 2) (n + 3) .none→IsPair h' (n + 2) (.ref n) (.ref (n + 1))→IsPair h' (n + 3) .none .none→Sg x t n 0 h'→Sg y u (n + 1) 0 h' →
   (∀ c o,s.heap.get? c = some o→h'.get? c = some o)→Q (.ref (n + 4)) { s with heap:=h' }):wpAny (model P w) A (call (.type "zip") [.str x t,.str y u]) Q E s:=by
 refine callType_new F.called_zip (by decide) (F.typeCall_zip_2 _ _) (F.newCall_zip_2 _ _) (fun obj=>F.args_object_init_3 obj _ _) F.entry_zip_new (Zqj x y t u) ?_
 have e1:(yT1 s.heap x t).objs.size = s.heap.objs.size + 1:=Heap.size_push ..
 have e2:(yT2 s.heap x y t u).objs.size = s.heap.objs.size + 2:=by rw [Heap.size_push,e1]
 have e3:(yT3 s.heap x y t u).objs.size = s.heap.objs.size + 3:=by rw [Heap.size_push,e2]
 have e4:(yT4 s.heap x y t u).objs.size = s.heap.objs.size + 4:=by rw [Heap.size_push,e3]
 have up:∀ {c o},(yT1 s.heap x t).get? c = some o→(yT5 s.heap x y t u).get? c = some o:=fun x=>Heap.get?_push_of_some _ (Heap.get?_push_of_some _ (Heap.get?_push_of_some _ (Heap.get?_push_of_some _ x)))
 have p5:(yT5 s.heap x y t u).get? (yT4 s.heap x y t u).objs.size = some _:=Heap.get?_push_size _ rfl
 have p4:(yT5 s.heap x y t u).get? (yT3 s.heap x y t u).objs.size = some _:=Heap.get?_push_of_some _ (Heap.get?_push_size _ rfl)
 have p3:(yT5 s.heap x y t u).get? (yT2 s.heap x y t u).objs.size = some _:=Heap.get?_push_of_some _ (Heap.get?_push_of_some _ (Heap.get?_push_size _ rfl))
 have p2:(yT5 s.heap x y t u).get? (yT1 s.heap x t).objs.size = some _:=Heap.get?_push_of_some _ (Heap.get?_push_of_some _ (Heap.get?_push_of_some _ (Heap.get?_push_size _ rfl)))
 have p1:(yT5 s.heap x y t u).get? s.heap.objs.size = some _:=up (Heap.get?_push_size _ rfl)
 show _∧_
 rw [e2,e3,e4] at p5
 rw [e1,e2] at p3
 rw [e3] at p4
 rw [e1] at p2
 rw [e4]
 exact ⟨⟨_,p5,rfl⟩,h _ _ rfl p5 p3 p4 (.at p1) (.at p2) fun c o x=>up (Heap.get?_push_of_some _ x)⟩
theorem Zlv {z TI TO i1 i2:Addr} {a b:Value} {x y:Str} {tx ty:Tok} {i c c':Nat} {Q:Option Value→Shared→Prop} (D:Ap z TI TO i1 i2)
  (hz:IsZip s.heap z TI TO .none) (hTI:IsPair s.heap TI (.ref i1) (.ref i2)) (hTO:IsPair s.heap TO a b) (h1:Sg x tx i1 i s.heap) (h2:Sg y ty i2 i s.heap) (e1:x.cps[i]? = some c) (e2:y.cps[i]? = some c')
  (hQ:∀ h',IsZip h' z TI TO (rawInt s.heap.objs.size)→IsPair h' TO (.str ⟨#[c]⟩ s.toks) (.str ⟨#[c']⟩ (s.toks + 1))→Sg x tx i1 (i + 1) h'→Sg y ty i2 (i + 1) h'→IsPair h' s.heap.objs.size (.str ⟨#[c]⟩ s.toks) (.str ⟨#[c']⟩ (s.toks + 1)) →
   (∀ c o,c ∉ [z,TO,i1,i2]→s.heap.get? c = some o→h'.get? c = some o)→Q (some (.ref s.heap.objs.size)) { s with heap:=h',toks:=s.toks + 2 }):wpAny (model P w) A (pyNext (.ref z)) Q E s:=by
 have hT:s.TypeIs (.ref z) "zip" := ⟨_,hz,rfl⟩
 unfold pyNext
 exact wpAny_bind (wpAny_attempt (wpAny_callSpecial?_slot (name:=Str.ofString "__next__") hT F.slot_zip_next (wpAny_call_entry F.slot_zip_next hT F.entry_zip_next (Zxq D hz hTI hTO h1 h2 e1 e2 fun h' a1 a2 a3 a4 a5 a6=>wpAny_pure (hQ h' a1 a2 a3 a4 a5 a6)) (F.args_zip_next_1 _))))
theorem Zmm {z TI TO i1 i2:Addr} {a b:Value} {x y:Str} {tx ty:Tok} {i:Nat} {Q:Option Value→Shared→Prop} (hh:A.handled = none) (D:Ap z TI TO i1 i2)
  (hz:IsZip s.heap z TI TO .none) (hTI:IsPair s.heap TI (.ref i1) (.ref i2)) (hTO:IsPair s.heap TO a b) (h1:Sg x tx i1 i s.heap) (h2:Sg y ty i2 i s.heap) (he:x.cps[i]? = none∨y.cps[i]? = none)
  (hQ:∀ h' t',(∀ c o,c ∉ [z,TO,i1,i2]→s.heap.get? c = some o→h'.get? c = some o)→Q none { s with heap:=h',toks:=t' }):wpAny (model P w) A (pyNext (.ref z)) Q E s:=by
 have hT:s.TypeIs (.ref z) "zip" := ⟨_,hz,rfl⟩
 unfold pyNext
 refine wpAny_bind (wpAny_attempt (wpAny_callSpecial?_slot (name:=Str.ofString "__next__") hT F.slot_zip_next (wpAny_call_entry F.slot_zip_next hT F.entry_zip_next (Zz9 hh D hz hTI hTO h1 h2 he fun h' e t' hk he=>?_) (F.args_zip_next_1 _))))
 obtain ⟨o,ho,hc⟩:=he
 exact wpAny_bind (wpAny_isInstance (T := "StopIteration") (b:=true) ⟨o,ho,hc⟩ isSubtype_stop (wpAny_pure (hQ _ _ hk)))
end
noncomputable def Z7r (x y:Str):It :=
 ⟨fun i _=>i < x.cps.size∧i < y.cps.size,
   fun i H v H'=>∃ p c c',H p = none∧v = .ref p∧x.cps[i]? = some c∧y.cps[i]? = some c'∧H' = upd H p (.tup [.str ⟨#[c]⟩,.str ⟨#[c']⟩]),
   fun i _=>x.cps.size ≤ i∨y.cps.size ≤ i⟩
noncomputable def Z7x (x y:Str) (tx ty:Tok) (z TI TO i1 i2:Addr) (i:Nat) (h:Heap):Prop:=IsZip h z TI TO .none∧IsPair h TI (.ref i1) (.ref i2)∧(∃ x y,IsPair h TO x y)∧Sg x tx i1 i h∧Sg y ty i2 i h
theorem Znh {P:Program} {w:World} {K:PySem.W.Frag} {es:List Expr} {kk:Nat} {pos:Pos} {x y:Str} {tx ty:Tok} {z TI TO i1 i2:Addr} (D:Ap z TI TO i1 i2):Turn P w K (.Tuple es kk pos) (Z7r x y) [z,TI,TO,i1,i2] z (Z7x x y tx ty z TI TO i1 i2) where
 mem:=.head _
 obj:=fun i h st=>by
  obtain ⟨s1,s2,⟨_,_,s3⟩,s4,s5⟩:=st
  exact Zxz ⟨_,s1,fun v q=>by cases q⟩ ⟨_,s2,fun v q=>by cases q⟩ ⟨_,s3,fun v q=>by cases q⟩ s4.obj s5.obj
 keep:=fun i h h' st k=>by
  obtain ⟨s1,s2,⟨_,_,s3⟩,s4,s5⟩:=st
  have m2:TI ∈ [z,TI,TO,i1,i2]:=.tail _ (.head _)
  have m3:TO ∈ [z,TI,TO,i1,i2]:=.tail _ (.tail _ (.head _))
  have m4:i1 ∈ [z,TI,TO,i1,i2]:=.tail _ (.tail _ (.tail _ (.head _)))
  have m5:i2 ∈ [z,TI,TO,i1,i2]:=.tail _ (.tail _ (.tail _ (.tail _ (.head _))))
  exact ⟨k z (.head _) _ s1,k TI m2 _ s2,⟨_,_,k TO m3 _ s3⟩,s4.keep (k i1 m4),s5.keep (k i2 m5)⟩
 item:=by
  intro X hP hw hK hc i pins s σ H E I hf st hg
  subst hP hw hK
  obtain ⟨s1,s2,⟨x0,y0,s3⟩,s4,s5⟩:=st
  obtain ⟨c1,ex⟩:∃ c,x.cps[i]? = some c:=⟨_,Array.getElem?_eq_getElem hg.1⟩
  obtain ⟨c2,ey⟩:∃ c,y.cps[i]? = some c:=⟨_,Array.getElem?_eq_getElem hg.2⟩
  refine Zlv D s1 s2 s3 s4 s5 ex ey fun h' g1 g2 g3 g4 g5 g6=>?_
  refine ⟨_,rfl,wpAny_letOwnedTupleGo_zip (s:={ s with heap:=h',toks:=s.toks + 2 }) g1 fun h2 z2 sb=>?_⟩
  have up:∀ c o,c ≠ z→h'.get? c = some o→h2.get? c = some o:=fun c o n e=>(sb.2 c n).trans e
  have kp:∀ c o,c ∉ [z,TO,i1,i2]→s.heap.get? c = some o→h2.get? c = some o:=fun c o n e=>up c o (fun q=>n (q ▸ .head _)) (g6 c o n e)
  have t5:=up _ _ (Nat.ne_of_gt (Heap.lt_size s1)) g5
  have n3:=g3.keep (up i1 · D.a3)
  have n4:=g4.keep (up i2 · D.a4)
  obtain ⟨f1,f2,f3,f4,f5⟩:(Zc0 X pins H z∧Zc0 X pins H TI∧Zc0 X pins H TO∧Zc0 X pins H i1∧Zc0 X pins H i2):=⟨hf _ (.head _),hf _ (.tail _ (.head _)),hf _ (.tail _ (.tail _ (.head _))),hf _ (.tail _ (.tail _ (.tail _ (.head _)))),hf _ (.tail _ (.tail _ (.tail _ (.tail _ (.head _)))))⟩
  have I2:Inv X pins σ (upd H s.heap.objs.size (.tup [.str ⟨#[c1]⟩,.str ⟨#[c2]⟩])) { s with heap:=h2,toks:=s.toks + 2 } :=
   (I.turnTup (ch:=[z,TO,i1,i2]) (xs:=[.str ⟨#[c1]⟩,.str ⟨#[c2]⟩]) (Zsy f1 f3 f4 f5) kp (Zsy ⟨_,z2⟩ ⟨_,up _ _ D.a2 g2⟩ (n3.obj.imp fun _ q=>q.1) (n4.obj.imp fun _ q=>q.1)) (Nat.le_refl _) Zs6 (.cons ⟨_,rfl⟩ (.cons ⟨_,rfl⟩ .nil)) ⟨_,t5,rfl,0,rfl⟩).kept (t':=s.toks + 2) fun _ _ e=>e
  have lt:∀ {c:Addr} {o:Obj},s.heap.get? c = some o→Zc0 X pins H c→upd H s.heap.objs.size (.tup [.str ⟨#[c1]⟩,.str ⟨#[c2]⟩]) c = none:=fun e f=>by rw [Zj (Nat.ne_of_lt (Heap.lt_size e))]; exact f.1
  refine ⟨.ref s.heap.objs.size,_,I2,rfl,⟨_,_,_,I.fresh,rfl,ex,ey,rfl⟩,⟨z2,kp TI _ (no4 D.a1 D.a8 D.a9 D.a10) s2,⟨_,_,up _ _ D.a2 g2⟩,n3,n4⟩,?_⟩
  obtain ⟨o4,e4,_⟩:=s4.obj
  obtain ⟨o5,e5,_⟩:=s5.obj
  exact Zxz (lt s1 f1) (lt s2 f2) (lt s3 f3) (lt e4 f4) (lt e5 f5)
 done:=by
  intro X hP hw hK hc i pins s σ H E I hf st hg
  subst hP hw hK
  obtain ⟨s1,s2,⟨x0,y0,s3⟩,s4,s5⟩:=st
  refine Zmm (I.ok.hd hc) D s1 s2 s3 s4 s5 (hg.imp (fun q=>Array.getElem?_eq_none q) fun q=>Array.getElem?_eq_none q) fun h' t' k=>⟨rfl,?_⟩
  exact (I.turnAll (ch:=[z,TO,i1,i2]) (Zsy (hf _ (.head _)) (hf _ (.tail _ (.tail _ (.head _)))) (hf _ (.tail _ (.tail _ (.tail _ (.head _))))) (hf _ (.tail _ (.tail _ (.tail _ (.tail _ (.head _))))))) k).kept (t':=t') fun _ _ e=>e
 self:=fun _ _ _ _ _ st h=>wpAny_pyIter_zip st.1 h
theorem Ap.new (n:Nat):Ap (n + 4) (n + 2) (n + 3) n (n + 1):=⟨nad (by omega),nad (by omega),nad (by omega),nad (by omega),nad (by omega),nad (by omega),nad (by omega),nad (by omega),nad (by omega),nad (by omega)⟩
noncomputable def Z4g (ta:TA):TI:=fun σ H R=>ta σ H fun vs H1=>∃ x y,vs = [.str x,.str y]∧R (Z7r x y) H1
theorem Zuk {X:Cx} {a b:Expr} {ta:TA} {p pos pt:Pos} {es:List Expr} {kk:Nat} (hg:Gl X "zip") (hm:X.mg "zip" = none) (hv:bootBuiltins "zip" = some (.type "zip")) (ha:PA X [a,b] ta)
  (he:starEach [a,b] X.env = (false,eval a X.env) :: starEach [b] X.env:=by rfl) (hpl:(backTo pos (starEach [b] X.env)).any (·.1) = false:=by rfl) :
  PI X (.Tuple es kk pt) (.Call (.Name "zip" p) [a,b] [] pos) (Z4g ta):=by
 intro pins s σ H R I h
 refine wpAny_Call_Name_kw (Zcj I hg hm hv ?_ (by decide) (by decide))
 refine PyProof.Rows.callWith_type1 (thn (ha pos pins s σ H _ I h) fun us s1 q=>?_) he hpl
 obtain ⟨vs,H1,I1,r1,x,y,e1,q⟩:=q
 subst e1
 obtain ⟨u,u',rfl,⟨t,rfl⟩,⟨t',rfl⟩⟩:=vals2 r1
 refine Zo3 fun h' n en g1 g2 g3 g4 g5 g7=>?_
 have I2:Inv X pins σ H1 { s1 with heap:=h' }:=I1.kept (t':=s1.toks) g7
 refine wpAny_pyIter_zip (s:={ s1 with heap:=h' }) g1 ?_
 refine ⟨_,[_,_,_,_,_],Z7x _ _ _ _ _ _ _ _ _,_,H1,rfl,I2,Znh (.new n),⟨g1,g2,⟨_,_,g3⟩,g4,g5⟩,?_,q⟩
 subst en
 have ok:∀ k:Nat,Zc0 X pins H1 (s1.heap.objs.size + k):=fun k=>I1.fpOk (Nat.le_add_right _ _) (I1.hok.fresh (Nat.le_add_right _ _))
 exact Zxz (ok 4) (ok 2) (ok 3) (ok 0) (ok 1)
section
variable {X:Cx} {io:List Nat} {p c:Bool} {a b:Expr} {mr:MAt} {ra:FA}
noncomputable def Zus:List PyData→Option (List PyData):=fun ds=>match ds with | [.str x,.str y]=>some (Zi8 (Zdx x) (Zdx y)) | _=>none
noncomputable def iZS (mr:MAt):MIt:=fun δ K=>mr δ fun rs δ'=>∃ es,Zus (OT.datas rs) = some es∧K es δ'
theorem Zvj {p' pos pt:Pos} {es:List Expr} {kk:Nat} (hg:Gl X "zip") (hm:X.mg "zip" = none) (hv:bootBuiltins "zip" = some (.type "zip")) (ha:MA X io p c [a,b] mr)
  (he:starEach [a,b] X.env = (false,eval a X.env) :: starEach [b] X.env:=by rfl) (hpl:(backTo pos (starEach [b] X.env)).any (·.1) = false:=by rfl):MI X io p c (.Tuple es kk pt) (.Call (.Name "zip" p') [a,b] [] pos) (iZS mr):=by
 obtain ⟨_,A,s⟩:=ha
 refine ⟨_,Zuk hg hm hv A he hpl,fun C H σ δ fp ex K' Q R h kk=>s C H σ δ fp ex _ _ R h fun H1 vs rs δ1 fp1 new r1 h1=>?_⟩
 have q:=r1.das R
 obtain ⟨es,hz,h1⟩:=h1
 generalize OT.datas rs = ds at q hz
 unfold Zus at hz
 split at hz
 case h_2=>cases hz
 rename_i x y
 cases hz
 cases q with
 | cons q1 q2 =>
  cases q2 with
  | cons q2 q3 =>
   cases q3
   cases q1.strInv
   cases q2.strInv
   refine ⟨x,y,rfl,kk _ H1 _ δ1 fp1 r1.base r1.stp (fun H' kp i=>?_) h1⟩
   have g:∀ {x:Str} {d:PyData},(Zdx x)[i]? = some d→∃ c,x.cps[i]? = some c∧d = .str ⟨#[c]⟩:=fun {x d} h=>by
    unfold Zdx at h
    rw [List.getElem?_map,Array.getElem?_toList] at h
    obtain ⟨c,hc,rfl⟩:=Option.map_eq_some_iff.mp h
    exact ⟨c,hc,rfl⟩
   have l:∀ x:Str,(Zdx x).length = x.cps.size:=fun x=>by unfold Zdx; rw [List.length_map,Array.length_toList]
   refine ⟨fun d hd=>?_,fun hd=>?_⟩
   ·obtain ⟨u,v,hu,hv,rfl⟩:=Zgt hd
    obtain ⟨c,hc,rfl⟩:=g hu
    obtain ⟨c',hc',rfl⟩:=g hv
    refine ⟨⟨(Array.getElem?_eq_some_iff.mp hc).1,(Array.getElem?_eq_some_iff.mp hc').1⟩,fun v H'' hyl=>?_⟩
    obtain ⟨t',c1,c2,ht,rfl,h1,h2,rfl⟩:=hyl
    cases hc.symm.trans h1
    cases hc'.symm.trans h2
    exact ⟨Z2 ht _,.tup Zm (.cons (.str _) (.cons (.str _) .nil))⟩
   ·have:=Zil hd
    rw [l,l] at this
    exact this
noncomputable def Zpc (a:FA):FI:=fun δ=>(a δ).bind fun p=>(Zus (OT.datas p.1)).bind fun ds=>some (ds,p.2)
theorem Zxh {tg e:Expr} (g:MI X io p c tg e (iZS (o2 ra))):MI X io p c tg e (o2 (Zpc ra)):=g.weak fun δ K h=>by
 obtain ⟨r,δ',h,k⟩:=h
 obtain ⟨⟨x,δ1⟩,h1,h⟩:=bs h
 obtain ⟨ds,h2,h⟩:=bs h
 cases h
 exact ⟨x,_,h1,_,h2,k⟩
end
end L2
namespace L2
open PySem PySem.Spec PyProof.Rows
variable {G:PySem.W.Frag}
noncomputable def stS (ks:List Str) (x:Str):List Str:=if x ∈ ks then ks else ks ++ [x]
noncomputable def Zlp (xs:List Str):List Str:=xs.foldl stS []
theorem Zvl (ks:List Str) (x:Str):(stS ks x).length ≤ ks.length + 1:=by
 unfold stS
 split
 ·exact Nat.le_succ _
 ·rw [List.length_append]; exact Nat.le_refl _
theorem Zpx {xs ks:List Str} (h:(ks ++ xs).Nodup):xs.foldl stS ks = ks ++ xs:=by
 induction xs generalizing ks with
 | nil=>rw [List.append_nil]; rfl
 | cons x xs ih =>
  have hx:x ∉ ks:=fun m=>(List.nodup_append.mp h).2.2 x m x (.head _) rfl
  have e:stS ks x = ks ++ [x]:=if_neg hx
  rw [List.foldl_cons,e,ih (by rw [List.append_assoc]; exact h),List.append_assoc]; rfl
theorem Zly {xs:List Str} (h:xs.Nodup):Zlp xs = xs:=Zpx (ks:=[]) h
section
variable {prog:Program} {w:World} {A:Around} {R:Result→Shared→Prop} {I:Addr} {fp wr:List Addr} {n:Nat} {Pv:Nat→Value→Prop} {St:Nat→Heap→Prop}
theorem Z1v (W:Walks prog w A.in1 I fp wr n Pv St) (S:Addr) (sf:S ∉ fp) (xs:List Str) (ln:xs.length = n) (lb:n + 1 < scanBound) (hv:∀ i v,Pv i v→∃ k t,v = Value.str k t∧xs[i]? = some k) :
  ∀ (m i:Nat) (s:Shared) (ks:List Str),n - i = m→i ≤ n→St i s.heap→s.heap.SetOf (strKind prog w) S (fun k=>decide (k ∈ ks)) ks.length→ks.length ≤ i →
  (∀ h' tk,h'.SetOf (strKind prog w) S (fun k=>decide (k ∈ (xs.drop i).foldl stS ks)) ((xs.drop i).foldl stS ks).length→(∀ b o,b ∉ wr→b ≠ S→s.heap.get? b = some o→h'.get? b = some o)→R (.ok (.ret .none)) { s with heap:=h',toks:=tk }) →
  codeAny (model prog w) A (.builtin "set.update.loop" ⟨[.ref S,.ref I],[]⟩) R s:=by
 have sw:S ∉ wr:=fun h=>sf (W.sub _ h)
 intro m
 induction m with
 | zero =>
  intro i s ks em ei st hS lk r
  have en:i = n:=by omega
  refine codeAny_builtin F.entry_set_update_loop ?_; rw [Around.under_plainId F.plain_set_update_loop _]
  show wpAny _ A.in1 (pyNext (.ref I) >>= _) _ _ _
  refine wpAny_bind (W.done s _ _ (en ▸ st) fun h' tk kp=>?_)
  show wpAny _ A.in1 (ret Value.none) _ _ { s with heap:=h',toks:=tk }
  rw [List.drop_eq_nil_of_le (by omega)] at r
  obtain ⟨o,es,ep,t,ho,rest⟩:=hS
  exact wpAny_pure (r h' tk ⟨o,es,ep,t,kp S _ sw ho,rest⟩ fun b o nb _ e=>kp b o nb e)
 | succ m ih =>
  intro i s ks em ei st hS lk r
  have lt:i < n:=by omega
  refine codeAny_builtin F.entry_set_update_loop ?_; rw [Around.under_plainId F.plain_set_update_loop _]
  show wpAny _ A.in1 (pyNext (.ref I) >>= _) _ _ _
  refine wpAny_bind (W.item i s _ _ lt st fun v h' tk pv st' kp=>?_)
  obtain ⟨k,t,rfl,ek⟩:=hv i v pv
  show wpAny _ A.in1 (holding [Value.str k t] (setAdd S (.str k t)) >>= _) _ _ { s with heap:=h',toks:=tk }
  have hS':h'.SetOf (strKind prog w) S (fun k=>decide (k ∈ ks)) ks.length:=by
   obtain ⟨o,es,ep,tb,ho,rest⟩:=hS
   exact ⟨o,es,ep,tb,kp S _ sw ho,rest⟩
  refine wpAny_bind (wpAny_holding ?_)
  unfold setAdd
  refine wpAny_holding (wpAny_bind ((strKind prog w).pyHash (k:=k) (strKind_is _ _ _ _) ?_))
  refine wpAny_setAddHashed_of (knd:=strKind prog w) (s:={ s with heap:=h',toks:=tk + 1 }) (strKind_is _ _ _ _) rfl hS' (by omega) fun h2 sb hS2=>?_
  have hS3:h2.SetOf (strKind prog w) S (fun x=>decide (x ∈ stS ks k)) (stS ks k).length:=by
   refine SetOf_congr hS2 (fun x=>?_) ?_
   ·unfold stS
    by_cases c:k ∈ ks
    ·rw [if_pos c,← Bool.decide_or]
     exact decide_eq_decide.mpr ⟨fun q=>q.elim id fun e=>e ▸ c,.inl⟩
    ·rw [if_neg c,← Bool.decide_or]
     exact decide_eq_decide.mpr ⟨fun q=>q.elim (fun q=>List.mem_append_left _ q) fun e=>e ▸ List.mem_append_right _ (.head _),fun q=>(List.mem_append.mp q).imp id fun q=>List.mem_singleton.mp q⟩
   ·unfold stS
    by_cases c:k ∈ ks
    ·rw [if_pos c,if_pos (decide_eq_true c)]
    ·rw [if_neg c,if_neg (fun q=>c (of_decide_eq_true q)),List.length_append]; rfl
  have k2:∀ b o,b ≠ S→h'.get? b = some o→h2.get? b = some o:=fun b o nS e=>by rw [sb.2 b nS]; exact e
  have sl:=Zvl ks k
  obtain ⟨hi,e2⟩:=List.getElem?_eq_some_iff.mp ek
  rw [List.drop_eq_getElem_cons hi,e2,List.foldl_cons] at r
  refine wpAny_pure ⟨plainId_quiet F.plain_set_update_loop _,ih (i + 1) _ (stS ks k) (by omega) lt (W.frame _ _ _ st' fun b bf o e=>k2 b o (fun h:b = S=>sf (by rw [← h]; exact bf)) e) hS3 (by omega) fun h3 tk3 hS3 kp3=>?_⟩
  exact r h3 tk3 hS3 fun b o nb nS e=>kp3 b o nb nS (k2 b o nS (kp b o nb e))
end
section
variable {prog:Program} {w:World} {A:Around} {E:Value→Shared→Prop} {s:Shared}
theorem Z19 {l:Addr} {its:Array Value} {xs:List Str} {led:Bool} {Q:Value→Shared→Prop} (hh:A.handled = none) (hl:s.heap.IsList l its) (ln:xs.length = its.size) (lb:its.size + 1 < scanBound)
  (hv:∀ (i:Nat) (v:Value),its[i]? = some v→∃ k t,v = Value.str k t∧xs[i]? = some k)
  (q:∀ h' tk,h'.SetOf (strKind prog w) s.heap.objs.size (fun k=>decide (k ∈ Zlp xs)) (Zlp xs).length→(∀ b o,b < s.heap.objs.size→s.heap.get? b = some o→h'.get? b = some o)→Q .none { s with heap:=h',toks:=tk }) :
  wpAny (model prog w) A (Builtin.«set.__init__» ⟨[Value.ref s.heap.objs.size,Value.ref l],[]⟩) (fun fin s'=>∃ v,fin = .done (.ret v)∧Q v s') E { s with heap:=s.heap.push { cls:=.type "set", dict:=none,data:=.set #[] 0 (.fresh 0 0 led) } }:=by
 obtain ⟨ol,hol,hcl,nl,hdl⟩:=id hl
 obtain ⟨ocls,odict,odata,oslots⟩:=ol
 simp only at hcl hdl
 subst hcl hdl
 have ho':(s.heap.push { cls:=.type "set", dict:=none,data:=.set #[] 0 (.fresh 0 0 led) }).get? l = some { cls:=.type "list", dict:=odict,data:=.seq its nl,slots:=oslots }:=Heap.get?_push_of_some _ hol
 have gS:(s.heap.push { cls:=.type "set", dict:=none,data:=.set #[] 0 (.fresh 0 0 led) }).get? s.heap.objs.size = some { cls:=.type "set", dict:=none,data:=.set #[] 0 (.fresh 0 0 led) }:=Heap.get?_push_size _ rfl
 have hT:Shared.TypeIs { s with heap:=s.heap.push { cls:=.type "set", dict:=none,data:=.set #[] 0 (.fresh 0 0 led) } } (.ref s.heap.objs.size) "set" := ⟨_,gS,rfl⟩
 have h1:=F.sub_list_set
 have h2:=F.sub_list_frozenset
 have h3:(Value.type "list" == Value.type "dict") = false:=by decide
 have hl1:(s.heap.push { cls:=.type "set", dict:=none,data:=.set #[] 0 (.fresh 0 0 led) }).IsList l its:=⟨_,ho',rfl,nl,rfl⟩
 unfold Builtin.«set.__init__» noKeywords Builtin.Frozenset.updateFrom
 generalize hPI:pyIter = PI
 wp_walk
 subst hPI
 refine wpAny_pyIter_list hl1 (wpAny_bind (wpAny_runValue ?_))
 have lS:l < s.heap.objs.size:=Heap.lt_size hol
 refine Z1v (Walks.list (by simpa using hh) _ l ?hne its) s.heap.objs.size ?sf xs ln lb hv its.size 0 _ [] (by omega) (Nat.zero_le _) ⟨⟨_,Heap.get?_push_size _ rfl,rfl,rfl⟩,hl1.push _⟩ ?hS (Nat.le_refl _) ?hR
 case hne=>rw [Heap.size_push]; exact Nat.ne_of_lt (Nat.lt_succ_of_lt lS)
 case sf =>
  rw [Heap.size_push]
  intro m
  rcases List.mem_cons.mp m with e | m
  ·exact Nat.ne_of_lt (Nat.lt_succ_self _) e
  ·exact Nat.ne_of_gt lS (List.mem_singleton.mp m)
 case hS=>exact SetOf_congr ((setObjOf_fresh (knd:=strKind prog w) led).setOf (Heap.get?_push_of_some _ gS) (by unfold scanBound; omega)) (fun k=>(decide_eq_false (fun q=>nomatch q)).symm) rfl
 case hR =>
  intro h' tk hS kp
  refine wpAny_pure ?_; show wpAny _ _ (ret Value.none) _ _ { s with heap:=h',toks:=tk }
  refine wpAny_pure ⟨_,rfl,q h' tk hS fun b o lb e=>?_⟩
  refine kp b o (fun m=>?_) (Nat.ne_of_lt lb) (Heap.get?_push_of_some _ (Heap.get?_push_of_some _ e))
  rw [Heap.size_push] at m
  exact Nat.ne_of_lt (Nat.lt_succ_of_lt lb) (List.mem_singleton.mp m)
theorem Zmu {l:Addr} {its:Array Value} {xs:List Str} {Q:Value→Shared→Prop} (hh:A.handled = none) (hl:s.heap.IsList l its) (ln:xs.length = its.size) (lb:its.size + 1 < scanBound)
  (hv:∀ (i:Nat) (v:Value),its[i]? = some v→∃ k t,v = Value.str k t∧xs[i]? = some k)
  (q:∀ h' tk,h'.SetOf (strKind prog w) s.heap.objs.size (fun k=>decide (k ∈ Zlp xs)) (Zlp xs).length→(∀ b o,b < s.heap.objs.size→s.heap.get? b = some o→h'.get? b = some o)→Q (Value.ref s.heap.objs.size) { s with heap:=h',toks:=tk }) :
  wpAny (model prog w) A (call (.type "set") [Value.ref l]) Q E s:=by
 obtain ⟨c,tl,e0⟩:=F.called_set.mro
 have e1:=F.called_set.made
 have e2:=F.called_set.sub
 refine wpAny_call (codeAny_of_tree ?_); show wpAny _ _ (callAny (.type "set") _) _ _ _
 refine wpAny_pure ⟨Code.quiet_builtin _ (by decide +kernel),codeAny_builtin F.entry_type_call ?_⟩; rw [Around.under_plain (weight_type_call_type "set" [Value.ref l] []) rfl]
 have e3:=F.called_set.notType
 have e4:=F.called_set.canCreate
 have e5:=F.typeCall_set_1 (Value.ref l)
 repeat any_goals first | assumption | wp_step
 refine codeAny_mono (code_set_new_1 (Value.ref l) (E:=E) (Q₁:=fun obj s1=>∃ led:Bool,obj = Value.ref s.heap.objs.size∧s1 = { s with heap:=s.heap.push { cls:=.type "set", dict:=none,data:=.set #[] 0 (.fresh 0 0 led) } }) fun led=>⟨led,rfl,rfl⟩) fun r s1 r1=>?_
 cases r with
 | error e=>exact r1
 | ok fl =>
  cases fl with
  | ret obj =>
   obtain ⟨led,rfl,rfl⟩:=r1
   have gS:(s.heap.push { cls:=.type "set", dict:=none,data:=.set #[] 0 (.fresh 0 0 led) }).get? s.heap.objs.size = some { cls:=.type "set", dict:=none,data:=.set #[] 0 (.fresh 0 0 led) }:=Heap.get?_push_size _ rfl
   have hT:Shared.TypeIs { s with heap:=s.heap.push { cls:=.type "set", dict:=none,data:=.set #[] 0 (.fresh 0 0 led) } } (Value.ref s.heap.objs.size) "set" := ⟨_,gS,rfl⟩
   have e6:=F.called_set.init.lookup
   have e7:=F.called_set.init.bind (Value.ref s.heap.objs.size)
   repeat any_goals first | assumption | wp_step
   refine codeAny_mono (codeAny_call_builtin (R:=wants (fun r s2=>r = .none∧∃ h' tk,s2 = { s with heap:=h',toks:=tk }∧h'.SetOf (strKind prog w) s.heap.objs.size (fun k=>decide (k ∈ Zlp xs)) (Zlp xs).length∧∀ b o,b < s.heap.objs.size→s.heap.get? b = some o→h'.get? b = some o) E) F.called_set.init.plain F.entry_set_init (check_set_init_1 hT ?_)) fun r2 s2 hr2=>?_
   ·refine wpAny_mono (Z19 (by simpa using hh) hl ln lb hv (Q:=fun r s2=>r = .none∧∃ h' tk,s2 = { s with heap:=h',toks:=tk }∧h'.SetOf (strKind prog w) s.heap.objs.size (fun k=>decide (k ∈ Zlp xs)) (Zlp xs).length∧∀ b o,b < s.heap.objs.size→s.heap.get? b = some o→h'.get? b = some o) fun h' tk a1 a6=>⟨rfl,h',tk,rfl,a1,a6⟩) (fun fin s' hf=>?_) fun _ _ x=>x
    obtain ⟨v,rfl,hq⟩:=hf
    exact hq
   ·cases r2 with
    | error e=>exact hr2
    | ok fl2 =>
     cases fl2 with
     | ret r =>
      obtain ⟨rfl,h',tk,rfl,a1,a6⟩:=hr2
      repeat any_goals first | assumption | wp_step
      exact q h' tk a1 a6
     | _=>exact hr2.elim
  | _=>exact r1.elim
end
section
variable {X:Cx} {p c:Bool} {io:List Nat} {a e:Expr} {pos pos' pl pr:Pos} {t:TA} {mr:MAt} {ra:FA}
theorem Zi1 {ts:List Str} {its:List Value} (r:Vals (ts.map V.str) its):ts.length = its.length∧∀ (i:Nat) (v:Value),its[i]? = some v→∃ k t,v = Value.str k t∧ts[i]? = some k:=by
 refine ⟨by rw [← r.length,List.length_map],fun i v e=>?_⟩
 obtain ⟨l,rfl,rfl⟩:=Ze9 r
 have e:(l.map fun q=>Value.str q.1 q.2)[i]? = some v:=e
 rw [List.getElem?_map] at e
 obtain ⟨q,hq,rfl⟩:=Option.map_eq_some_iff.mp e
 exact ⟨q.1,q.2,rfl,by rw [List.getElem?_map,hq]; rfl⟩
noncomputable def Yao (K:PySem.W.Frag) (t:TA):TE:=fun σ H Q=>t σ H fun vs H1=>∃ (l:Addr) (ts:List Str),vs = [.ref l]∧SqL K H1 l (ts.map V.str)∧ts.length < 4095∧Q (.int (Zlp ts).length) H1
theorem Zll (hc:X.calm = true) (hgl:Gl X "len") (hml:X.mg "len" = none) (hvl:bootBuiltins "len" = some (.builtin "len")) (hg:Gl X "set") (hm:X.mg "set" = none) (hv:bootBuiltins "set" = some (.type "set")) (ha:PA X [a] t)
  (he:starEach [a] X.env = (false,eval a X.env) :: starEach [] X.env:=by rfl) (hpl:(backTo pos' (starEach [] X.env)).any (·.1) = false:=by rfl)
  (he':starEach [.Call (.Name "set" pr) [a] [] pos'] X.env = (false,eval (.Call (.Name "set" pr) [a] [] pos') X.env) :: starEach [] X.env:=by rfl) (hpl':(backTo pos (starEach [] X.env)).any (·.1) = false:=by rfl) :
  PE X (.Call (.Name "len" pl) [.Call (.Name "set" pr) [a] [] pos'] [] pos) (Yao X.K t):=by
 intro pins s σ H Q I h
 refine wpAny_Call_Name_kw (Zcj I hgl hml hvl ?_ (by decide) (by decide))
 refine PyProof.Rows.callWith_builtin1 ?_ he' hpl'
 rw [he']
 show wpAny _ _ (spliced ((false,eval (.Call (.Name "set" pr) [a] [] pos') X.env) :: backTo pos (starEach [] X.env))) _ _ s
 have inner:wpAny (model X.prog X.w) X.A (eval (.Call (.Name "set" pr) [a] [] pos') X.env) (fun u s2=>∃ (S:Addr) (f:Str→Bool) (n:Nat) (H1:Hp),u = Value.ref S∧s2.heap.SetOf (strKind X.prog X.w) S f n∧Inv X pins σ H1 s2∧Q (.int n) H1) X.xe s:=by
  refine wpAny_Call_Name_kw (Zcj I hg hm hv ?_ (by decide) (by decide))
  refine PyProof.Rows.callWith_type1 (thn (ha pos' pins s σ H _ I h) fun us s1 qz=>?_) he hpl
  obtain ⟨vs,H1,I1,r1,l,ts,rfl,hs,hb,q⟩:=qz
  obtain ⟨u,rfl,ru⟩:=vals1 r1
  cases (show u = Value.ref l from ru)
  obtain ⟨its,rv,pl,hz⟩:=I1.list hs
  obtain ⟨ll,g⟩:=Zi1 rv
  refine Zmu (its:=its.toArray) (I1.ok.hd hc) pl.isList (by simp [ll]) (by show _ < 4096; rw [List.size_toArray]; omega) (fun i v e=>g i v (by simpa using e)) fun h' tk a1 a6=>?_
  exact ⟨_,_,_,H1,rfl,a1,I1.kept (t':=tk) (fun b u e=>a6 b u (Heap.lt_size e) e),q⟩
 refine Calls.spliced_cons (thn inner fun u s2 qz=>?_)
 obtain ⟨S,f,n,H1,rfl,⟨o,es,ep,tb,ho,hex,hd,_,_,hz,hf,hn⟩,I2,q⟩:=qz
 subst hn
 refine Calls.spliced_nil ?_
 have:es.size < 4096:=hz
 exact call_len_set ho hex hd hf (by omega) ⟨.int es.size,H1,I2.kept (h':=s2.heap) (fun b o e=>e),⟨_,rfl⟩,q⟩
noncomputable def Zib:List PyData→Option PyData:=fun ds=>match ds with
 | [.list es]=>(Zgy es).bind fun ts=>if ts.length < 4095 then some (.int (Zlp ts).length) else none
 | _=>none
noncomputable def Zkp (mr:MAt):MEt:=fun δ K=>mr δ fun rs δ'=>∃ d,Zib (OT.datas rs) = some d∧K (.fz d) δ'
theorem Zei (hc:X.calm = true) (hgl:Gl X "len") (hml:X.mg "len" = none) (hvl:bootBuiltins "len" = some (.builtin "len")) (hg:Gl X "set") (hm:X.mg "set" = none) (hv:bootBuiltins "set" = some (.type "set")) (ha:MA X io p c [a] mr)
  (he:starEach [a] X.env = (false,eval a X.env) :: starEach [] X.env:=by rfl) (hpl:(backTo pos' (starEach [] X.env)).any (·.1) = false:=by rfl)
  (he':starEach [.Call (.Name "set" pr) [a] [] pos'] X.env = (false,eval (.Call (.Name "set" pr) [a] [] pos') X.env) :: starEach [] X.env:=by rfl) (hpl':(backTo pos (starEach [] X.env)).any (·.1) = false:=by rfl) :
  ME X io p true (.Call (.Name "len" pl) [.Call (.Name "set" pr) [a] [] pos'] [] pos) (Zkp mr):=by
 obtain ⟨_,A,s⟩:=ha
 refine ⟨_,Zll hc hgl hml hvl hg hm hv A he hpl he' hpl',fun C H σ δ fp ex K Q R h kk=>s C H σ δ fp ex _ _ R h fun H1 vs rs δ1 fp1 new r1 h1=>?_⟩
 have q:=r1.das R
 obtain ⟨d,h1,h2⟩:=h1
 generalize OT.datas rs = ds at q h1
 unfold Zib at h1
 split at h1
 case h_2=>cases h1
 obtain ⟨ts,h3,h1⟩:=bs h1
 split at h1
 case isFalse=>cases h1
 rename_i ok
 cases h1
 have fin:Q (.int (Zlp ts).length) H1:=kk _ _ _ δ1 fp1 [] (.fz r1.base r1.stp (.int _)) h2
 cases q with
 | cons q r0 =>
  cases r0
  cases q with
  | lst l e r=>exact ⟨_,ts,rfl,.inl (r.strs h3 ▸ e),ok,fin⟩
  | scr ks =>
   rename_i a ns
   cases ns with
   | nil=>cases h3; exact ⟨_,[],rfl,ks.sq,ok,fin⟩
   | cons n ns=>cases h3
noncomputable def Zgj (a:FA):FE:=fun δ=>(a δ).bind fun p=>(Zib (OT.datas p.1)).bind fun d=>some (.fz d,p.2)
theorem Zcy (h:ME X io p c e (Zkp (o2 ra))):ME X io p c e (o2 (Zgj ra)):=h.weak fun δ K h=>by
 obtain ⟨r,δ',h,k⟩:=h
 obtain ⟨⟨x,δ1⟩,h1,h⟩:=bs h
 obtain ⟨d,h2,h⟩:=bs h
 cases h
 exact ⟨x,_,h1,_,h2,k⟩
end
end L2
namespace L2
open PySem PySem.Spec PyProof.Rows
section
variable {X:Cx} {io:List Nat} {tg iter test:Expr} {rs:List Stmt} {mi:MIt} {g:MGt} {mt:MTt} {ur:MSt} {pos pi:Pos} {st:Stmt} {it:FI} {gg:FG} {t:FT} {r:FS}
noncomputable def Zs9 (D:Zcz):Zcz:={ D with nx:=fun _=>False,bk:=fun _=>False,ct:=fun _=>False }
noncomputable def Z50 (mt:MTt) (ur:MSt):MSt:=fun D δ=>mt δ fun b δ'=>if b = true then ur (Zs9 D) δ' else D.nx δ'
theorem Zu4 (hp:PassesOwn (model X.prog X.w) X.A X.env X.xe) (hc:X.calm = true) (hi:MI X io true false tg iter mi) (hg:MG X io false tg g) (ht:MT X io true test mt) (hr:MSs X io rs ur)
  (hs:∀ x,foldedSetIterable iter X.env x = pure x:=by intro _; rfl):MS X io (.For tg iter [.If test rs [] pi] [] pos) (Zzg mi g (Z50 mt ur)):=by
 obtain ⟨_,A,s⟩:=hi
 obtain ⟨_,G,sg⟩:=hg
 obtain ⟨_,T,sT⟩:=ht
 obtain ⟨_,B,sb⟩:=hr
 refine ⟨_,Zsf hp hc A G (Zm3 (Zzm T B Zmq)) hs,fun C H σ δ fp ex D D' R h E=>s C H σ δ fp ex _ _ R h fun J H1 ds δ1 fp1 R1 S1 it h1=>?_⟩
 obtain ⟨I,h0,turn,fin⟩:=h1
 refine ⟨fun i n σ' H'=>n = ds.length - i∧i ≤ ds.length∧∃ δ' fp',Rel C io H' σ' δ' fp' ex∧Kp H1 fp1 H' fp'∧Same H1 H'∧I i δ',⟨ds.length,rfl,Nat.zero_le _,δ1,fp1,R1,.refl _ _,Same.refl _,h0⟩,?_⟩
 intro i n σ2 H2 w
 obtain ⟨rfl,hle,δ2,fp2,R2,k2,sm,i2⟩:=w
 have itk:=it H2 (fun b o e _=>sm b o e) i
 by_cases hlt:i < ds.length
 ·have hd:ds[i]? = some ds[i]:=List.getElem?_eq_getElem hlt
  obtain ⟨go,yl⟩:=itk.1 _ hd
  refine .inr ⟨go,fun σ' H'=>∃ δ' fp',Rel C io H' σ' δ' fp' ex∧Kp H1 fp1 H' fp'∧Same H1 H'∧I (i + 1) δ',fun σ' H' q=>⟨ds.length - (i + 1),by omega,rfl,hlt,q⟩,fun x H3 hy=>?_⟩
  obtain ⟨s3,q3⟩:=yl x H3 hy
  have R3:=R2.mk0 s3
  have k3:Kp H1 fp1 H3 fp2:=k2.trans ⟨fun b o e _=>s3 _ _ e,fun z=>(nomatch z),fun a z=>.inl z,s3.al⟩
  refine sg C H3 σ2 δ2 fp2 ex x _ _ _ R3 (q3.wide fun a _ _ z=>nomatch z) (turn i _ δ2 hd i2) fun σ4 δ4 fp4 R4 k4 h4=>?_
  refine sT C H3 σ4 δ4 fp4 ex _ _ R4 h4 fun H5 b δ5 fp5 R5 S5 h5=>?_
  cases b with
  | true =>
   rw [if_pos rfl] at h5 ⊢
   exact sb C H5 σ4 δ5 fp5 ex _ _ R5 h5 ⟨fun _ _ _ _ _ _ z=>z.elim,fun _ _ _ _ _ _ z=>z.elim,fun _ _ _ _ _ _ z=>z.elim,E.rt⟩
  | false =>
   rw [if_neg Bool.false_ne_true] at h5 ⊢
   exact ⟨δ5,fp5,R5,(k3.trans k4).trans S5.kp,fun b o e=>S5.keep b o (s3 b o (sm b o e)) (.inl rfl),h5⟩
 ·have e:i = ds.length:=by omega
  subst e
  exact .inl ⟨itk.2 (by simp),E.nx H2 σ2 δ2 fp2 R2 (S1.kp.trans k2) (fin δ2 i2)⟩
theorem Zv4 {p1 p2:Bool} (hp:PassesOwn (model X.prog X.w) X.A X.env X.xe) (hc:X.calm = true) (hi:MI X io p1 false tg iter mi) (hg:MG X io false tg g) (ht:MT X io p2 test mt) (hr:MSs X io rs ur)
  (e1:p1 = true:=by rfl) (e2:p2 = true:=by rfl) (hs:∀ x,foldedSetIterable iter X.env x = pure x:=by intro _; rfl):MS X io (.For tg iter [.If test rs [] pi] [] pos) (Zzg mi g (Z50 mt ur)):=by
 subst e1 e2
 exact Zu4 hp hc hi hg ht hr hs
noncomputable def RtO (r:FS):Prop:=∀ D δ,oS r D δ→oS r (Zs9 D) δ
theorem Zu8 {e:FE}:RtO (wE e Za1):=fun D δ h=>by
 unfold oS wE at h ⊢
 split at h
 ·exact h
 ·exact h.elim
theorem Ztq (hr:RtO r) (h:MS X io st (Zzg (o2 it) (oG gg) (Z50 (o2 t) (oS r)))):MS X io st (oS (Zaf it gg (W0 t r fNx))):=h.weak fun D δ h=>by
 unfold oS Zaf at h
 split at h
 case h_2=>exact h.elim
 rename_i ds δ1 q
 refine ⟨ds,δ1,q,fun i δ'=>(forLoop gg (W0 t r fNx) (ds.drop i) δ').fits D,by show RS.fits D (forLoop gg _ (ds.drop 0) δ1); rw [List.drop_zero]; exact h,fun i d δ' hd z=>?_,fun δ' z=>?_⟩
 ·obtain ⟨hi,hdi⟩:=List.getElem?_eq_some_iff.mp hd
  replace z:RS.fits D (forLoop gg (W0 t r fNx) (ds.drop i) δ'):=z
  rw [List.drop_eq_getElem_cons hi,hdi,Jg] at z
  split at z
  case h_1=>exact z.elim
  rename_i δ2 q2
  refine ⟨δ2,q2,?_⟩
  have y:oS (W0 t r fNx) { D with nx:=fun δ'=>(forLoop gg (W0 t r fNx) (ds.drop (i + 1)) δ').fits D,ct:=fun δ'=>(forLoop gg (W0 t r fNx) (ds.drop (i + 1)) δ').fits D,bk:=D.nx } δ2:=by
   unfold oS
   cases q3:(W0 t r fNx) δ2 <;> rw [q3] at z <;> (try rw [q3]) <;> exact z
  unfold oS W0 at y
  split at y
  case h_2=>exact y.elim
  rename_i b δ3 q3
  refine ⟨b,δ3,q3,?_⟩
  split at y
  ·rename_i hb
   rw [if_pos hb]
   exact hr _ _ y
  ·rename_i hb
   rw [if_neg hb]
   exact y
 ·replace z:RS.fits D (forLoop gg (W0 t r fNx) (ds.drop ds.length) δ'):=z
  rw [List.drop_length] at z; exact z
end
section
variable {X:Cx} {io:List Nat} {e:Expr} {m:MEt} {fa:FE} {i:Nat} {pos pt:Pos} {st:Stmt}
noncomputable def Z2h (i:Nat) (m:MEt):MSt:=fun D δ=>m δ fun r _=>match δ[i]? with | some (some t)=>D.rt (.tp [.fz r.data,t]) (δ.set i none) | _=>False
theorem Zv5 (i:Nat) {x:Str} {px:Pos} {kk:Nat} (he:ME X io true true e m) (hio:i ∉ io:=by decide) (hN:X.N[i]? = some x:=by rfl) (hv:Vis X.env.scope x:=by first | exact Or.inl rfl | exact Or.inr (Or.inl rfl) | exact Or.inr (Or.inr rfl)) (hd:(x == ("__debug__" : Str)) = false:=by decide)
  (hcd:(x == ("__classdict__" : Str)) = false:=by decide) (hs:starEach [e,.Name x px] X.env = (false,eval e X.env) :: starEach [.Name x px] X.env:=by rfl) (hs2:starEach [.Name x px] X.env = (false,eval (.Name x px) X.env) :: starEach [] X.env:=by rfl):MS X io (.Return (some (.Tuple [e,.Name x px] kk pt)) pos) (Z2h i m):=by
 obtain ⟨_,A,s⟩:=he
 refine ⟨_,Zor (Zs3 (Jx A (Jx (pv i hN hv hd hcd) Zdn hs2) hs)),fun C H σ δ fp ex D D' R h E=>?_⟩
 refine s.pureAfter R h fun H1 v r R1 s1 q h1=>?_
 split at h1
 case h_2=>exact h1.elim
 rename_i t hi
 obtain ⟨v',e',o⟩:=R1.own i t hi
 refine ⟨v',e',by show 2 ≤ sizeLine; rw [sizeLine_eq]; decide,fun a ha=>?_⟩
 have s2:=Z2 ha (.tup [v,v'])
 have R2:=R1.mk0 s2
 have lw:∀ b,Lf C fp ex b→H1 b ≠ none→Lf C (fpu fp i []) (exu ex (fp i)) b:=fun b l _=>⟨fun z=>by
  rcases z.of_u with z | ⟨j,_,z⟩
  ·exact nomatch z
  ·exact l.1 ⟨j,z⟩,fun z=>z.elim l.2.1 fun z=>l.1 ⟨i,z⟩,l.2.2⟩
 have hn:∀ b ∈ fp i,C.H₀ b = none:=fun b m=>by
  rcases R1.new i b m with z | z
  ·exact absurd z.1 hio
  ·exact z
 have ow:Own X.K (upd H1 a (.tup [v,v'])) (Lf C (fpu fp i []) (exu ex (fp i))) (.ref a) (.tp [.fz r.data,t]) ([] ++ (fp i ++ [])) :=
  .tp Zm (.cons (.fz ((q.wide fun b l n=>lw b (l rfl) n).same s2)) (.cons ((o.wide lw).same s2) .nil))
 rw [List.nil_append,List.append_nil] at ow
 exact E.rt _ σ _ _ _ _ (fp i) (R2.take hi) ow (R1.nd i) hn h1
noncomputable def Zqf (i:Nat) (e:FE):FS:=wE e fun r δ=>match δ[i]? with | some (some t)=>.rt (.tp [.fz r.data,t]) (δ.set i none) | _=>.bad
theorem Zvn (hp:∀ δ r δ',fa δ = some (r,δ')→δ' = δ) (h:MS X io st (Z2h i (o2 fa))):MS X io st (oS (Zqf i fa)):=h.weak fun D δ h=>by
 unfold oS Zqf wE at h
 split at h
 case h_2=>exact h.elim
 rename_i r δ' q
 have ed:=hp _ _ _ q
 subst ed
 refine ⟨r,_,q,?_⟩
 dsimp only at h ⊢
 split at h
 ·exact h
 ·exact h.elim
instance nx_fRetT:NoEx (Zqf i fa):=⟨fun δ cn δ' h=>Zjn (fun r δ1 _ _ z=>by split at z <;> cases z) h⟩
end
section
variable {X:Cx} {io:List Nat} {x:Str} {pos:Pos}
theorem Zxb {n:Int} (hg:Gl X x) (hm:∃ t,X.mg x = some (.int n t)) (hdb:(x == ("__debug__" : Str)) = false:=by decide):ME X io true true (.Name x pos) (mC (.int n)):=by
 obtain ⟨t,h⟩:=hm
 exact Z1d hg h hdb
end
end L2
namespace L2
theorem Zry {i:Nat} {δ δ':Zc} {r:OT} (h:Zd i δ = some (r,δ')):δ' = δ:=by
 unfold Zd at h
 split at h
 ·cases h; rfl
 ·cases h
end L2
namespace L2
open PySem PySem.Spec PyProof.Rows
variable {G:PySem.W.Frag}
section
variable {X:Cx}
noncomputable def Z6x:R2:=fun x y H Q=>∃ a b ns ms,x = .ref a∧y = .ref b∧H a = some (.tup (ns.map V.int))∧H b = some (.tup (ms.map V.int))∧Q (.bl (ltI ns ms)) H
theorem Z04 (hu:X.A.units + 64 < cLine):OpR X (compareOp .Lt) Z6x:=by
 intro pins s σ H x y v u Q I rx ry h
 obtain ⟨a,b,ns,ms,rfl,rfl,ha,hb,q⟩:=h
 cases rx
 cases ry
 obtain ⟨its,r1,p1,_⟩:=I.tuple (.inl (.inl ha))
 obtain ⟨its',r2,p2,_⟩:=I.tuple (.inl (.inl hb))
 obtain ⟨⟨cls,dd,data,sl⟩,hl,hc,n,hd⟩:=p1
 obtain ⟨⟨cls2,dd2,data2,sl2⟩,hl2,hc2,n2,hd2⟩:=p2
 simp only at hc hd hc2 hd2
 subst hc hd hc2 hd2
 exact richCompare_meets_room (op:=.Lt) ⟨_,hl,rfl⟩ ⟨_,hl2,rfl⟩ F.slot_tuple_lt F.entry_tuple_lt (F.args_tuple_lt_2 _ _) (Zlb a b its.toArray its'.toArray n n2 dd dd2 sl sl2 (Zhe r1) (Zhe r2))
  ⟨hl,hl2,show Value.bool (ltI ns ms) ≠ Value.notImplemented∧_ from ⟨(fun x=>nomatch x),⟨.bl (ltI ns ms),H,I,rfl,q⟩⟩⟩ (by omega)
noncomputable def Z1z:PyData→PyData→Option PyData:=fun d e=>match d,e with
 | .tuple ds,.tuple es=>(Zl5 ds).bind fun ns=>(Zl5 es).bind fun ms=>some (.bool (ltI ns ms))
 | _,_=>none
noncomputable def Z8c:PyData→PyData→(PyData→Prop)→Prop:=fun d e k=>∃ r,Z1z d e = some r∧k r
theorem Z4b:ByS Z1z Z8c:=fun _ _ r _ h hk=>⟨r,h,hk⟩
theorem Zm2 {H:Hp} {L:Addr→Prop} {v:V} {ns:List Int} (h:Da G H L v (.tuple (ns.map PyData.int))):∃ a,v = .ref a∧H a = some (.tup (ns.map V.int)):=by
 generalize e:PyData.tuple (ns.map PyData.int) = d at h
 cases h with
 | tup e1 r =>
  cases e
  exact ⟨_,rfl,r.int_inv ▸ e1⟩
 | _=>cases e
theorem Zzt:P2s G Z6x Z8c:=fun H L x y d e k Q hx hy h kk=>by
 obtain ⟨r,h,hk⟩:=h
 unfold Z1z at h
 split at h
 case h_2=>cases h
 obtain ⟨ns,h1,h⟩:=bs h
 obtain ⟨ms,h2,h⟩:=bs h
 cases h
 rw [Zg6 h1] at hx
 rw [Zg6 h2] at hy
 obtain ⟨a,rfl,ha⟩:=Zm2 hx
 obtain ⟨b,rfl,hb⟩:=Zm2 hy
 exact ⟨a,b,ns,ms,rfl,rfl,ha,hb,kk _ _ (.bl _) hk⟩
end
end L2
namespace My
open PySem L2 PySem.Spec
noncomputable def xsL:List Str:=["NoWeb"]
noncomputable def J9:FS :=
 (Zz (wE (Zb Za2 (Zd 0) (Zb Zfd (Zb Zq0 (fC (.int 10)) (fC (.int 45))) (Zb Zq0 (fC (.int 10)) (fC (.int 45))))) (Jh 0))
  (Zz (wE (Zd0 Zn) (Jf 3))
  (Zz (wE (Zb gSb (Zd 0) (Zb Zq0 (fC (.int 10)) (fC (.int 18)))) (Jh 4))
  (Zz (Zaf (iRa (Ze (Zd 1) Zn)) (gNm 5)
  (Zz (wE (Zb Za2 (Zb Zfd (Zb Jq (Zb Jq (Zd 0) (Zb Zfd (fC (.int 977)) (Zd 5))) (fC (.int 1))) (fC (.int 48271))) (fC (.int 2147483647))) (Jh 6))
  (Zz (wE (Zb Za2 (Zb Zfd (Zd 6) (Zd 6)) (fC (.int 2147483629))) (Jh 6))
  (Zz (wE (Zb Zad (Zb Za2 (Zb Zfd (Zb Jq (Zd 6) (Zb Zfd (fC (.int 40692)) (Zb Jq (Zd 5) (fC (.int 3))))) (fC (.int 69621))) (fC (.int 2147483563))) (fC (.int 8))) (Jh 6))
  (Zz (W0 (tV (Zb gGe (Zd 0) (Zb Zq0 (fC (.int 10)) (fC (.int 18)))))
  (Zz (wE (Zd 4) (Jh 6))
  (wE (Zb Zad (Zd 4) (Zd 2)) (Jh 4)))
  fNx)
  (Yi 3 (Zb Za2 (Zd 6) (Zd 2))))))))
  (Zb8 3)))))
noncomputable def Yv:FD:=J8 3 7 J9
noncomputable def Zaw:FS :=
 (Zz (wE (Yh Yv (Ze (Zd 0) (Ze (fC (.int 50)) (Ze (fC (.int 60)) Zn)))) (Jh 1))
  (Zz (wE (Zb Za2 (Yx gIx (Zd 1) (fC (.int 0))) (fC (.int 8))) (Jh 2))
  (Zz (wE (Zd0 (Ze (Zvc Zl2 (fC (.str "")) (Ze (Wu 1 [1] (iRa (Ze (Zd 2) Zn)) (gNm 0) Zk9 (Yx Ziy (fC (.str "01")) (Zb Za2 (Zb Zad (Yx gIx (Zd 1) (Zb Jq (fC (.int 40)) (Zd 0))) (fC (.int 7))) (fC (.int 2))))) Zn)) Zn)) (Jf 3))
  (Zz (Zaf (iRb (Ze (fC (.int 1)) (Ze (Zb Jq (fC (.int 1)) (Zb Za2 (Yx gIx (Zd 1) (fC (.int 1))) (fC (.int 10)))) Zn))) (gNm 4)
  (Zz (wE (Yx gIx (J5 3) (Zb Za2 (Yx gIx (Zd 1) (Zb Jq (fC (.int 2)) (Zd 4))) (Zas Zb7 (Ze (J5 3) Zn)))) (Zlj 5))
  (Zz (wE (Zd0 (Ze (Yx gIx (Zd 1) (Zb Jq (fC (.int 12)) (Zd 4))) Zn)) (Jf 6))
  (Zz (W0 (tV (Zb gEq (Zb Za2 (Yx gIx (Zd 1) (Zb Jq (fC (.int 22)) (Zd 4))) (fC (.int 6))) (fC (.int 1))))
  (Yi 6 (Zb Zad (Yx gIx (Zd 1) (Zb Jq (fC (.int 22)) (Zd 4))) (fC (.int 6))))
  fNx)
  (Zz (Zaq 6 (Zaf (Zbw (Zd 6)) (gNm 7)
  (W0 (tV (Zb gGt (Zd 2) (fC (.int 0))))
  (Zz (wE (Zb Za2 (Zd 7) (Zd 2)) (Jh 8))
  (wE (Zb Zg7 (Zb Zg7 (Zxc (Zd 5) oN (oI (Zd 8))) (Yx Ziy (fC (.str "10")) (Zas Zf0 (Ze (Yx Ziy (Zd 5) (Zd 8)) Zn)))) (Zxc (Zd 5) (oI (Zb Jq (Zd 8) (fC (.int 1)))) oN)) (Jh 5)))
  fNx)))
  (W0 (tV (Zb (Zhm true) (Zd 5) (J5 3)))
  (Zde 3 (Ze (Zb Za2 (Yx gIx (Zd 1) (Zb Jq (fC (.int 32)) (Zd 4))) (Zb Jq (Zas Zb7 (Ze (J5 3) Zn)) (fC (.int 1)))) (Ze (Zd 5) Zn)))
  fNx))))))
  (Zb8 3)))))
noncomputable def Z1:FD:=J8 1 9 Zaw
noncomputable def Zal:FS :=
 (Zz (wE (Zd0 (Ze (fC (.int 0)) Zn)) (Jf 2))
  (Zz (Zaf (iRa (Ze (Zd 0) Zn)) (gNm 3)
  (Zaf (Zbw (Zd 1)) (gTp 2 (gCn (gNm 4) (gCn (gNm 5) gNl)))
  (W0 (tV (Zb gNe (Zb (Zhm false) (Zd 4) (J5 2)) (Zb (Zhm false) (Zd 5) (J5 2))))
  (Zan 2 (Wu 1 [2] (iTp (Zi0 (Ze (Zd 4) (Ze (Zd 5) Zn)))) (gNm 0) (tV (Zb (Zhm true) (Zd 0) (J5 1))) (Zd 0)))
  fNx)))
  (wE (Zb gEq (Zas Zb7 (Ze (J5 2) Zn)) (Zd 0)) Za1)))
noncomputable def Y8:FD:=J8 2 6 Zal
noncomputable def Je:FS :=
 (wE (Zh0 (fun i j=>decide (i ≤ j)) (fun i j=>decide (i ≤ j)) (fC (.int 1)) (Zd 0) (fC (.int 10))) Za1)
noncomputable def Yb:FD:=J8 1 1 Je
noncomputable def Zbu:FS :=
 (wE (Zsi (Zb gEq (Zas Zgw (Ze (Zd 0) Zn)) (Zd 1)) (Zb gEq (Zb Jq (Zvc Zdl (Zd 0) (Ze (fC (.str "0")) Zn)) (Zvc Zdl (Zd 0) (Ze (fC (.str "1")) Zn))) (Zd 1))) Za1)
noncomputable def Jb:FD:=J8 2 2 Zbu
noncomputable def Wx:FS :=
 (Zz (W0 (tO (tNo (tD (Yh Yb (Ze (Zas Zb7 (Ze (Zd 0) Zn)) Zn)))) (tV (Zb gLt (Zgj (Ze (Zd 0) Zn)) (Zas Zb7 (Ze (Zd 0) Zn)))))
  (Za0 "NoWeb")
  fNx)
  (Zaf (Zbw (Zd 0)) (gNm 1)
  (W0 (tNo (tD (Yh Jb (Ze (Zd 1) (Ze (Zas Zgw (Ze (Yx gIx (Zd 0) (fC (.int 0))) Zn)) Zn)))))
  (Za0 "NoWeb")
  fNx)))
noncomputable def Yz:FD:=J8 1 2 Wx
noncomputable def Jy:FS :=
 (wE (Zas Zb7 (Ze (Wu 2 [] (Zpc (Ze (Zd 0) (Ze (Zd 1) Zn))) (gTp 2 (gCn (gNm 0) (gCn (gNm 1) gNl))) (tV (Zb gNe (Zd 0) (Zd 1))) (Zd 0)) Zn)) Za1)
noncomputable def Yq:FD:=J8 2 2 Jy
noncomputable def Zaa:FS :=
 (Zz (wE (Wu 1 [] (iRa (Ze (Zd 0) Zn)) (gNm 0) Zk9 (Zd0 Zn)) (Jf 2))
  (Zz (Zaf (Zbw (Zd 1)) (gTp 2 (gCn (gNm 3) (gCn (gNm 4) gNl)))
  (Zz (Zf2 2 (Zd 3) (Zd 4))
  (Zf2 2 (Zd 4) (Zd 3))))
  (Zb8 2)))
noncomputable def Wq:FD:=J8 2 5 Zaa
noncomputable def Zau:FS :=
 (Zz (Zaf (Zpp (Ze (Zd 0) (Ze (fSl (Zd 0) (oI (fC (.int 1))) oN) Zn))) (gTp 2 (gCn (gNm 1) (gCn (gNm 2) gNl)))
  (W0 (tNo (tV (Zb Z1z (Zd 1) (Zd 2))))
  (wE (fC (.bool false)) Za1)
  fNx))
  (wE (fC (.bool true)) Za1))
noncomputable def Jl:FD:=J8 1 3 Zau
noncomputable def Wy:FS :=
 (Zz (W0 (tNo (tD (Yh Yb (Ze (Zd 0) Zn))))
  (Za0 "NoWeb")
  fNx)
  (Zz (Zaf (Zbw (Zd 1)) (gTp 2 (gCn (gNm 2) (gCn (gNm 3) gNl)))
  (W0 (tNo (tV (Zfa (fun i j=>decide (i ≤ j)) (fun i j=>decide (i < j)) (fun i j=>decide (i < j)) (fC (.int 0)) (Zd 2) (Zd 3) (Zd 0))))
  (Za0 "NoWeb")
  fNx))
  (W0 (tNo (tD (Yh Jl (Ze (Zd 1) Zn))))
  (Za0 "NoWeb")
  fNx)))
noncomputable def Yw:FD:=J8 2 4 Wy
noncomputable def Zam:FS :=
 (Zz (wE (Zsh (Zd 1) (fC (.int 0))) (Jf 2))
  (Zz (wE (Zd0 (Ze (Zd 1) Zn)) (Jh 3))
  (Zz (Zgd (tV (Zb gGt (Zas Zb7 (Ze (Zd 3) Zn)) (fC (.int 0)))) (Zz (wE (Zd0 Zn) (Jf 4))
  (Zz (Zaf (Zbw (Zd 3)) (gNm 5)
  (Zaf (Zbw (Yx gIx (Zd 0) (Zd 5))) (gNm 6)
  (W0 (tV (Zb (Zp8 true) (Zd 6) (J5 2)))
  (Zz (Zir 2 (Zb Jq (Yx Zkk (J5 2) (Zd 5)) (fC (.int 1))) (Zd 6))
  (Yi 4 (Zd 6)))
  fNx)))
  (Zaq 4 (wE (Zd 4) (Jh 3))))))
  (Zb8 2))))
noncomputable def W4:FD:=J8 2 7 Zam
noncomputable def Jz:FS :=
 (Zz (wX Yw (Ze (Zd 0) (Ze (Zd 1) Zn)) Zi6)
  (Zz (wE (Yh Wq (Ze (Zd 0) (Ze (Zd 1) Zn))) (Jh 2))
  (Zz (wE (Zd0 Zn) (Jf 3))
  (Zz (Zaf (iRa (Ze (Zd 0) Zn)) (gNm 4)
  (Zz (wE (Yh W4 (Ze (Zd 2) (Ze (Zd 4) Zn))) (Jh 5))
  (Zz (W0 (tV (Zb gLt (Zas Zn1 (Ze (Zd 5) Zn)) (Zd 0)))
  (Za0 "NoWeb")
  fNx)
  (Yi 3 (Wu 1 [5] (iRa (Ze (Zd 0) Zn)) (gNm 0) Zk9 (Yx Zkk (Zd 1) (Zd 0)))))))
  (Zb8 3)))))
noncomputable def Yk:FD:=J8 2 6 Jz
noncomputable def Yo:FS :=
 (Zz (wX Yz (Ze (Zd 0) Zn) Zi6)
  (Zz (wE (Zas Zb7 (Ze (Zd 0) Zn)) (Jh 1))
  (Zz (wE (Wu 2 [0] (Zbw (Yh Wt (Ze (Zd 1) Zn))) (gTp 2 (gCn (gNm 0) (gCn (gNm 1) gNl))) (tV (Zb gEq (Yh Yq (Ze (Yx gIx (Zd 2) (Zd 0)) (Ze (Yx gIx (Zd 2) (Zd 1)) Zn))) (fC (.int 1)))) (Zi0 (Ze (Zd 0) (Ze (Zd 1) Zn)))) (Jf 2))
  (Zz (wX Yk (Ze (Zd 1) (Ze (J5 2) Zn)) Zi6)
  (Zqf 2 (Zd 1))))))
noncomputable def Zq:FD:=J8 1 3 Yo
noncomputable def J6:FS :=
 (Zz (wE (fC (.bool false)) (Jh 1))
  (Zz (Zys xsL (wX Zq (Ze (Zd 0) Zn) Zi6) "CutError" 2 (wE (Zrg xsL "NoWeb" (Zd 2)) (Jh 1)))
  (wE (Zd 1) Za1)))
noncomputable def Ws:FD:=J8 1 3 J6
noncomputable def Zai:FS :=
 (wE (Zas Zb7 (Ze (Wu 1 [0,1] (iRa (Ze (Zas Zgw (Ze (Zd 0) Zn)) Zn)) (gNm 0) (tV (Zb gNe (Yx Ziy (Zd 1) (Zd 0)) (Yx Ziy (Zd 2) (Zd 0)))) (Zd 0)) Zn)) Za1)
noncomputable def Wa:FD:=J8 2 2 Zai
noncomputable def Zax:FS :=
 (Zz (wE (Zd0 Zn) (Jf 1))
  (Zz (Zaf (iRa (Ze (Zas Zb7 (Ze (Zd 0) Zn)) Zn)) (gNm 2)
  (Zan 1 (Wu 1 [2,0] (iRb (Ze (Zb Jq (Zd 2) (fC (.int 1))) (Ze (Zas Zb7 (Ze (Zd 0) Zn)) Zn))) (gNm 0) (tV (Zb gEq (Yh Wa (Ze (Yx gIx (Zd 2) (Zd 1)) (Ze (Yx gIx (Zd 2) (Zd 0)) Zn))) (fC (.int 1)))) (Zi0 (Ze (Zd 1) (Ze (Zd 0) Zn))))))
  (Zb8 1)))
noncomputable def Jk:FD:=J8 1 3 Zax
noncomputable def Zaz:FS :=
 (wE (Zsi (Zpz "int" (Zd 0)) (fUn Z3p (Zpz "bool" (Zd 0)))) Za1)
noncomputable def Ys:FD:=J8 1 1 Zaz
noncomputable def Ji:FS :=
 (Zz (wE (fBl Zoe (Ze (Zd 0) Zn)) (Jh 1))
  (Zz (wE (Yh Jk (Ze (Zd 0) Zn)) (Jh 2))
  (Zz (W0 (tNo (tD (Yh Y8 (Ze (Zas Zb7 (Ze (Zd 0) Zn)) (Ze (Zd 2) Zn)))))
  (wE (Zsi (Yh Ws (Ze (Zd 1) Zn)) (Zb gEq (Zd 1) (Zd 0))) Za1)
  fNx)
  (Zz (wX Zq (Ze (Zd 1) Zn) (Jf 3))
  (Zz (W0 (tO (tNo (tD (Zpz "tuple" (J5 3)))) (tO (tV (Zb gNe (J5 3) (Zi0 (Ze (Zas Zb7 (Ze (Zd 0) Zn)) (Ze (Zd 2) Zn))))) (tV (Zb gNe (Zd 1) (Zd 0)))))
  (wE (fC (.bool false)) Za1)
  fNx)
  (Zz (W0 (tO (tNo (tD (Yh Ys (Ze (Yx gIx (J5 3) (fC (.int 0))) Zn)))) (tNo (tD (Zpz "list" (Yx gIx (J5 3) (fC (.int 1)))))))
  (wE (fC (.bool false)) Za1)
  fNx)
  (Zz (Zaf (Zbw (Yx gIx (J5 3) (fC (.int 1)))) (Z12 4)
  (W0 (tO (tNo (tD (Zpz "tuple" (Zd 4)))) (tO (tNo (tD (Yh Ys (Ze (Yx gIx (Zd 4) (fC (.int 0))) Zn)))) (tNo (tD (Yh Ys (Ze (Yx gIx (Zd 4) (fC (.int 1))) Zn)))))) (wE (fC (.bool false)) Za1) fNx))
  (Zz (Zdt 3 1 (Zi0 (Ze (fC (.int 0)) (Ze (fC (.int 0)) Zn))))
  (wE (fC (.bool true)) Za1)))))))))
noncomputable def Wh:FD:=J8 1 5 Ji
noncomputable def Zf1:FS :=
 (Zz (wE (Wu 1 [] (Zbw (Yx Zp9 (fSl (Zd 0) (oI (fC (.int 1))) (oI (fC (.int 6)))) (Zd0 (Ze (Yh Yc (Ze (Zd 0) (Ze (fC (.int 0)) Zn))) Zn)))) (gNm 0) Zk9 (Yh Z1 (Ze (Zd 0) Zn))) (Jh 1))
  (Zz (Zaf (Zbw (Yx Zp9 (Zd 1) (Zq7 (Zd 1) oN oN (oI (fUn Z18 (fC (.int 1))))))) (gNm 2)
  (W0 (tNo (tD (Yh Wh (Ze (Zd 2) Zn))))
  (wE (fC (.bool false)) Za1)
  fNx))
  (wE (fC (.bool true)) Za1)))
noncomputable def Zga:FD:=J8 1 3 Zf1
end My
namespace L2
open PySem PySem.Spec
section
variable {e a b:FE} {as:FA} {δ:Zc} {Q:PyData→Zc→Prop} {QA:List PyData→Zc→Prop} {T:Bool→Zc→Prop} {t u:FT} {S S':FS} {N:Zc→Prop} {R:PyData→Zc→Prop} {i:Nat} {d:PyData}
end
end L2
namespace My
open PySem L2 PySem.Spec
inductive Rch (E:Nat→Nat→Prop) (s:Nat):Nat→Prop
 | refl:Rch E s s
 | step {k m:Nat}:Rch E s k→E k m→Rch E s m
theorem Rch.trans {E:Nat→Nat→Prop} {a b c:Nat} (h:Rch E a b) (k:Rch E b c):Rch E a c:=by
 induction k with
 | refl=>exact h
 | step _ e ih=>exact .step ih e
theorem Rch.symm {E:Nat→Nat→Prop} (hs:∀ a b,E a b→E b a) {a b:Nat} (h:Rch E a b):Rch E b a:=by
 induction h with
 | refl=>exact .refl
 | step _ e ih=>exact Rch.trans (.step .refl (hs _ _ e)) ih
theorem Rch.closed {E:Nat→Nat→Prop} {s:Nat} {ks:List Nat} (h0:s ∈ ks) (hc:∀ k ∈ ks,∀ m,E k m→m ∈ ks) {m:Nat} (h:Rch E s m):m ∈ ks:=by
 induction h with
 | refl=>exact h0
 | step _ e ih=>exact hc _ ih _ e
theorem Zbk {ks:List Nat} {n:Nat} (hd:ks.Nodup) (hl:∀ k ∈ ks,k < n):ks.length ≤ n:=by
 have:=hd.length_le_of_subset (l₂:=List.range n) fun k m=>List.mem_range.mpr (hl k m)
 rwa [List.length_range] at this
theorem Zse {ks:List Nat} {n:Nat} (hd:ks.Nodup) (hl:∀ k ∈ ks,k < n) (h:n ≤ ks.length):∀ k < n,k ∈ ks:=by
 intro k hk
 refine Classical.byContradiction fun c=>?_
 have hd':(k :: ks).Nodup:=List.nodup_cons.mpr ⟨c,hd⟩
 have:=Zbk (n:=n) hd' fun m hm=>(List.mem_cons.mp hm).elim (fun e=>e ▸ hk) (hl m)
 rw [List.length_cons] at this
 omega
theorem Zmk {ks:List Nat} {n:Nat} (h:∀ k < n,k ∈ ks):n ≤ ks.length:=by
 have:=(List.nodup_range (n:=n)).length_le_of_subset (l₂:=ks) fun k m=>h k (List.mem_range.mp m)
 rwa [List.length_range] at this
noncomputable def kI (k:Nat):KY:=.inl (.inl (k:Int))
noncomputable def dI (k:Nat):PyData:=.int (k:Int)
theorem Zst {a b:Nat} (h:kI a = kI b):a = b:=Int.ofNat.inj (Sum.inl.inj (Sum.inl.inj h))
theorem Zn8 (k:Nat):Zhl (dI k) = some (kI k):=rfl
noncomputable def Z8m (vs:List PyData):Prop:=∀ v ∈ vs,∃ i:Int,v = .int i
theorem Zmv {m:Nat}:∀ {ks:List Nat} {vs:List PyData},vs.length = ks.length→(m ∈ ks→∃ v ∈ vs,Zsb (kI m) (ks.map kI) vs = some v)∧(m ∉ ks→Zsb (kI m) (ks.map kI) vs = none):=by
 intro ks
 induction ks with
 | nil=>exact fun _=>⟨(fun h=>nomatch h),fun _=>rfl⟩
 | cons k ks ih =>
  intro vs hl
  cases vs with
  | nil=>cases hl
  | cons v vs =>
   obtain ⟨i1,i2⟩:=ih (Nat.succ.inj hl)
   rw [List.map_cons,Zsb]
   by_cases c:k = m
   ·subst c
    rw [if_pos rfl]
    exact ⟨fun _=>⟨v,.head _,rfl⟩,fun h=>absurd (.head _) h⟩
   ·rw [if_neg fun e=>c (Zst e)]
    refine ⟨fun h=>?_,fun h=>i2 fun z=>h (.tail _ z)⟩
    obtain ⟨w,hw,e⟩:=i1 ((List.mem_cons.mp h).resolve_left fun e=>c e.symm)
    exact ⟨w,.tail _ hw,e⟩
theorem Z2u {m:Nat} {ks:List Nat} (h:m ∉ ks):Zsj (kI m) (ks.map kI) = false:=by
 unfold Zsj
 rw [List.any_map]
 refine List.any_eq_false.mpr fun k hk e=>?_
 exact h (Zst (of_decide_eq_true e) ▸ hk)
theorem Zs7 {a b:FE} {δ:Zc} {x y d:PyData} (ha:EvV a δ x) (hb:EvV b δ y) (h:Zkk x y = some (.fz d)):EvV (Yx Zkk a b) δ d:=Zdi ha hb h (OT.data_fz _)
theorem Zyo {m:Nat} {ks:List Nat} {vs:List PyData} (hl:vs.length = ks.length) (hv:Z8m vs) (hm:m ∈ ks):∃ i:Int,Zkk (dcD false (ks.map kI) vs) (dI m) = some (.fz (.int i)):=by
 obtain ⟨v,hm2,e⟩:=(Zmv hl).1 hm
 obtain ⟨i,rfl⟩:=hv v hm2
 refine ⟨i,?_⟩
 show ((Zhl (dI m)).bind fun k=>if Zmn k = false then (Zff k _).map OT.fz else none) = _
 rw [Zn8,Option.bind_some,if_pos (show Zmn (kI m) = false from rfl),Zel,e]; rfl
theorem Z5j {m:Nat} {ks:List Nat} {vs:List PyData} (hl:vs.length = ks.length):Zp8 true (dI m) (dcD false (ks.map kI) vs) = some (.bool (!decide (m ∈ ks))):=by
 show ((Zhl (dI m)).bind fun k=>if Zmn k = false then some (PyData.bool (!(Zff k _).isSome)) else none) = _
 rw [Zn8,Option.bind_some,if_pos (show Zmn (kI m) = false from rfl),Zel]
 by_cases c:m ∈ ks
 ·obtain ⟨v,_,e⟩:=(Zmv hl).1 c
  rw [e,decide_eq_true c]; rfl
 ·rw [(Zmv hl).2 c,decide_eq_false c]; rfl
theorem Zqt {e j:FE} {δ:Zc} {i:Nat} {d:PyData} {ks:List Nat} {vs:List PyData} {m:Nat} (he:EvV e δ d) (hi:δ[i]? = some (some (.dc false (ks.map kI) vs))) (hj:EvV j δ (dI m)) (hl:ks.length < 1000000) (hm:m ∉ ks) :
  Zir i e j δ = .nx (δ.set i (some (.dc false ((ks ++ [m]).map kI) (vs ++ [d])))):=by
 obtain ⟨t1,e1,d1⟩:=he
 obtain ⟨t2,e2,d2⟩:=hj
 unfold Zir
 rw [Zb5,e1,Z5,hi]
 dsimp only
 rw [Zb5,e2,Z5,d1,d2,Zn8]
 dsimp only
 rw [if_pos ⟨rfl,by rw [sizeLine_eq,List.length_map]; omega⟩]
 unfold Zp5 Zml
 rw [Z2u hm,if_neg Bool.false_ne_true,if_neg Bool.false_ne_true,List.map_append]; rfl
noncomputable def eB (bs:PyData) (s:Nat) (ks:List Nat) (vs:List PyData) (ed:List Nat) (o4 o5 o6:Option OT):Zc:=[some (.fz bs),some (.fz (dI s)),some (.dc false (ks.map kI) vs),some (.fz (.list (ed.map dI))),o4,o5,o6]
noncomputable def lsO (ns:List Nat):OT:=.nd ((ns.map dI).map OT.fz)
theorem Zd8 (b:List Nat) (m:Nat):lsO (b ++ [m]) = .nd ((b.map dI).map OT.fz ++ [OT.fz (dI m)]):=by
 unfold lsO
 rw [List.map_append,List.map_append]; rfl
structure Met (E:Nat→Nat→Prop) (n s:Nat) (ks:List Nat) (vs:List PyData):Prop where
 nd:ks.Nodup
 st:s ∈ ks
 lt:∀ k ∈ ks,k < n
 rch:∀ k ∈ ks,Rch E s k
 len:vs.length = ks.length
 iv:Z8m vs
section
variable {E:Nat→Nat→Prop} {n s:Nat} {nb:Nat→List Nat} {bs:PyData}
theorem Zmc {ks ks0 bey ed:List Nat} {vs:List PyData} {p m:Nat} (hn:n ≤ 10) (M:Met E n s ks vs) (hk:ks = ks0 ++ bey) (hp:p ∈ ks) (hm:m < n) (he:E p m) :
  ∃ ks' bey' vs' o,Met E n s ks' vs'∧m ∈ ks'∧(∃ t,ks' = ks ++ t∧bey' = bey ++ t) ∧
   (W0 (tV (Zb (Zp8 true) (Zd 6) (J5 2))) (Zz (Zir 2 (Zb Jq (Yx Zkk (J5 2) (Zd 5)) (fC (.int 1))) (Zd 6)) (Yi 4 (Zd 6))) fNx) (eB bs s ks vs ed (some (lsO bey)) (some (.fz (dI p))) (some (.fz (dI m)))) = .nx (eB bs s ks' vs' ed (some (lsO bey')) (some (.fz (dI p))) o):=by
 have e2:EvV (J5 2) (eB bs s ks vs ed (some (lsO bey)) (some (.fz (dI p))) (some (.fz (dI m)))) (dcD false (ks.map kI) vs):=Zdq rfl (OT.data_dc _ _ _)
 have t:EvT (tV (Zb (Zp8 true) (Zd 6) (J5 2))) (eB bs s ks vs ed (some (lsO bey)) (some (.fz (dI p))) (some (.fz (dI m)))) (!decide (m ∈ ks)):=Zd7 (Zr (Za rfl) e2 (Z5j M.len))
 by_cases c:m ∈ ks
 ·rw [decide_eq_true c] at t
  exact ⟨ks,bey,vs,_,M,c,⟨[],(List.append_nil _).symm,(List.append_nil _).symm⟩,Yl t rfl⟩
 ·rw [decide_eq_false c] at t
  obtain ⟨i,hi⟩:=Zyo M.len M.iv hp
  have lk:=Zbk M.nd M.lt
  refine ⟨ks ++ [m],bey ++ [m],vs ++ [.int (i + 1)],some (.fz (dI m)),⟨?_,List.mem_append_left _ M.st,?_,?_,?_,?_⟩,List.mem_append_right _ (.head _),⟨[m],rfl,rfl⟩,Zao t (Zv (Zqt (Jw (Zs7 e2 (Za rfl) hi) Yr) rfl (Za rfl) (by omega) c) ?_)⟩
  ·exact List.nodup_append.mpr ⟨M.nd,List.nodup_cons.mpr ⟨(fun z=>nomatch z),.nil⟩,fun a ha b hb e=>c (by rw [← List.mem_singleton.mp hb,← e]; exact ha)⟩
  ·exact fun k hk=>(List.mem_append.mp hk).elim (M.lt k) fun q=>List.mem_singleton.mp q ▸ hm
  ·exact fun k hk=>(List.mem_append.mp hk).elim (M.rch k) fun q=>List.mem_singleton.mp q ▸ .step (M.rch p hp) he
  ·rw [List.length_append,List.length_append,M.len]; rfl
  ·exact fun v hv=>(List.mem_append.mp hv).elim (M.iv v) fun q=>⟨_,List.mem_singleton.mp q⟩
  ·refine (Zkw (ts:=(bey.map dI).map OT.fz) (Za rfl) rfl (by rw [List.length_map,List.length_map]; rw [hk,List.length_append] at lk; omega)).trans ?_
   rw [Zd8]; rfl
theorem Zlh {ks ks0 bey ed:List Nat} {vs:List PyData} {p:Nat} {o6:Option OT} {bd:List PyData} (hn:n ≤ 10) (hE:∀ m ∈ nb p,m < n∧E p m) (hbs:bs = .list bd) (hbd:bd[p]? = some (.list ((nb p).map dI))) (M:Met E n s ks vs) (hk:ks = ks0 ++ bey) (hp:p ∈ ks) :
  ∃ bey' vs' o,Met E n s (ks0 ++ bey') vs'∧(∀ m ∈ nb p,m ∈ ks0 ++ bey')∧(∃ t,bey' = bey ++ t) ∧
   (Zaf (Zbw (Yx gIx (Zd 0) (Zd 5))) (gNm 6) (W0 (tV (Zb (Zp8 true) (Zd 6) (J5 2))) (Zz (Zir 2 (Zb Jq (Yx Zkk (J5 2) (Zd 5)) (fC (.int 1))) (Zd 6)) (Yi 4 (Zd 6))) fNx)) (eB bs s ks vs ed (some (lsO bey)) (some (.fz (dI p))) o6) = .nx (eB bs s (ks0 ++ bey') vs' ed (some (lsO bey')) (some (.fz (dI p))) o):=by
 refine Exists.elim (Zey (δ:=eB bs s ks vs ed (some (lsO bey)) (some (.fz (dI p))) o6) (it:=Zbw (Yx gIx (Zd 0) (Zd 5))) (g:=gNm 6) (S:=W0 (tV (Zb (Zp8 true) (Zd 6) (J5 2))) (Zz (Zir 2 (Zb Jq (Yx Zkk (J5 2) (Zd 5)) (fC (.int 1))) (Zd 6)) (Yi 4 (Zd 6))) fNx)
  (fun i δ=>∃ bey' vs' o,δ = eB bs s (ks0 ++ bey') vs' ed (some (lsO bey')) (some (.fz (dI p))) o∧Met E n s (ks0 ++ bey') vs'∧p ∈ ks0 ++ bey'∧(∃ t,bey' = bey ++ t)∧∀ j m,j < i→(nb p)[j]? = some m→m ∈ ks0 ++ bey')
  (Zbd (ds:=(nb p).map dI) (Zdj (ds:=bd) (i:=p) (hbs ▸ Za rfl) (Za rfl) (Zg5 hbd))) ⟨bey,vs,o6,by rw [hk],hk ▸ M,hk ▸ hp,⟨[],(List.append_nil _).symm⟩,fun j m z=>absurd z (Nat.not_lt_zero _)⟩ (fun i d δ hd h=>?turn)) fun δ' z=>?fin
 case fin =>
  obtain ⟨e,bey',vs',o,rfl,M',hp',⟨t,ht⟩,hc⟩:=z
  rw [List.length_map] at hc
  exact ⟨bey',vs',o,M',fun m hm=>by
   obtain ⟨j,hj,e⟩:=List.getElem_of_mem hm
   exact hc j m hj (by rw [List.getElem?_eq_getElem hj,e]),⟨t,ht⟩,e⟩
 case turn =>
  obtain ⟨bey',vs',o,rfl,M',hp',⟨t,ht⟩,hc⟩:=h
  rw [List.getElem?_map] at hd
  obtain ⟨m,hm,rfl⟩:=Option.map_eq_some_iff.mp hd
  obtain ⟨lm,em⟩:=hE m (List.mem_of_getElem? hm)
  obtain ⟨ks2,bey2,vs2,o2,M2,m2,⟨t2,h1,h2⟩,run⟩:=Zmc (bs:=bs) (ed:=ed) hn M' rfl hp' lm em
  have e2:ks2 = ks0 ++ bey2:=by rw [h1,h2,List.append_assoc]
  rw [e2] at M2 m2 run
  refine ⟨_,_,rfl,.inl run,bey2,vs2,o2,rfl,M2,?_,⟨t ++ t2,by rw [h2,ht,List.append_assoc]⟩,fun j k hj hk=>?_⟩
  ·rw [← e2,h1]; exact List.mem_append_left _ hp'
  ·rcases Nat.lt_succ_iff_lt_or_eq.mp hj with hj | rfl
   ·rw [← e2,h1]; exact List.mem_append_left _ (hc j k hj hk)
   ·rw [hm] at hk; cases hk; exact m2
end
noncomputable def Nb (nb:Nat→List Nat):Nat→Nat→Prop:=fun p m=>m ∈ nb p
structure Web (n:Nat) (nb:Nat→List Nat) (bs:PyData):Prop where
 le:n ≤ 10
 lt:∀ p m,m ∈ nb p→m < n
 bs:∃ bd,bs = .list bd∧∀ p < n,bd[p]? = some (.list ((nb p).map dI))
noncomputable def inB:FS:=Zaf (Zbw (Yx gIx (Zd 0) (Zd 5))) (gNm 6) (W0 (tV (Zb (Zp8 true) (Zd 6) (J5 2))) (Zz (Zir 2 (Zb Jq (Yx Zkk (J5 2) (Zd 5)) (fC (.int 1))) (Zd 6)) (Yi 4 (Zd 6))) fNx)
noncomputable def Zy4:FS:=Zz (wE (Zd0 Zn) (Jf 4)) (Zz (Zaf (Zbw (Zd 3)) (gNm 5) inB) (Zaq 4 (wE (Zd 4) (Jh 3))))
noncomputable def Zwj:FT:=tV (Zb gGt (Zas Zb7 (Ze (Zd 3) Zn)) (fC (.int 0)))
section
variable {n s:Nat} {nb:Nat→List Nat} {bs:PyData}
theorem Zwg (W:Web n nb bs) {ks ed:List Nat} {vs:List PyData} {o4 o5 o6:Option OT} (M:Met (Nb nb) n s ks vs) (hed:∀ p ∈ ed,p ∈ ks) :
  ∃ bey vs' o4' o5' o6',Met (Nb nb) n s (ks ++ bey) vs'∧(∀ p ∈ ed,∀ m ∈ nb p,m ∈ ks ++ bey)∧Zy4 (eB bs s ks vs ed o4 o5 o6) = .nx (eB bs s (ks ++ bey) vs' bey o4' o5' o6'):=by
 obtain ⟨bd,hbs,hbd⟩:=W.bs
 refine Exists.elim (Zey (δ:=eB bs s ks vs ed (some (.nd [])) o5 o6) (it:=Zbw (Zd 3)) (g:=gNm 5) (S:=inB)
  (fun i δ=>∃ bey vs' o5 o6,δ = eB bs s (ks ++ bey) vs' ed (some (lsO bey)) o5 o6∧Met (Nb nb) n s (ks ++ bey) vs'∧∀ j p,j < i→ed[j]? = some p→∀ m ∈ nb p,m ∈ ks ++ bey)
  (Zbd (ds:=ed.map dI) (Za rfl)) ⟨[],vs,o5,o6,by rw [List.append_nil]; rfl,by rw [List.append_nil]; exact M,fun j m z=>absurd z (Nat.not_lt_zero _)⟩ (fun i d δ hd h=>?turn)) fun δ' z=>?fin
 case fin =>
  obtain ⟨e,bey,vs',o5',o6',rfl,M',hc⟩:=z
  rw [List.length_map] at hc
  refine ⟨bey,vs',some (.fz (.list (bey.map dI))),o5',o6',M',fun p hp=>?_,Zv Zfu (Zv e (Zh1 (o:=lsO bey) rfl ?_))⟩
  ·obtain ⟨j,hj,e⟩:=List.getElem_of_mem hp
   exact hc j p hj (by rw [List.getElem?_eq_getElem hj,e])
  ·have hd:(lsO bey).data = .list (bey.map dI):=by unfold lsO; rw [OT.data_nd,OT.map_fz]
   rw [hd]
   exact Ym (Za rfl)
 case turn =>
  obtain ⟨bey,vs',o5,o6,rfl,M',hc⟩:=h
  rw [List.getElem?_map] at hd
  obtain ⟨p,hp,rfl⟩:=Option.map_eq_some_iff.mp hd
  have pk:p ∈ ks ++ bey:=List.mem_append_left _ (hed p (List.mem_of_getElem? hp))
  obtain ⟨bey',vs2,o,M2,m2,⟨t,ht⟩,run⟩:=Zlh (ed:=ed) (o6:=o6) W.le (fun m hm=>⟨W.lt p m hm,hm⟩) hbs (hbd p (M'.lt p pk)) M' rfl pk
  refine ⟨_,_,rfl,.inl run,bey',vs2,_,o,rfl,M2,fun j k hj hk m hm=>?_⟩
  rcases Nat.lt_succ_iff_lt_or_eq.mp hj with hj | rfl
  ·rw [ht,← List.append_assoc]; exact List.mem_append_left _ (hc j k hj hk m hm)
  ·rw [hp] at hk; cases hk; exact m2 m hm
theorem Zjp {ks ed:List Nat} {vs:List PyData} {o4 o5 o6:Option OT}:Zwj (eB bs s ks vs ed o4 o5 o6) = some (decide (0 < ed.length),eB bs s ks vs ed o4 o5 o6):=by
 refine Zd7 (Zw5 (Za3 (ds:=ed.map dI) (Za rfl)) Yr ?_)
 rw [List.length_map]
 exact decide_eq_decide.mpr ⟨fun h=>by omega,fun h=>by omega⟩
theorem Zwd {t:FT} {u:FS} {k:Nat} {δ δ2:Zc} (h:t δ = some (true,δ)) (g:u δ = .nx δ2):whileLoop t u (k + 1) δ = whileLoop t u k δ2:=by
 rw [whileLoop,h]
 dsimp only
 rw [if_pos rfl,g]
theorem Zo8 {t:FT} {u:FS} {k:Nat} {δ:Zc} (h:t δ = some (false,δ)):whileLoop t u (k + 1) δ = .nx δ:=by
 rw [whileLoop,h]; rfl
theorem Zxd (W:Web n nb bs) (N:Nat):∀ {ks ed:List Nat} {vs:List PyData} {o4 o5 o6:Option OT},Met (Nb nb) n s ks vs→(∀ p ∈ ed,p ∈ ks)→(∀ k ∈ ks,k ∉ ed→∀ m ∈ nb k,m ∈ ks)→2 * (n - ks.length) + (if ed = [] then 0 else 1) ≤ N →
  ∃ f ks' vs' o3 o4' o5' o6',whileLoop Zwj Zy4 f (eB bs s ks vs ed o4 o5 o6) = .nx (eB bs s ks' vs' o3 o4' o5' o6')∧Met (Nb nb) n s ks' vs'∧∀ k ∈ ks',∀ m ∈ nb k,m ∈ ks':=by
 induction N with
 | zero =>
  intro ks ed vs o4 o5 o6 M hed hc hN
  have e:ed = []:=Classical.byContradiction fun c=>by rw [if_neg c] at hN; omega
  subst e
  exact ⟨1,ks,vs,_,_,_,_,Zo8 Zjp,M,fun k hk=>hc k hk fun z=>nomatch z⟩
 | succ N ih =>
  intro ks ed vs o4 o5 o6 M hed hc hN
  by_cases e:ed = []
  ·subst e
   exact ⟨1,ks,vs,_,_,_,_,Zo8 Zjp,M,fun k hk=>hc k hk fun z=>nomatch z⟩
  ·rw [if_neg e] at hN
   obtain ⟨bey,vs',p4,p5,p6,M',m',run⟩:=Zwg (o4:=o4) (o5:=o5) (o6:=o6) W M hed
   have ll:=Zbk M'.nd M'.lt
   rw [List.length_append] at ll
   have tt:Zwj (eB bs s ks vs ed o4 o5 o6) = some (true,eB bs s ks vs ed o4 o5 o6):=by
    rw [Zjp,decide_eq_true (List.length_pos_iff.mpr e)]
   have c1:∀ k ∈ ks ++ bey,k ∉ bey→∀ m ∈ nb k,m ∈ ks ++ bey:=fun k hk hb m hm=>by
    have k0:k ∈ ks:=(List.mem_append.mp hk).resolve_right hb
    by_cases ke:k ∈ ed
    ·exact m' k ke m hm
    ·exact List.mem_append_left _ (hc k k0 ke m hm)
   have c2:2 * (n - (ks ++ bey).length) + (if bey = [] then 0 else 1) ≤ N:=by
    rw [List.length_append]
    by_cases b:bey = []
    ·rw [if_pos b,b]; show 2 * (n - (ks.length + 0)) + 0 ≤ N; omega
    ·rw [if_neg b]
     have:=List.length_pos_iff.mpr b
     omega
   obtain ⟨f,ks',vs2,o3,q4,q5,q6,h1,h2,h3⟩:=ih (ks:=ks ++ bey) (ed:=bey) (o4:=p4) (o5:=p5) (o6:=p6) M' (fun p hp=>List.mem_append_right _ hp) c1 c2
   exact ⟨f + 1,ks',vs2,o3,q4,q5,q6,(Zwd tt run).trans h1,h2,h3⟩
theorem Zcr (W:Web n nb bs) (hs:s < n):∃ ks vs,Told W4 [bs,dI s] (dcD false (ks.map kI) vs)∧Met (Nb nb) n s ks vs∧∀ m,m ∈ ks ↔ Rch (Nb nb) s m:=by
 have M0:Met (Nb nb) n s [s] [.int 0]:=⟨List.nodup_cons.mpr ⟨(fun z=>nomatch z),.nil⟩,.head _,fun k hk=>List.mem_singleton.mp hk ▸ hs,fun k hk=>List.mem_singleton.mp hk ▸ .refl,rfl,fun v hv=>⟨0,List.mem_singleton.mp hv⟩⟩
 obtain ⟨f,ks,vs,o3,o4,o5,o6,run,M,cl⟩:=Zxd (ed:=[s]) (o4:=none) (o5:=none) (o6:=none) W _ M0 (fun p hp=>hp) (fun k hk hn=>absurd hk hn) (Nat.le_refl _)
 refine ⟨ks,vs,We rfl <| Wv (δ':=[some (.fz bs),some (.fz (dI s)),some (.dc false [kI s] [.int 0]),none,none,none,none]) ?_ <| Wv (Ym (Ztm (ds:=[dI s]) (Zf (Za rfl) Zk) (show 1 ≤ 1000 by decide))) <| Wv (Znd f run (fun z=>nomatch z)) (Z0e (o:=.dc false (ks.map kI) vs) rfl (OT.data_dc _ _ _)),M,fun m=>⟨M.rch m,Rch.closed M.st cl⟩⟩
 rfl
end
theorem Zlf {f g:Int→Int→Bool} {a b c:FE} {δ:Zc} {i j k:Int} (ha:EvV a δ (.int i)) (hb:EvV b δ (.int j)) (hc:EvV c δ (.int k)) (h:f i j = true) (hg:g j k = true):EvV (Zh0 f g a b c) δ (.bool true):=by
 obtain ⟨_,e1,d1⟩:=ha
 obtain ⟨_,e2,d2⟩:=hb
 obtain ⟨_,e3,d3⟩:=hc
 refine ⟨.fz (.bool true),?_,OT.data_fz _⟩
 unfold Zh0
 rw [e1,Option.bind_some,e2,Option.bind_some]
 dsimp only
 rw [d1,d2]
 dsimp only
 rw [if_pos h,e3,Option.bind_some,d3]
 dsimp only
 rw [hg]
theorem Zag {n:Nat} (h1:1 ≤ n) (h2:n ≤ 10):Told Yb [dI n] (.bool true) :=
 We rfl (Zak (Zlf Yr (Za rfl) Yr (decide_eq_true (show (1:Int) ≤ n by omega)) (decide_eq_true (show (n:Int) ≤ 10 by omega))))
theorem Z3i (n:Nat):Zcw 0 n = (List.range n).map dI:=List.map_congr_left fun i _=>by
 show PyData.int (0 + (i:Int)) = _
 rw [Int.zero_add]; rfl
noncomputable def nbR (rs:List (Nat × Nat)) (p:Nat):List Nat:=rs.flatMap fun r=>if r.1 = p then [r.2] else if r.2 = p then [r.1] else []
theorem Zq4 (rs:List (Nat × Nat)) (r:Nat × Nat) (p:Nat):nbR (rs ++ [r]) p = nbR rs p ++ (if r.1 = p then [r.2] else if r.2 = p then [r.1] else []):=by
 unfold nbR
 rw [List.flatMap_append,List.flatMap_cons,List.flatMap_nil,List.append_nil]
theorem Ze5 {rs:List (Nat × Nat)} {p m:Nat}:m ∈ nbR rs p ↔ (p,m) ∈ rs∨(m,p) ∈ rs:=by
 unfold nbR
 rw [List.mem_flatMap]
 constructor
 ·intro h
  obtain ⟨⟨a,b⟩,hr,hm⟩:=h
  dsimp only at hm
  split at hm
  ·rename_i e; subst e; rw [List.mem_singleton.mp hm]; exact .inl hr
  ·split at hm
   ·rename_i e; subst e; rw [List.mem_singleton.mp hm]; exact .inr hr
   ·cases hm
 ·intro h
  rcases h with h | h
  ·exact ⟨_,h,by dsimp only; rw [if_pos rfl]; exact .head _⟩
  ·refine ⟨_,h,?_⟩
   dsimp only
   split
   ·rename_i e; subst e; exact .head _
   ·rw [if_pos rfl]; exact .head _
theorem set_range {f:Nat→OT} {n a:Nat} {v:OT}:((List.range n).map f).set a v = (List.range n).map fun p=>if p = a then v else f p:=by
 refine List.ext_getElem? fun i=>?_
 rw [List.getElem?_set,List.getElem?_map,List.getElem?_map,List.length_map,List.length_range]
 by_cases c:i < n
 ·rw [List.getElem?_range c]
  by_cases e:a = i
  ·subst e; rw [if_pos rfl,if_pos c]; show _ = some (if _ then _ else _); rw [if_pos rfl]
  ·rw [if_neg e]; show _ = some (if _ then _ else _); rw [if_neg fun z=>e z.symm]; rfl
 ·rw [List.getElem?_eq_none (by rw [List.length_range]; omega)]
  split
  ·split
   ·omega
   ·rfl
  ·rfl
theorem Zk2 {j e:FE} {δ:Zc} {i k:Nat} {ts us:List OT} {d:PyData} (hi:δ[i]? = some (some (.nd ts))) (hj:EvV j δ (dI k)) (ht:ts[k]? = some (.nd us)) (he:EvV e δ d) (hl:us.length ≤ 1000000):Zf2 i j e δ = .nx (δ.set i (some (.nd (ts.set k (.nd (us ++ [.fz d])))))):=by
 obtain ⟨t1,e1,d1⟩:=hj
 obtain ⟨t2,e2,d2⟩:=he
 have hk:k < ts.length:=(List.getElem?_eq_some_iff.mp ht).1
 have hx:ixN ts.length (k:Int) = some k:=Zsq hk
 unfold Zf2
 rw [hi]
 dsimp only
 rw [Zb5,e1,Z5,d1]
 show (match ixN ts.length (k:Int) with | some j=>_ | none=>_) = _
 rw [hx]
 dsimp only
 rw [ht]
 dsimp only
 rw [Zb5,e2,Z5,d2,if_pos (by rw [sizeLine_eq]; omega)]
noncomputable def bO (rs:List (Nat × Nat)) (n:Nat):OT:=.nd ((List.range n).map fun p=>lsO (nbR rs p))
theorem Zwu (rs:List (Nat × Nat)) (p:Nat):(nbR rs p).length ≤ rs.length:=by
 unfold nbR
 induction rs with
 | nil=>exact Nat.le_refl _
 | cons r rs ih =>
  rw [List.flatMap_cons,List.length_append,List.length_cons]
  have:(if r.1 = p then [r.2] else if r.2 = p then [r.1] else []).length ≤ 1:=by
   split
   ·exact Nat.le_refl _
   ·split
    ·exact Nat.le_refl _
    ·exact Nat.zero_le _
  omega
theorem Zho {n:Nat} {rs:List (Nat × Nat)} (hn:n ≤ 10) (hr:∀ r ∈ rs,r.1 < r.2∧r.2 < n) (hl:rs.length ≤ 1000):Told Wq [dI n,.list (rs.map ptD)] (.list ((List.range n).map fun p=>.list ((nbR rs p).map dI))):=by
 have h0:wE (Wu 1 [] (iRa (Ze (Zd 0) Zn)) (gNm 0) Zk9 (Zd0 Zn)) (Jf 2) (Zac 5 [dI n,.list (rs.map ptD)]) = .nx [some (.fz (dI n)),some (.fz (.list (rs.map ptD))),some (bO [] n),none,none]:=by
  refine (Zc9 (o:=.nd ((List.range n).map fun _=>.nd [])) (Zjz (cs:=[]) (List.range n) dI _ (hi:=?_) (by rw [List.length_range,sizeLine_eq]; omega) rfl fun x _=>rfl)).trans rfl
  rw [← Z3i]
  exact Zfk (Zf (Za rfl) Zk) (by omega)
 refine We rfl <| Wv h0 <| Zge (ds:=rs.map ptD) (fun i δ=>∃ z3 z4,δ = [some (.fz (dI n)),some (.fz (.list (rs.map ptD))),some (bO (rs.take i) n),z3,z4]) (Zbd (Za rfl)) ⟨_,_,by rw [List.take_zero]⟩ (fun i d δ hd h=>?_) fun δ' h=>?_
 ·obtain ⟨z3,z4,rfl⟩:=h
  rw [List.getElem?_map] at hd
  obtain ⟨⟨a,b⟩,hab,rfl⟩:=Option.map_eq_some_iff.mp hd
  obtain ⟨l1,l2⟩:=hr _ (List.mem_of_getElem? hab)
  have l1:a < b:=l1
  have l2:b < n:=l2
  have tk:rs.take (i + 1) = rs.take i ++ [(a,b)]:=by rw [List.take_succ,hab]; rfl
  have nl:∀ p,(nbR (rs.take i) p).length ≤ 1000:=fun p=>by
   have h1:=Zwu (rs.take i) p
   have h2:(rs.take i).length ≤ rs.length:=by rw [List.length_take]; exact Nat.min_le_right _ _
   omega
  have s1:=Zk2 (i:=2) (j:=Zd 3) (e:=Zd 4) (δ:=[some (.fz (dI n)),some (.fz (.list (rs.map ptD))),some (bO (rs.take i) n),some (.fz (dI a)),some (.fz (dI b))]) (k:=a) (us:=((nbR (rs.take i) a).map dI).map OT.fz) (d:=dI b) rfl (Za rfl) (by rw [List.getElem?_map,List.getElem?_range (by omega)]; rfl) (Za rfl) (by rw [List.length_map,List.length_map]; have:=nl a; omega)
  rw [set_range] at s1
  have s2:=Zk2 (i:=2) (j:=Zd 4) (e:=Zd 3) (δ:=[some (.fz (dI n)),some (.fz (.list (rs.map ptD))),some (.nd ((List.range n).map fun p=>if p = a then OT.nd (((nbR (rs.take i) a).map dI).map OT.fz ++ [.fz (dI b)]) else lsO (nbR (rs.take i) p))),some (.fz (dI a)),some (.fz (dI b))]) (k:=b) (us:=((nbR (rs.take i) b).map dI).map OT.fz) (d:=dI a) rfl (Za rfl) (by rw [List.getElem?_map,List.getElem?_range (by omega)]; show some (if b = a then _ else _) = _; rw [if_neg (by omega)]; rfl) (Za rfl) (by rw [List.length_map,List.length_map]; have:=nl b; omega)
  rw [set_range] at s2
  refine ⟨_,_,rfl,.inl (Zv s1 s2),some (.fz (dI a)),some (.fz (dI b)),?_⟩
  have e:((List.range n).map fun p=>if p = b then OT.nd (((nbR (rs.take i) b).map dI).map OT.fz ++ [.fz (dI a)]) else if p = a then OT.nd (((nbR (rs.take i) a).map dI).map OT.fz ++ [.fz (dI b)]) else lsO (nbR (rs.take i) p)) = (List.range n).map fun p=>lsO (nbR (rs.take (i + 1)) p):=List.map_congr_left fun p _=>by
   rw [tk,Zq4]
   by_cases c1:p = b
   ·subst c1; rw [if_pos rfl]; dsimp only; rw [if_neg (by omega),if_pos rfl,Zd8]
   ·rw [if_neg c1]
    by_cases c2:p = a
    ·subst c2; rw [if_pos rfl]; dsimp only; rw [if_pos rfl,Zd8]
    ·rw [if_neg c2]; dsimp only; rw [if_neg fun z=>c2 z.symm,if_neg fun z=>c1 z.symm,List.append_nil]
  unfold bO
  rw [← e]; rfl
 ·obtain ⟨z3,z4,rfl⟩:=h
  refine Z0e (o:=bO rs n) (by rw [List.length_map,List.take_length]; rfl) ?_
  unfold bO
  rw [OT.data_nd,List.map_map]
  refine congrArg _ (List.map_congr_left fun p _=>?_)
  show (lsO (nbR rs p)).data = _
  unfold lsO
  rw [OT.data_nd,OT.map_fz]
theorem Zs4 {n:Nat} {rs:List (Nat × Nat)} (hn:n ≤ 10) (hr:∀ r ∈ rs,r.1 < r.2∧r.2 < n):Web n (nbR rs) (.list ((List.range n).map fun p=>.list ((nbR rs p).map dI))) :=
 ⟨hn,fun p m h=>by
  rcases Ze5.mp h with h | h
  ·exact (hr _ h).2
  ·have:=hr _ h; dsimp only at this; omega,_,rfl,fun p hp=>by rw [List.getElem?_map,List.getElem?_range hp]; rfl⟩
noncomputable def rI (r:Nat × Nat):List Int:=[(r.1:Int),(r.2:Int)]
structure Roads (n:Nat) (rs:List (Nat × Nat)):Prop where
 n1:1 ≤ n
 n10:n ≤ 10
 ok:∀ r ∈ rs,r.1 < r.2∧r.2 < n
 ris:∀ (i:Nat) (r r':Nat × Nat),rs[i]? = some r→rs[i + 1]? = some r'→ltI (rI r) (rI r') = true
 len:rs.length ≤ 1000
theorem Z02 (ds:List PyData):cutD ds (some 1) none = ds.drop 1:=by
 unfold cutD
 have e:HT.sIx ds.length 0 (some 1) = min 1 ds.length:=HT.sIx_nat _ _ 1
 rw [e,HT.sIx_none]
 cases ds with
 | nil=>rfl
 | cons d ds =>
  rw [List.length_cons,Nat.min_eq_left (by omega),List.drop_succ_cons,List.drop_zero]
  exact List.take_of_length_le (by omega)
theorem Z05 (r r':Nat × Nat):Z1z (ptD r) (ptD r') = some (.bool (ltI (rI r) (rI r'))):=rfl
theorem Zix {n:Nat} {rs:List (Nat × Nat)} (R:Roads n rs):Told Jl [.list (rs.map ptD)] (.bool true):=by
 refine We rfl <| Zge (ds:=Zi8 (rs.map ptD) ((rs.map ptD).drop 1)) (fun i δ=>∃ z1 z2,δ = [some (.fz (.list (rs.map ptD))),z1,z2]) (Ztv (Za rfl) ((Zzp (Za rfl) (Zxs Yr) Z3w).cast (by rw [Z02])) rfl) ⟨_,_,rfl⟩ (fun i d δ hd h=>?_) fun δ' h=>?_
 ·obtain ⟨z1,z2,rfl⟩:=h
  obtain ⟨x,y,hx,hy,rfl⟩:=Zgt hd
  rw [List.getElem?_map] at hx
  rw [List.getElem?_drop,List.getElem?_map] at hy
  obtain ⟨r,hr,rfl⟩:=Option.map_eq_some_iff.mp hx
  obtain ⟨r',hr',rfl⟩:=Option.map_eq_some_iff.mp hy
  have hl:=R.ris i r r' hr (by rw [Nat.add_comm]; exact hr')
  exact ⟨_,_,rfl,.inl (Yl (Zcb (p:=true) (Zd7 (Zr (Za rfl) (Za rfl) (by rw [Z05,hl])))) rfl),some (.fz (ptD r)),some (.fz (ptD r')),rfl⟩
 ·obtain ⟨z1,z2,rfl⟩:=h
  exact Zak Yr
theorem Zb1 {n:Nat} {rs:List (Nat × Nat)} (R:Roads n rs):Told Yw [dI n,.list (rs.map ptD)] .none:=by
 refine Exists.elim (Zey (δ:=[some (.fz (dI n)),some (.fz (.list (rs.map ptD))),none,none]) (it:=Zbw (Zd 1)) (g:=gTp 2 (gCn (gNm 2) (gCn (gNm 3) gNl))) (S:=W0 (tNo (tV (Zfa (fun i j=>decide (i ≤ j)) (fun i j=>decide (i < j)) (fun i j=>decide (i < j)) (fC (.int 0)) (Zd 2) (Zd 3) (Zd 0)))) (Za0 "NoWeb") fNx)
  (fun i δ=>∃ z1 z2,δ = [some (.fz (dI n)),some (.fz (.list (rs.map ptD))),z1,z2]) (Zbd (ds:=rs.map ptD) (Za rfl)) ⟨_,_,rfl⟩ (fun i d δ hd h=>?turn)) fun δ' z=>?fin
 case turn =>
  obtain ⟨z1,z2,rfl⟩:=h
  rw [List.getElem?_map] at hd
  obtain ⟨⟨a,b⟩,hr,rfl⟩:=Option.map_eq_some_iff.mp hd
  obtain ⟨l1,l2⟩:=R.ok _ (List.mem_of_getElem? hr)
  have l1:a < b:=l1
  have l2:b < n:=l2
  refine ⟨_,_,rfl,.inl (Yl (Zcb (p:=true) (Zd7 ((Zmw Yr (Za rfl) (Za rfl) (Za rfl)).cast ?_))) rfl),some (.fz (dI a)),some (.fz (dI b)),rfl⟩
  rw [decide_eq_true (show (0:Int) ≤ a by omega),decide_eq_true (show (a:Int) < b by omega),decide_eq_true (show (b:Int) < n by omega)]; rfl
 case fin =>
  obtain ⟨e,z1,z2,rfl⟩:=z
  exact Zhy rfl (Zv (Yl (Zcb (p:=true) (Zcx (Z6 (Zf (Za rfl) Zk) (Zag R.n1 R.n10)))) rfl) (Zv e (Yl (Zcb (p:=true) (Zcx (Z6 (Zf (Za rfl) Zk) (Zix R)))) rfl)))
noncomputable def Zsu (n:Nat) (rs:List (Nat × Nat)):Prop:=∀ m < n,Rch (Nb (nbR rs)) 0 m
noncomputable def bsD (n:Nat) (rs:List (Nat × Nat)):PyData:=.list ((List.range n).map fun p=>.list ((nbR rs p).map dI))
theorem Zt5 {rs:List (Nat × Nat)} (a b:Nat) (h:Nb (nbR rs) a b):Nb (nbR rs) b a:=Ze5.mpr (Ze5.mp h).symm
theorem Zo6 {ks:List Nat} {vs:List PyData} (h:vs.length = ks.length):Zn1 [dcD false (ks.map kI) vs] = some (.int ks.length):=by
 show some (PyData.int (((ks.map kI).map kyD).zip vs).length) = _
 rw [List.length_zip,List.length_map,List.length_map,h,Nat.min_self]
theorem Zz8 {g:FG} {u:FS} {d:PyData} {ds:List PyData} {δ δ1 δ2:Zc} {c:Str} (h:g d δ = some δ1) (k:u δ1 = .ex c δ2):forLoop g u (d :: ds) δ = .ex c δ2:=by
 rw [forLoop,h]
 dsimp only
 rw [k]
theorem Zjd {n:Nat} {rs:List (Nat × Nat)} (R:Roads n rs) (hc:Zsu n rs):∃ d,Told Yk [dI n,.list (rs.map ptD)] d:=by
 have W:=Zs4 R.n10 R.ok
 have key:∃ d,Told Yk [dI n,.list (rs.map ptD)] d∧True:=by
  refine Zro rfl <| Zba (Z0u (Zf (Za rfl) (Zf (Za rfl) Zk)) (Zb1 R) fun _ _=>rfl) <| Zba (Ym (Z6 (Zf (Za rfl) (Zf (Za rfl) Zk)) (Zho R.n10 R.ok R.len))) <| Zba Zfu <|
   Zk8 (ds:=Zcw 0 n) (fun i δ=>∃ rows z4 z5,δ = [some (.fz (dI n)),some (.fz (.list (rs.map ptD))),some (.fz (bsD n rs)),some (.nd rows),z4,z5]∧rows.length ≤ i) (Zfk (Zf (Za rfl) Zk) (by have:=R.n10; omega)) ⟨[],_,_,rfl,Nat.le_refl _⟩ (fun i d δ hd h=>?_) fun δ' h=>?_
  ·obtain ⟨rows,z4,z5,rfl,hl⟩:=h
   obtain ⟨hi,e⟩:=Zap hd
   rw [Int.zero_add] at e
   subst e
   obtain ⟨ks,vs,T,M,hk⟩:=Zcr W hi
   have full:∀ m < n,m ∈ ks:=fun m hm=>(hk m).mpr (Rch.trans (Rch.symm Zt5 (hc i hi)) (hc m hm))
   have ln:ks.length = n:=Nat.le_antisymm (Zbk M.nd M.lt) (Zmk full)
   obtain ⟨f,hf⟩:∃ f:Nat→PyData,∀ x ∈ List.range n,Zkk (dcD false (ks.map kI) vs) (dI x) = some (.fz (f x)):=by
    have:∀ x,∃ d,x ∈ List.range n→Zkk (dcD false (ks.map kI) vs) (dI x) = some (.fz d):=fun x=>by
     by_cases c:x ∈ List.range n
     ·obtain ⟨j,hj⟩:=Zyo M.len M.iv (full x (List.mem_range.mp c))
      exact ⟨_,fun _=>hj⟩
     ·exact ⟨.none,fun z=>absurd z c⟩
    exact ⟨fun x=>Classical.choose (this x),fun x hx=>Classical.choose_spec (this x) hx⟩
   refine ⟨_,_,rfl,.inl (Zv (Ym (Z6 (Zf (Za rfl) (Zf (Za rfl) Zk)) T)) (Zv (Yl (Zd7 (Zns (Zet (Zf (Za rfl) Zk) (Zo6 M.len)) (Za rfl) (decide_eq_false (by rw [ln]; omega)))) rfl) (Zkw (ts:=rows) (Zi2 (cs:=[some (.fz (dcD false (ks.map kI) vs))]) (List.range n) dI f ?_ (by rw [List.length_range]; have:=R.n10; omega) rfl fun x hx=>Zs7 (Za rfl) (Za rfl) (hf x hx)) rfl (by have:=R.n10; omega)))),_,_,_,rfl,?_⟩
   ·rw [← Z3i]
    exact Zfk (Zf (Za rfl) Zk) (by have:=R.n10; omega)
   ·rw [List.length_append]; exact Nat.succ_le_succ hl
  ·obtain ⟨rows,z4,z5,rfl,_⟩:=h
   exact Z4f rfl trivial
 exact key.imp fun _ h=>h.1
theorem Zjc {n:Nat} {rs:List (Nat × Nat)} (R:Roads n rs) (hc:¬ Zsu n rs):Yk [dI n,.list (rs.map ptD)] = .exn "NoWeb" := by
 have W:=Zs4 R.n10 R.ok
 obtain ⟨k,rfl⟩:∃ k,n = k + 1:=⟨n - 1,by have:=R.n1; omega⟩
 obtain ⟨ks,vs,T,M,hk⟩:=Zcr W (s:=0) (by omega)
 have lt:ks.length < k + 1:=Nat.lt_of_not_le fun z=>hc fun m hm=>(hk m).mp (Zse M.nd M.lt z m hm)
 have er:Zcw 0 (k + 1) = dI 0 :: Zcw 1 k:=Zpd 0 k
 exact Zj1 rfl (Zv (Z0u (Zf (Za rfl) (Zf (Za rfl) Zk)) (Zb1 R) fun _ _=>rfl) <| Zv (Ym (Z6 (Zf (Za rfl) (Zf (Za rfl) Zk)) (Zho R.n10 R.ok R.len))) <| Zv Zfu <| Zeo (Zhp (Zfk (n:=k + 1) (Zf (Za rfl) Zk) (by have:=R.n10; omega))
  ((congrArg (fun l=>forLoop _ _ l _) er).trans (Zz8 rfl (Zv (Ym (Z6 (Zf (Za rfl) (Zf (Za rfl) Zk)) T)) (Zeo (Zao (Zd7 (Zns (Zet (Zf (Za rfl) Zk) (Zo6 M.len)) (Za rfl) (decide_eq_true (by omega)))) rfl)))))))
theorem Zn6 (neg:Bool) (x:Int) (p:List Int):Zhm neg (.int x) (Wi p) = some (.bool (if neg then !decide (x ∈ p) else decide (x ∈ p))):=by
 have e:memS (.int x) (p.map PyData.int) = decide (x ∈ p):=by
  unfold memS
  rw [List.any_map]
  rw [Bool.eq_iff_iff,List.any_eq_true,decide_eq_true_eq]
  constructor
  ·rintro ⟨y,hy,h⟩
   have:(y == x) = true:=h
   rw [← eq_of_beq this]; exact hy
  ·intro h
   exact ⟨x,h,(show (x == x) = true from beq_self_eq_true x)⟩
 have s:(p.map PyData.int).all scD = true:=by
  rw [List.all_eq_true]
  intro d hd
  obtain ⟨y,_,rfl⟩:=List.mem_map.mp hd
  rfl
 show (if (scD (.int x) && (p.map PyData.int).all scD) = true then some (PyData.bool (if neg then !memS (.int x) (p.map PyData.int) else memS (.int x) (p.map PyData.int))) else none) = _
 rw [s,e]; rfl
theorem Zu2 {a:Nat} {ns:List Nat} (neg:Bool):Zhm neg (dI a) (.list (ns.map dI)) = some (.bool (if neg then !decide (a ∈ ns) else decide (a ∈ ns))):=by
 have h:=Zn6 neg (a:Int) (ns.map fun k:Nat=>(k:Int))
 have e:decide ((a:Int) ∈ ns.map fun k:Nat=>(k:Int)) = decide (a ∈ ns):=decide_eq_decide.mpr ⟨fun h=>by
  obtain ⟨k,hk,e⟩:=List.mem_map.mp h
  exact Int.ofNat.inj e ▸ hk,fun h=>List.mem_map.mpr ⟨a,h,rfl⟩⟩
 rw [e] at h
 refine Eq.trans ?_ h
 show Zhm neg (.int a) (.list _) = Zhm neg (.int a) (.list ((ns.map fun k:Nat=>(k:Int)).map PyData.int))
 rw [List.map_map]; rfl
structure Z06 (n:Nat) (rs:List (Nat × Nat)) (ns:List Nat):Prop where
 nd:ns.Nodup
 z:0 ∈ ns
 lt:∀ k ∈ ns,k < n
 rch:∀ k ∈ ns,Rch (Nb (nbR rs)) 0 k
noncomputable def Clo (rs:List (Nat × Nat)) (ns:List Nat):Prop:=∀ r ∈ rs,r.1 ∈ ns ↔ r.2 ∈ ns
noncomputable def eO (n:Nat) (rs:List (Nat × Nat)) (ns:List Nat) (o3 o4 o5:Option OT):Zc:=[some (.fz (dI n)),some (.fz (.list (rs.map ptD))),some (lsO ns),o3,o4,o5]
noncomputable def Z9d:FS:=W0 (tV (Zb gNe (Zb (Zhm false) (Zd 4) (J5 2)) (Zb (Zhm false) (Zd 5) (J5 2)))) (Zan 2 (Wu 1 [2] (iTp (Zi0 (Ze (Zd 4) (Ze (Zd 5) Zn)))) (gNm 0) (tV (Zb (Zhm true) (Zd 0) (J5 1))) (Zd 0))) fNx
theorem Zha (ns:List Nat):(lsO ns).data = .list (ns.map dI):=by unfold lsO; rw [OT.data_nd,OT.map_fz]
theorem Zob {e:FE} {δ:Zc} {i m:Nat} {ns:List Nat} (h:e δ = some (.nd [.fz (dI m)],δ)) (hi:δ[i]? = some (some (lsO ns))) (hl:ns.length ≤ 1000):Zan i e δ = .nx (δ.set i (some (lsO (ns ++ [m])))):=by
 unfold lsO at hi
 unfold Zan
 rw [hi]
 dsimp only
 rw [Zb5,h,Z5,hi]
 dsimp only
 rw [if_pos (by rw [sizeLine_eq,List.length_map,List.length_map]; show _ + 1 ≤ _; omega),Zd8]; rfl
theorem Zrx {n:Nat} {rs:List (Nat × Nat)} {ns:List Nat} {a b:Nat} {o3:Option OT} (hn:n ≤ 10) (C:Z06 n rs ns) (hr:(a,b) ∈ rs) (ha:a < n) (hb:b < n) :
  ∃ u,Z06 n rs (ns ++ u)∧(u = [] ↔ (a ∈ ns ↔ b ∈ ns))∧Z9d (eO n rs ns o3 (some (.fz (dI a))) (some (.fz (dI b)))) = .nx (eO n rs (ns ++ u) o3 (some (.fz (dI a))) (some (.fz (dI b)))):=by
 have ll:=Zbk C.nd C.lt
 have e2:EvV (J5 2) (eO n rs ns o3 (some (.fz (dI a))) (some (.fz (dI b)))) (.list (ns.map dI)):=Zdq rfl (Zha ns)
 have t:=Zd7 (Zr (g:=gNe) (Zr (Za (i:=4) rfl) e2 (Zu2 false)) (Zr (Za (i:=5) rfl) e2 (Zu2 false)) (d:=.bool (!decide (decide (a ∈ ns) = decide (b ∈ ns)))) (by cases decide (a ∈ ns) <;> cases decide (b ∈ ns) <;> rfl))
 have add:∀ {x y:Nat},(x,y) ∈ rs∨(y,x) ∈ rs→x ∈ ns→y ∉ ns→y < n→Z06 n rs (ns ++ [y]):=fun {x y} h hx hy hl=>⟨List.nodup_append.mpr ⟨C.nd,List.nodup_cons.mpr ⟨(fun z=>nomatch z),.nil⟩,fun p hp q hq e=>hy (by rw [← List.mem_singleton.mp hq,← e]; exact hp)⟩,List.mem_append_left _ C.z,fun k hk=>(List.mem_append.mp hk).elim (C.lt k) fun q=>List.mem_singleton.mp q ▸ hl,fun k hk=>(List.mem_append.mp hk).elim (C.rch k) fun q=>List.mem_singleton.mp q ▸ .step (C.rch x hx) (Ze5.mpr h)⟩
 have cmp:Wu 1 [2] (iTp (Zi0 (Ze (Zd 4) (Ze (Zd 5) Zn)))) (gNm 0) (tV (Zb (Zhm true) (Zd 0) (J5 1))) (Zd 0) (eO n rs ns o3 (some (.fz (dI a))) (some (.fz (dI b)))) = some (.nd (([a,b].filter fun x=>!decide (x ∈ ns)).map fun x=>.fz (dI x)),eO n rs ns o3 (some (.fz (dI a))) (some (.fz (dI b)))) :=
  Zeh (cs:=[some (lsO ns)]) [a,b] dI (fun x=>!decide (x ∈ ns)) (fun x=>.fz (dI x)) rfl (by rw [sizeLine_eq]; show 2 ≤ 16777216; decide) rfl (fun x _=>Zd7 (Zr (Za rfl) (Zdq (i:=1) rfl (Zha ns)) (Zu2 true))) fun x _ _=>rfl
 by_cases ca:a ∈ ns
 ·by_cases cb:b ∈ ns
  ·rw [decide_eq_true ca,decide_eq_true cb] at t
   exact ⟨[],by rw [List.append_nil]; exact C,⟨fun _=>⟨fun _=>cb,fun _=>ca⟩,fun _=>rfl⟩,(Yl t rfl).trans (by rw [List.append_nil]; rfl)⟩
  ·rw [decide_eq_true ca,decide_eq_false cb] at t
   have f:([a,b].filter fun x=>!decide (x ∈ ns)) = [b]:=by rw [List.filter_cons_of_neg (by simpa using ca),List.filter_cons_of_pos (by simpa using cb)]; rfl
   rw [f] at cmp
   exact ⟨[b],add (.inl hr) ca cb hb,⟨(fun z=>nomatch z),fun z=>absurd (z.mp ca) cb⟩,Zao t ((Zob cmp rfl (by omega)).trans rfl)⟩
 ·by_cases cb:b ∈ ns
  ·rw [decide_eq_false ca,decide_eq_true cb] at t
   have f:([a,b].filter fun x=>!decide (x ∈ ns)) = [a]:=by rw [List.filter_cons_of_pos (by simpa using ca),List.filter_cons_of_neg (by simpa using cb)]; rfl
   rw [f] at cmp
   exact ⟨[a],add (.inr hr) cb ca ha,⟨(fun z=>nomatch z),fun z=>absurd (z.mpr cb) ca⟩,Zao t ((Zob cmp rfl (by omega)).trans rfl)⟩
  ·rw [decide_eq_false ca,decide_eq_false cb] at t
   exact ⟨[],by rw [List.append_nil]; exact C,⟨fun _=>⟨fun z=>absurd z ca,fun z=>absurd z cb⟩,fun _=>rfl⟩,(Yl t rfl).trans (by rw [List.append_nil]; rfl)⟩
theorem Zmr {n:Nat} {rs:List (Nat × Nat)} (R:Roads n rs):∃ b,Told Y8 [dI n,.list (rs.map ptD)] (.bool b)∧(b = true ↔ Zsu n rs):=by
 have n10:=R.n10
 have key:∃ d,Told Y8 [dI n,.list (rs.map ptD)] d∧∃ b,d = .bool b∧(b = true ↔ Zsu n rs):=by
  refine Zro rfl <| Zba (δ':=eO n rs [0] none none none) (Zc9 (o:=lsO [0]) rfl) <| Zk8 (ds:=Zcw 0 n) (fun i δ=>∃ ns o3 o4 o5,δ = eO n rs ns o3 o4 o5∧Z06 n rs ns∧(Clo rs ns∨i + 1 ≤ ns.length)) (Zfk (Zf (Za rfl) Zk) (by omega)) ⟨[0],_,_,_,rfl,⟨List.nodup_cons.mpr ⟨(fun z=>nomatch z),.nil⟩,.head _,fun k hk=>by rw [List.mem_singleton.mp hk]; exact R.n1,fun k hk=>by rw [List.mem_singleton.mp hk]; exact .refl⟩,.inr (Nat.le_refl _)⟩ (fun i d δ hd h=>?_) fun δ' h=>?_
  ·obtain ⟨ns,o3,o4,o5,rfl,C,hc⟩:=h
   refine Zj6 (ds:=rs.map ptD) (δ1:=eO n rs ns (some (.fz d)) o4 o5) (fun i δ=>∃ u o4 o5,δ = eO n rs (ns ++ u) (some (.fz d)) o4 o5∧Z06 n rs (ns ++ u)∧(u = []→∀ (j:Nat) r,j < i→rs[j]? = some r→(r.1 ∈ ns ↔ r.2 ∈ ns))∧(Clo rs ns→u = [])) rfl (Zbd (Za rfl)) ⟨[],o4,o5,by rw [List.append_nil],by rw [List.append_nil]; exact C,fun _ j r z=>absurd z (Nat.not_lt_zero _),fun _=>rfl⟩ (fun j d2 δ hd2 h=>?_) fun δ' h=>?_
   ·obtain ⟨u,o4,o5,rfl,C',h1,h2⟩:=h
    rw [List.getElem?_map] at hd2
    obtain ⟨⟨a,b⟩,hr,rfl⟩:=Option.map_eq_some_iff.mp hd2
    have hm:=List.mem_of_getElem? hr
    obtain ⟨l1,l2⟩:=R.ok _ hm
    have l1:a < b:=l1
    have l2:b < n:=l2
    obtain ⟨v,C2,hv,run⟩:=Zrx (o3:=some (.fz d)) n10 C' hm (by omega) l2
    refine ⟨_,_,rfl,.inl run,u ++ v,_,_,by rw [← List.append_assoc],by rw [← List.append_assoc]; exact C2,fun e k r hk hkr=>?_,fun hcl=>?_⟩
    ·obtain ⟨e1,e2⟩:=List.append_eq_nil_iff.mp e
     rcases Nat.lt_succ_iff_lt_or_eq.mp hk with hk | rfl
     ·exact h1 e1 k r hk hkr
     ·rw [hr] at hkr
      cases hkr
      have:=hv.mp e2
      rw [e1,List.append_nil] at this
      exact this
    ·have e1:=h2 hcl
     have e2:v = []:=hv.mpr (by rw [e1,List.append_nil]; exact hcl _ hm)
     rw [e1,e2]; rfl
   ·obtain ⟨u,o4,o5,rfl,C',h1,h2⟩:=h
    rw [List.length_map] at h1
    refine ⟨ns ++ u,_,_,_,rfl,C',?_⟩
    by_cases e:u = []
    ·rw [e,List.append_nil]
     refine .inl fun r hr=>?_
     obtain ⟨j,hj,ej⟩:=List.getElem_of_mem hr
     exact h1 e j r hj (by rw [List.getElem?_eq_getElem hj,ej])
    ·rcases hc with hc | hc
     ·exact absurd (h2 hc) e
     ·have:=List.length_pos_iff.mpr e
      exact .inr (by rw [List.length_append]; omega)
  ·obtain ⟨ns,o3,o4,o5,rfl,C,hc⟩:=h
   rw [Jv] at hc
   have ll:=Zbk C.nd C.lt
   have cl:Clo rs ns:=hc.resolve_right (by omega)
   refine Z0k (Zjh (Za3 (Zdq rfl (Zha ns))) (Za rfl) rfl) ⟨_,rfl,?_⟩
   rw [decide_eq_true_iff,List.length_map]
   constructor
   ·exact fun h m hm=>C.rch m (Zse C.nd C.lt (by omega) m hm)
   ·intro h
    have:∀ m < n,m ∈ ns:=fun m hm=>Rch.closed C.z (fun k hk m hm=>by
     rcases Ze5.mp hm with q | q
     ·exact (cl _ q).mp hk
     ·exact (cl _ q).mpr hk) (h m hm)
    have:=Zmk this
    omega
 obtain ⟨d,T,b,rfl,h⟩:=key
 exact ⟨b,T,h⟩
noncomputable def mkW (l:List Nat):Str:=⟨l.toArray⟩
noncomputable def wD (l:List Nat):PyData:=.str (mkW l)
noncomputable def Z3k:Nat→List (List Nat)
 | 0=>[[]]
 | k + 1=>(Z3k k).flatMap fun l=>[48 :: l,49 :: l]
noncomputable def OkL (k:Nat) (l:List Nat):Prop:=l.length = k∧∀ c ∈ l,c = 48∨c = 49
theorem Zgl:∀ {k:Nat} {l:List Nat},OkL k l→l ∈ Z3k k:=by
 intro k
 induction k with
 | zero =>
  intro l h
  rw [List.length_eq_zero_iff.mp h.1]; exact .head _
 | succ k ih =>
  intro l h
  cases l with
  | nil=>exact absurd h.1 (by simp)
  | cons c l =>
   refine List.mem_flatMap.mpr ⟨l,ih ⟨Nat.succ.inj h.1,fun c hc=>h.2 c (.tail _ hc)⟩,?_⟩
   rcases h.2 c (.head _) with rfl | rfl
   ·exact .head _
   ·exact .tail _ (.head _)
noncomputable def okB (k:Nat) (l:List Nat):Bool:=decide (l.length = k) && l.all fun c=>decide (c = 48∨c = 49)
theorem Z11 {k:Nat} {l:List Nat} (h:okB k l = true):OkL k l:=by
 unfold okB at h
 rw [Bool.and_eq_true,decide_eq_true_iff,List.all_eq_true] at h
 exact ⟨h.1,fun c hc=>of_decide_eq_true (h.2 c hc)⟩
noncomputable def Z67 (k:Nat) (l:List Nat):Bool:=match Zdl (mkW l) [.str "0"],Zdl (mkW l) [.str "1"] with | some (.int a),some (.int b)=>decide (a + b = k) | _,_=>false
noncomputable def Z8n (l:List Nat):Bool:=match Zl2 "" [.list (l.map fun c=>wD [c])] with | some (.str v)=>decide (v = mkW l) | _=>false
noncomputable def Z1j (l:List Nat) (at':Nat):Option PyData :=
 (Ziy (wD l) (.int at')).bind fun o=>(Zf0 [o.data]).bind fun i=>(Ziy (.str "10") i).bind fun c=>(Zg7 (.str (PySem.Txt.slice (mkW l) none (some (at':Int)))) c.data).bind fun x=>Zg7 x (.str (PySem.Txt.slice (mkW l) (some ((at':Int) + 1)) none))
noncomputable def Z8t (k:Nat) (l:List Nat) (at':Nat):Bool:=match Z1j l at' with | some (.str v)=>okB k v.cps.toList | _=>false
theorem Z7t:((List.range 8).all fun k=>(Z3k k).all fun l=>Z67 k l && Z8n l) = true:=by decide +kernel
theorem Yan:((List.range 8).all fun k=>(Z3k k).all fun l=>(List.range k).all fun i=>Z8t k l i) = true:=by decide +kernel
theorem Z8w:Zq0 (.int 10) (.int 45) = some (.int 1000000000000000000000000000000000000000000000):=rfl
theorem Z87:Zfd (.int 1000000000000000000000000000000000000000000000) (.int 1000000000000000000000000000000000000000000000) = some (.int 1000000000000000000000000000000000000000000000000000000000000000000000000000000000000000000):=rfl
theorem Zm5 (c:Int):∃ vs:List Int,Told Yv [.int c,.int 50,.int 60] (Wi vs)∧vs.length = 50:=by
 have key:∃ d,Told Yv [.int c,.int 50,.int 60] d∧∃ vs,d = Wi vs∧vs.length = 50 :=
  Zro rfl <| Zba (Ym (Jm Za (Zr (Zr Yr Yr Z8w) (Zr Yr Yr Z8w) Z87) (by decide))) <| Zba Zfu <| Zba (Ym (Zyl Za (Zr Yr Yr Z48))) <| Zk8 (ds:=Zcw 0 50) (fun i δ=>∃ (vs:List Int) (c x:Int) (z1 z2:Option OT),δ = [some (.fz (.int c)),some (.fz (.int 50)),some (.fz (.int 60)),some (.nd (vs.map fun v=>.fz (.int v))),some (.fz (.int x)),z1,z2]∧vs.length = i)
   (Zfk (n:=50) (Zf Za Zk) (by decide)) ⟨[],_,_,none,none,rfl,rfl⟩ (fun i d δ hd q91=>by
    obtain ⟨vs,c,x,z1,z2,e,hl⟩:=q91
    subst e
    obtain ⟨hi,rfl⟩:=Zap hd
    have n0:=Zp2 (i:=(c + 977 * (0 + (i:Int)) + 1) * 48271) (j:=2147483647) (by decide)
    have n1:=Zoa (i:=(c + 977 * (0 + (i:Int)) + 1) * 48271) (j:=2147483647) (by decide)
    have a1:∀ z2,wE (Zb Za2 (Zb Zfd (Zb Jq (Zb Jq (Zd 0) (Zb Zfd (fC (.int 977)) (Zd 5))) (fC (.int 1))) (fC (.int 48271))) (fC (.int 2147483647))) (Jh 6) [some (.fz (.int c)),some (.fz (.int 50)),some (.fz (.int 60)),some (.nd (vs.map fun v=>.fz (.int v))),some (.fz (.int x)),some (.fz (.int (0 + (i:Int)))),z2] = .nx _:=fun z2=>Ym (Jm (Zi4 (Jw (Jw Za (Ze2 Yr Za)) Yr) Yr) Yr (by decide))
    by_cases q:1000000000000000000 ≤ c
    ·exact ⟨_,_,rfl,.inl (Zv (a1 z2) <| Zv (Ym (Jm (Ze2 Za Za (by omega)) Yr (by decide))) <| Zv (Ym (Zej (Jm (Zi4 (Jw Za (Ze2 Yr (Jw Za Yr))) Yr) Yr (by decide)) Yr)) <|
      Zv (Zao (Zd7 (Zzc Za (Zr Yr Yr Z48) (decide_eq_true q))) (Zv (Ym Za) (Ym (Zej Za Za)))) <|
      (Zhj (vs:=vs) (Jm Za Za (by decide)) rfl (by omega))),_,_,_,_,_,rfl,by rw [List.length_append,hl]; rfl⟩
    ·exact ⟨_,_,rfl,.inl (Zv (a1 z2) <| Zv (Ym (Jm (Ze2 Za Za (by omega)) Yr (by decide))) <| Zv (Ym (Zej (Jm (Zi4 (Jw Za (Ze2 Yr (Jw Za Yr))) Yr) Yr (by decide)) Yr)) <|
      Zv (Yl (Zd7 (Zzc Za (Zr Yr Yr Z48) (decide_eq_false q))) rfl) <|
      (Zhj (vs:=vs) (Jm Za Za (by decide)) rfl (by omega))),_,_,_,_,_,rfl,by rw [List.length_append,hl]; rfl⟩)
   fun δ' q92=>by
    obtain ⟨vs,c,x,z1,z2,e,hl⟩:=q92
    subst e
    rw [Jv] at hl
    exact Z4f rfl ⟨vs,Zk5 vs,hl⟩
 obtain ⟨d,h,vs,rfl,hl⟩:=key
 exact ⟨vs,h,hl⟩
structure Wds (k:Nat) (ls:List (List Nat)):Prop where
 k8:k < 8
 ok:∀ l ∈ ls,OkL k l
 nd:ls.Nodup
 l1:1 ≤ ls.length
 l10:ls.length ≤ 10
noncomputable def wsO (ls:List (List Nat)):OT:=.nd ((ls.map wD).map OT.fz)
theorem Zkv (ls:List (List Nat)):(wsO ls).data = .list (ls.map wD):=by unfold wsO; rw [OT.data_nd,OT.map_fz]
theorem Zjt {a b:List Nat} (h:mkW a = mkW b):a = b:=by
 have:=congrArg (fun z:Str=>z.cps.toList) h
 exact this
theorem Z5c {a:List Nat} {ls:List (List Nat)}:Zhm true (wD a) (.list (ls.map wD)) = some (.bool (!decide (a ∈ ls))):=by
 have e:memS (wD a) (ls.map wD) = decide (a ∈ ls):=by
  unfold memS
  rw [List.any_map,Bool.eq_iff_iff,List.any_eq_true,decide_eq_true_eq]
  constructor
  ·intro h
   obtain ⟨y,hy,h⟩:=h
   have:(mkW y == mkW a) = true:=h
   rw [← Zjt (eq_of_beq this)]; exact hy
  ·exact fun h=>⟨a,h,show (mkW a == mkW a) = true from beq_self_eq_true _⟩
 unfold Zhm
 show (if _ then _ else _) = _
 rw [if_pos (by
  rw [Bool.and_eq_true]
  refine ⟨rfl,List.all_eq_true.mpr fun d hd=>?_⟩
  obtain ⟨l,_,rfl⟩:=List.mem_map.mp hd
  rfl),if_pos rfl,e]
theorem Zua {e:FE} {δ:Zc} {i:Nat} {d:PyData} (h:EvV e δ d) (hf:Jp d = true):wE e (Zlj i) δ = .nx (δ.set i (some (.fz d))):=by
 obtain ⟨t,e1,d1⟩:=h
 rw [Zb5,e1,Z5,Zqo,d1,if_pos hf]
theorem Ztc {g:Str→List PyData→Option PyData} {o:FE} {as:FA} {δ:Zc} {z:Str} {ds:List PyData} {d:PyData} (ho:EvV o δ (.str z)) (ha:EvA as δ ds) (h:g z ds = some d):Zvc g o as δ = some (.fz d,δ):=by
 obtain ⟨t,e1,d1⟩:=ho
 obtain ⟨ts,e2,d2⟩:=ha
 unfold Zvc
 rw [e1,Option.bind_some]
 dsimp only
 rw [d1]
 dsimp only
 rw [e2,Option.bind_some,d2,h]; rfl
theorem Z78 {e:FE} {δ:Zc} {d:PyData} (h:e δ = some (.fz d,δ)):Zd0 (Ze e Zn) δ = some (.nd [.fz d],δ):=by
 rw [Zji,Zkh,h]; rfl
theorem Zpk {as:FA} {δ:Zc} {i k:Nat} {ts:List OT} {d:PyData} (ha:EvA as δ [dI k,d]) (hi:δ[i]? = some (some (.nd ts))) (hk:k ≤ ts.length) (hl:ts.length ≤ 1000000):Zde i as δ = .nx (δ.set i (some (.nd (Zh6 ts k (.fz d))))):=by
 obtain ⟨rs,e1,d1⟩:=ha
 unfold Zde
 rw [hi]
 dsimp only
 rw [e1]
 dsimp only
 rw [d1,hi]
 show (if _ then _ else _) = _
 rw [if_pos ⟨Int.natCast_nonneg _,by omega,by rw [sizeLine_eq]; omega⟩]; rfl
theorem Zti {e:FE} {lo hi:FO} {δ:Zc} {z:Str} {l h:Option Int} (he:EvV e δ (.str z)) (hl:EvO lo δ l) (hh:EvO hi δ h) (hz:z.length ≤ 1000000):EvV (Zxc e lo hi) δ (.str (PySem.Txt.slice z l h)):=by
 obtain ⟨t,e1,d1⟩:=he
 unfold EvO at hl hh
 refine ⟨.fz (.str (PySem.Txt.slice z l h)),?_,OT.data_fz _⟩
 unfold Zxc
 rw [e1,Option.bind_some]
 dsimp only
 rw [hl,Option.bind_some]
 dsimp only
 rw [hh,Option.bind_some]
 dsimp only
 rw [d1]
 dsimp only
 rw [if_pos (by rw [sizeLine_eq]; omega)]
noncomputable def Zrq:FE:=Zb Zg7 (Zb Zg7 (Zxc (Zd 5) oN (oI (Zd 8))) (Yx Ziy (fC (.str "10")) (Zas Zf0 (Ze (Yx Ziy (Zd 5) (Zd 8)) Zn)))) (Zxc (Zd 5) (oI (Zb Jq (Zd 8) (fC (.int 1)))) oN)
theorem Zt4 {k i:Nat} {l:List Nat} {δ:Zc} (hk:k < 8) (ho:OkL k l) (hi:i < k) (h5:δ[5]? = some (some (.fz (wD l)))) (h8:δ[8]? = some (some (.fz (dI i)))):∃ l',OkL k l'∧EvV Zrq δ (wD l'):=by
 have c:=List.all_eq_true.mp (List.all_eq_true.mp (List.all_eq_true.mp Yan k (List.mem_range.mpr hk)) l (Zgl ho)) i (List.mem_range.mpr hi)
 unfold Z8t at c
 split at c
 case h_2=>cases c
 rename_i v hf
 refine ⟨v.cps.toList,Z11 c,?_⟩
 have lw:(mkW l).length ≤ 1000000:=by show l.toArray.size ≤ _; rw [List.size_toArray,ho.1]; omega
 unfold Z1j at hf
 obtain ⟨o,h1,hf⟩:=bs hf
 obtain ⟨j,h2,hf⟩:=bs hf
 obtain ⟨c2,h3,hf⟩:=bs hf
 obtain ⟨x,h4,hf⟩:=bs hf
 exact Zr (Zr (Zti (Za h5) Z3w (Zxs (Za h8)) lw) (Zdi Yr (Zet (Zf (Zdi (Za h5) (Za h8) h1 rfl) Zk) h2) h3 rfl) h4) (Zti (Za h5) (Zxs (Jw (Za h8) Yr)) Z3w lw) hf
theorem Zvf {k:Nat} {l:List Nat} (hk:k < 8) (ho:OkL k l):Zl2 "" [.list (l.map fun c=>wD [c])] = some (wD l):=by
 have c:=List.all_eq_true.mp (List.all_eq_true.mp Z7t k (List.mem_range.mpr hk)) l (Zgl ho)
 rw [Bool.and_eq_true] at c
 have c:=c.2
 unfold Z8n at c
 split at c
 case h_2=>cases c
 rename_i v h
 rw [h,of_decide_eq_true c]; rfl
noncomputable def eW (c:Int) (vs:List Int) (k:Nat) (ls:List (List Nat)) (o4 o5 o6 o7 o8:Option OT):Zc:=[some (.fz (.int c)),some (.fz (Wi vs)),some (.fz (dI k)),some (wsO ls),o4,o5,o6,o7,o8]
theorem Zpf {e:FE} {δ:Zc} {i:Int} (h:EvV e δ (.int i)):e δ = some (.fz (.int i),δ):=by
 obtain ⟨t,e1,d1⟩:=h
 rw [e1,Zki d1]
theorem Zgc {vs:List Int} {δ:Zc} {m j:Nat} (hl:vs.length = 50) (h1:δ[1]? = some (some (.fz (Wi vs)))) (h4:δ[4]? = some (some (.fz (dI j)))) (hm:m + j < 50):EvV (Yx gIx (Zd 1) (Zb Jq (fC (.int m)) (Zd 4))) δ (.int (vs.getD (m + j) 0)):=by
 have:=Za9 (p:=vs) (i:=(m:Int) + (j:Int)) (Za (i:=1) h1) (Jw Yr (Za (i:=4) h4)) (by omega) (by omega)
 exact this.cast (by rw [show ((m:Int) + (j:Int)).toNat = m + j by omega])
theorem Zrw {c:Int} {vs:List Int} {k:Nat} {ls:List (List Nat)} {o4 o7 o8:Option OT} {l:List Nat} {ts:List Int} (hk:k < 8) (ho:OkL k l) :
  ∃ l' o7' o8',OkL k l'∧Zaq 6 (Zaf (Zbw (Zd 6)) (gNm 7) (W0 (tV (Zb gGt (Zd 2) (fC (.int 0)))) (Zz (wE (Zb Za2 (Zd 7) (Zd 2)) (Jh 8)) (wE Zrq (Jh 5))) fNx)) (eW c vs k ls o4 (some (.fz (wD l))) (some (.nd (ts.map fun v=>.fz (.int v)))) o7 o8) = .nx (eW c vs k ls o4 (some (.fz (wD l'))) (some (.fz (Wi ts))) o7' o8'):=by
 refine Exists.elim (Zey (δ:=eW c vs k ls o4 (some (.fz (wD l))) (some (.fz (Wi ts))) o7 o8) (it:=Zbw (Zd 6)) (g:=gNm 7) (S:=W0 (tV (Zb gGt (Zd 2) (fC (.int 0)))) (Zz (wE (Zb Za2 (Zd 7) (Zd 2)) (Jh 8)) (wE Zrq (Jh 5))) fNx)
  (fun i δ=>∃ l' o7 o8,δ = eW c vs k ls o4 (some (.fz (wD l'))) (some (.fz (Wi ts))) o7 o8∧OkL k l') (Zbd (ds:=ts.map PyData.int) (Za rfl)) ⟨l,o7,o8,rfl,ho⟩ (fun i d δ hd h=>?turn)) fun δ' z=>?fin
 case fin =>
  obtain ⟨e,l',o7',o8',rfl,h'⟩:=z
  exact ⟨l',o7',o8',h',Zh1 (o:=.nd (ts.map fun v=>.fz (.int v))) rfl (by rw [Zk5]; exact e)⟩
 case turn =>
  obtain ⟨l',o7',o8',rfl,h'⟩:=h
  rw [List.getElem?_map] at hd
  obtain ⟨x,_,rfl⟩:=Option.map_eq_some_iff.mp hd
  by_cases z:0 < k
  ·obtain ⟨m,hm,lm⟩:=Zah x z
   obtain ⟨l2,h2,e2⟩:=Zt4 (δ:=eW c vs k ls o4 (some (.fz (wD l'))) (some (.fz (Wi ts))) (some (.fz (.int x))) (some (.fz (dI m)))) hk h' lm rfl rfl
   exact ⟨_,_,rfl,.inl (Zao (Zd7 (Zw5 (Za rfl) Yr (decide_eq_true (show (0:Int) < k by omega)))) (Zv (δ':=eW c vs k ls o4 (some (.fz (wD l'))) (some (.fz (Wi ts))) (some (.fz (.int x))) (some (.fz (dI m)))) ((Ym (d:=dI m) ((Jm (Za rfl) (Za rfl) (by omega)).cast (by rw [hm]; rfl))).trans rfl) (Ym e2))),l2,_,_,rfl,h2⟩
  ·exact ⟨_,_,rfl,.inl (Yl (Zd7 (Zw5 (Za rfl) Yr (decide_eq_false (show ¬ (0:Int) < k by omega)))) rfl),l',_,_,rfl,h'⟩
theorem Zyr {k j:Nat} {ls:List (List Nat)} {l:List Nat} (W:Wds k ls) (hj:j ≤ ls.length) (hl:l ∉ ls) (ho:OkL k l) (h10:ls.length ≤ 9):Wds k (Zh6 ls j l)∧(Zh6 ls j l).length = ls.length + 1∧Zh6 ((ls.map wD).map OT.fz) j (.fz (wD l)) = ((Zh6 ls j l).map wD).map OT.fz:=by
 have pm:(Zh6 ls j l).Perm (l :: ls):=by
  unfold Zh6
  refine List.perm_middle.trans ?_
  rw [List.take_append_drop]
 have le:=pm.length_eq
 rw [List.length_cons] at le
 refine ⟨⟨W.k8,fun x hx=>(List.mem_cons.mp (pm.mem_iff.mp hx)).elim (fun e=>e ▸ ho) (W.ok x),pm.nodup_iff.mpr (List.nodup_cons.mpr ⟨hl,W.nd⟩),by omega,by omega⟩,le,?_⟩
 unfold Zh6
 rw [List.map_append,List.map_append,List.map_cons,List.map_cons,List.map_take,List.map_take,List.map_drop,List.map_drop]
noncomputable def Z3y:FS:=Zz (wE (Yx gIx (J5 3) (Zb Za2 (Yx gIx (Zd 1) (Zb Jq (fC (.int 2)) (Zd 4))) (Zas Zb7 (Ze (J5 3) Zn)))) (Zlj 5))
  (Zz (wE (Zd0 (Ze (Yx gIx (Zd 1) (Zb Jq (fC (.int 12)) (Zd 4))) Zn)) (Jf 6))
  (Zz (W0 (tV (Zb gEq (Zb Za2 (Yx gIx (Zd 1) (Zb Jq (fC (.int 22)) (Zd 4))) (fC (.int 6))) (fC (.int 1))))
  (Yi 6 (Zb Zad (Yx gIx (Zd 1) (Zb Jq (fC (.int 22)) (Zd 4))) (fC (.int 6))))
  fNx)
  (Zz (Zaq 6 (Zaf (Zbw (Zd 6)) (gNm 7) (W0 (tV (Zb gGt (Zd 2) (fC (.int 0)))) (Zz (wE (Zb Za2 (Zd 7) (Zd 2)) (Jh 8)) (wE Zrq (Jh 5))) fNx)))
  (W0 (tV (Zb (Zhm true) (Zd 5) (J5 3)))
  (Zde 3 (Ze (Zb Za2 (Yx gIx (Zd 1) (Zb Jq (fC (.int 32)) (Zd 4))) (Zb Jq (Zas Zb7 (Ze (J5 3) Zn)) (fC (.int 1)))) (Ze (Zd 5) Zn)))
  fNx))))
theorem Zw8 {c:Int} {vs:List Int} {k j:Nat} {ls:List (List Nat)} {o5 o6 o7 o8:Option OT} (hl:vs.length = 50) (W:Wds k ls) (hj:j ≤ 9) (h9:ls.length ≤ 9) :
  ∃ ls' o5' o6' o7' o8',Wds k ls'∧ls'.length ≤ ls.length + 1∧Z3y (eW c vs k ls (some (.fz (dI j))) o5 o6 o7 o8) = .nx (eW c vs k ls' (some (.fz (dI j))) o5' o6' o7' o8'):=by
 have l1:=W.l1
 obtain ⟨m,hm,lm⟩:=Zah (vs.getD (2 + j) 0) l1
 obtain ⟨l,hlm⟩:∃ l,ls[m]? = some l:=⟨_,List.getElem?_eq_getElem lm⟩
 have ol:=W.ok l (List.mem_of_getElem? hlm)
 have own:∀ {δ:Zc},δ[3]? = some (some (wsO ls))→EvV (J5 3) δ (.list (ls.map wD)):=fun h=>Zdq h (Zkv ls)
 have len:∀ {δ:Zc},δ[3]? = some (some (wsO ls))→EvV (Zas Zb7 (Ze (J5 3) Zn)) δ (.int ls.length):=fun h=>(Za3 (own h)).cast (by rw [List.length_map])
 have a1:wE (Yx gIx (J5 3) (Zb Za2 (Yx gIx (Zd 1) (Zb Jq (fC (.int 2)) (Zd 4))) (Zas Zb7 (Ze (J5 3) Zn)))) (Zlj 5) (eW c vs k ls (some (.fz (dI j))) o5 o6 o7 o8) = .nx (eW c vs k ls (some (.fz (dI j))) (some (.fz (wD l))) o6 o7 o8) :=
  (Zua (Zdj (d:=wD l) (i:=(m:Int)) (own rfl) ((Jm (Zgc (m:=2) hl rfl rfl (by omega)) (len rfl) (by omega)).cast (by rw [hm])) (Zg5 (by rw [List.getElem?_map,hlm]; rfl))) rfl).trans rfl
 have a2:wE (Zd0 (Ze (Yx gIx (Zd 1) (Zb Jq (fC (.int 12)) (Zd 4))) Zn)) (Jf 6) (eW c vs k ls (some (.fz (dI j))) (some (.fz (wD l))) o6 o7 o8) = .nx (eW c vs k ls (some (.fz (dI j))) (some (.fz (wD l))) (some (.nd ([vs.getD (12 + j) 0].map fun v=>.fz (.int v)))) o7 o8) :=
  (Zc9 (Z78 (Zpf (Zgc (m:=12) hl rfl rfl (by omega))))).trans rfl
 obtain ⟨ts,a3⟩:∃ ts:List Int,(W0 (tV (Zb gEq (Zb Za2 (Yx gIx (Zd 1) (Zb Jq (fC (.int 22)) (Zd 4))) (fC (.int 6))) (fC (.int 1))))
  (Yi 6 (Zb Zad (Yx gIx (Zd 1) (Zb Jq (fC (.int 22)) (Zd 4))) (fC (.int 6)))) fNx) (eW c vs k ls (some (.fz (dI j))) (some (.fz (wD l))) (some (.nd ([vs.getD (12 + j) 0].map fun v=>.fz (.int v)))) o7 o8) = .nx (eW c vs k ls (some (.fz (dI j))) (some (.fz (wD l))) (some (.nd (ts.map fun v=>.fz (.int v)))) o7 o8):=by
  by_cases q:(vs.getD (22 + j) 0).fmod 6 = 1
  ·exact ⟨_,Zao (Zd7 (Zjh (Jm (Zgc (m:=22) hl rfl rfl (by omega)) Yr (by decide)) Yr (decide_eq_true q))) ((Zhj (vs:=[vs.getD (12 + j) 0]) (Zej (Zgc (m:=22) hl rfl rfl (by omega)) Yr) rfl (show 1 ≤ 1000000 by decide)).trans rfl)⟩
  ·exact ⟨_,Yl (Zd7 (Zjh (Jm (Zgc (m:=22) hl rfl rfl (by omega)) Yr (by decide)) Yr (decide_eq_false q))) rfl⟩
 obtain ⟨l',o7',o8',ol',a4⟩:=Zrw (c:=c) (vs:=vs) (ls:=ls) (o4:=some (.fz (dI j))) (o7:=o7) (o8:=o8) (ts:=ts) W.k8 ol
 have t:=Zd7 (Zr (g:=Zhm true) (Za (i:=5) (δ:=eW c vs k ls (some (.fz (dI j))) (some (.fz (wD l'))) (some (.fz (Wi ts))) o7' o8') rfl) (own rfl) Z5c)
 by_cases q:l' ∈ ls
 ·rw [decide_eq_true q] at t
  exact ⟨ls,_,_,_,_,W,Nat.le_succ _,Zv a1 (Zv a2 (Zv a3 (Zv a4 (Yl t rfl))))⟩
 ·rw [decide_eq_false q] at t
  obtain ⟨p,hp,lp⟩:=Zah (vs.getD (32 + j) 0) (Nat.succ_pos ls.length)
  obtain ⟨W',le,em⟩:=Zyr W (j:=p) (by omega) q ol' h9
  refine ⟨Zh6 ls p l',some (.fz (wD l')),some (.fz (Wi ts)),o7',o8',W',by omega,Zv a1 (Zv a2 (Zv a3 (Zv a4 (Zao t ((Zpk (k:=p) (ts:=(ls.map wD).map OT.fz) (d:=wD l') (Zf ((Jm (Zgc (m:=32) hl rfl rfl (by omega)) (Jw (len rfl) Yr) (by omega)).cast ?_) (Zf (Za rfl) Zk)) rfl (by rw [List.length_map,List.length_map]; omega) (by rw [List.length_map,List.length_map]; omega)).trans ?_)))))⟩
  ·exact congrArg PyData.int hp
  ·rw [em]; rfl
theorem Zso (x:Int):∃ b:Nat,(b = 48∨b = 49)∧Ziy (.str "01") (.int (x.fmod 2)) = some (.fz (wD [b])):=by
 obtain ⟨m,hm,lm⟩:=Zah x (n:=2) (by decide)
 have hm:x.fmod 2 = m:=hm
 rw [hm]
 rcases (show m = 0∨m = 1 by omega) with rfl | rfl
 ·exact ⟨48,.inl rfl,rfl⟩
 ·exact ⟨49,.inr rfl,rfl⟩
theorem Zqx (c:Int):∃ k ls,Told Z1 [.int c] (.list (ls.map wD))∧Wds k ls:=by
 obtain ⟨vs,T,hl⟩:=Zm5 c
 obtain ⟨k,hk,k8⟩:=Zah (vs.getD 0 0) (n:=8) (by decide)
 obtain ⟨t,ht,t10⟩:=Zah (vs.getD 1 0) (n:=10) (by decide)
 have hk:(vs.getD 0 0).fmod 8 = k:=hk
 have ht:(vs.getD 1 0).fmod 10 = t:=ht
 obtain ⟨f,hf⟩:∃ f:Nat→Nat,∀ x,(f x = 48∨f x = 49)∧Ziy (.str "01") (.int (((vs.getD (40 + x) 0).fdiv 7).fmod 2)) = some (.fz (wD [f x])):=⟨fun x=>Classical.choose (Zso ((vs.getD (40 + x) 0).fdiv 7)),fun x=>Classical.choose_spec (Zso ((vs.getD (40 + x) 0).fdiv 7))⟩
 have ol:OkL k ((List.range k).map f):=⟨by rw [List.length_map,List.length_range],fun c hc=>by
  obtain ⟨x,_,rfl⟩:=List.mem_map.mp hc
  exact (hf x).1⟩
 have j:Zl2 "" [.list ((List.range k).map fun x=>wD [f x])] = some (wD ((List.range k).map f)):=by
  have:=Zvf k8 ol
  rw [List.map_map] at this
  exact this
 have cm:∀ {δ:Zc},δ[1]? = some (some (.fz (Wi vs)))→δ[2]? = some (some (.fz (dI k)))→blk 1 [1] δ = [none,some (.fz (Wi vs))]→EvV (Wu 1 [1] (iRa (Ze (Zd 2) Zn)) (gNm 0) Zk9 (Yx Ziy (fC (.str "01")) (Zb Za2 (Zb Zad (Yx gIx (Zd 1) (Zb Jq (fC (.int 40)) (Zd 0))) (fC (.int 7))) (fC (.int 2))))) δ (.list ((List.range k).map fun x=>wD [f x])):=fun h1 h2 hb =>
  Zi2 (cs:=[some (.fz (Wi vs))]) (List.range k) dI (fun x=>wD [f x]) (by rw [← Z3i]; exact Zfk (Zf (Za h2) Zk) (by omega)) (by rw [List.length_range]; omega) hb fun x hx=>by
   have hx:=List.mem_range.mp hx
   have e:=Za9 (p:=vs) (i:=(40:Int) + (x:Int)) (δ:=[some (.fz (dI x)),some (.fz (Wi vs))]) (Za (i:=1) rfl) (Jw Yr (Za (i:=0) rfl)) (by omega) (by omega)
   exact Zdi Yr (Jm (Zej (e.cast (by rw [show ((40:Int) + (x:Int)).toNat = 40 + x by omega])) Yr) Yr (by decide)) (hf x).2 (OT.data_fz _)
 have key:∃ d,Told Z1 [.int c] d∧∃ ls,d = .list (ls.map wD)∧Wds k ls:=by
  refine Zro rfl <| Zba (Ym (Z6 (Zf (Za rfl) (Zf Yr (Zf Yr Zk))) T)) <| Zba (Ym (d:=dI k) ((Jm (Za9 (p:=vs) (i:=0) (Za rfl) Yr (by decide) (by omega)) Yr (by decide)).cast (congrArg PyData.int hk))) <|
   Zba (δ':=eW c vs k [(List.range k).map f] none none none none none) ((Zc9 (Z78 (Ztc Yr (Zf (cm rfl rfl rfl) Zk) j))).trans rfl) <|
   Zk8 (ds:=Zcw 1 (1 + t - 1)) (fun i δ=>∃ ls o4 o5 o6 o7 o8,δ = eW c vs k ls o4 o5 o6 o7 o8∧Wds k ls∧ls.length ≤ i + 1) (Zt0 (m:=1) (n:=1 + t) (Zf Yr (Zf ((Jw Yr (Jm (Za9 (p:=vs) (i:=1) (Za rfl) Yr (by decide) (by omega)) Yr (by decide))).cast ?_) Zk)) (by decide) (by omega))
   ⟨_,_,_,_,_,_,rfl,⟨k8,fun l h=>List.mem_singleton.mp h ▸ ol,List.nodup_cons.mpr ⟨(fun z=>nomatch z),.nil⟩,Nat.le_refl _,show 1 ≤ 10 by decide⟩,Nat.le_refl _⟩ (fun i d δ hd h=>?_) fun δ' h=>?_
  ·show PyData.int (1 + (vs.getD 1 0).fmod 10) = PyData.int ((1 + t:Nat):Int)
   rw [ht]; exact congrArg _ (by omega)
  ·obtain ⟨ls,o4,o5,o6,o7,o8,rfl,W,le⟩:=h
   obtain ⟨hi,e⟩:=Zap hd
   have e:d = dI (1 + i):=e.trans (congrArg PyData.int (by omega))
   subst e
   obtain ⟨ls',p5,p6,p7,p8,W',le',run⟩:=Zw8 (c:=c) (o5:=o5) (o6:=o6) (o7:=o7) (o8:=o8) (j:=1 + i) hl W (by omega) (by omega)
   exact ⟨_,_,rfl,.inl run,ls',_,_,_,_,_,rfl,W',by omega⟩
  ·obtain ⟨ls,o4,o5,o6,o7,o8,rfl,W,le⟩:=h
   exact Z4f (o:=wsO ls) rfl ⟨ls,Zkv ls,W⟩
 obtain ⟨d,T2,ls,rfl,W⟩:=key
 exact ⟨k,ls,T2,W⟩
theorem Znz {e:FE} {δ:Zc} {i:Nat} {ts rs:List OT} {ds:List PyData} (h:e δ = some (.nd rs,δ)) (hd:OT.datas rs = ds) (hi:δ[i]? = some (some (.nd ts))) (hl:ts.length + ds.length ≤ 1000000):Zan i e δ = .nx (δ.set i (some (.nd (ts ++ ds.map OT.fz)))):=by
 unfold Zan
 rw [hi]
 dsimp only
 rw [Zb5,h,Z5,hi]
 dsimp only
 have lr:rs.length = ds.length:=by rw [← hd,Zch]
 rw [if_pos (by rw [sizeLine_eq,lr]; omega),hd]
theorem Z56 {α:Type} {t:FT} {me:FE} {cs:Zc} (x1 x2:α→PyData) (p:α→Bool) (f:α→OT):∀ (xs:List α) (z0 z1:Option OT),(∀ x ∈ xs,t (some (.fz (x1 x)) :: some (.fz (x2 x)) :: cs) = some (p x,some (.fz (x1 x)) :: some (.fz (x2 x)) :: cs))→(∀ x ∈ xs,p x = true→me (some (.fz (x1 x)) :: some (.fz (x2 x)) :: cs) = some (f x,some (.fz (x1 x)) :: some (.fz (x2 x)) :: cs)) →
  ∃ z0' z1',compLoop (gTp 2 (gCn (gNm 0) (gCn (gNm 1) gNl))) t me (xs.map fun x=>.tuple [x1 x,x2 x]) (z0 :: z1 :: cs) = some ((xs.filter p).map f,z0' :: z1' :: cs):=by
 intro xs
 induction xs with
 | nil=>exact fun z0 z1 _ _=>⟨z0,z1,rfl⟩
 | cons x xs ih =>
  intro z0 z1 ht hm
  obtain ⟨y0,y1,e⟩:=ih (some (.fz (x1 x))) (some (.fz (x2 x))) (fun y hy=>ht y (.tail _ hy)) fun y hy=>hm y (.tail _ hy)
  refine ⟨y0,y1,?_⟩
  rw [List.map_cons,compLoop]
  show ((t (some (.fz (x1 x)) :: some (.fz (x2 x)) :: cs)).bind _) = _
  rw [ht x (.head _),Option.bind_some]
  dsimp only
  cases hp:p x with
  | true=>rw [if_pos rfl,hm x (.head _) hp,Option.bind_some,List.filter_cons_of_pos hp,List.map_cons]; dsimp only; rw [e]; rfl
  | false=>rw [if_neg Bool.false_ne_true,List.filter_cons_of_neg (by rw [hp]; exact Bool.false_ne_true)]; exact e
theorem Ztk {α:Type} {caps:List Nat} {it:FI} {t:FT} {me:FE} {cs δ:Zc} (xs:List α) (x1 x2:α→PyData) (p:α→Bool) (f:α→OT) (hi:EvI it δ (xs.map fun x=>.tuple [x1 x,x2 x])) (hz:xs.length ≤ 1000000) (hb:blk 2 caps δ = none :: none :: cs)
  (ht:∀ x ∈ xs,t (some (.fz (x1 x)) :: some (.fz (x2 x)) :: cs) = some (p x,some (.fz (x1 x)) :: some (.fz (x2 x)) :: cs)) (hm:∀ x ∈ xs,p x = true→me (some (.fz (x1 x)) :: some (.fz (x2 x)) :: cs) = some (f x,some (.fz (x1 x)) :: some (.fz (x2 x)) :: cs)) :
  Wu 2 caps it (gTp 2 (gCn (gNm 0) (gCn (gNm 1) gNl))) t me δ = some (.nd ((xs.filter p).map f),δ):=by
 obtain ⟨z0,z1,e⟩:=Z56 x1 x2 p f xs none none ht hm
 unfold EvI at hi
 unfold Wu
 rw [hi,Option.bind_some]
 dsimp only
 rw [if_pos (by rw [sizeLine_eq,List.length_map]; omega),hb,e]; rfl
noncomputable def unl (a b:List Nat):Nat:=((a.zip b).filter fun q=>q.1 != q.2).length
theorem Z2f {l:List Nat} (h:∀ c ∈ l,c = 48∨c = 49):Sh 0 (wD l):=⟨by
 show PyData.canLay0 (.str (mkW l)) = true
 rw [PyData.canLay0]
 unfold PyData.strOk
 rw [Array.all_eq_true_iff_forall_mem]
 intro c m
 rcases h c (List.mem_toArray.mp m) with rfl | rfl <;> rfl,Nat.le_of_eq rfl⟩
theorem Zp4 {x y:Nat} (hx:x = 48∨x = 49) (hy:y = 48∨y = 49):gNe (wD [x]) (wD [y]) = some (.bool (x != y)):=by
 have s:∀ {x:Nat},(x = 48∨x = 49)→SeqAt.shaped (wD [x]) = true:=fun h=>((Z2f fun c hc=>List.mem_singleton.mp hc ▸ h).shp (by omega)).ok
 unfold gNe
 rw [if_pos (by rw [s hx,s hy]; rfl)]
 refine congrArg (fun b=>some (PyData.bool (!b))) ?_
 by_cases c:x = y
 ·subst c
  rw [Zjx (show Z0 (wD [x]) = true by unfold wD; rw [Z0])]
  exact (beq_self_eq_true x).symm
 ·rw [Z1y (show Z0 (wD [x]) = true by unfold wD; rw [Z0]) (show Z0 (wD [y]) = true by unfold wD; rw [Z0]) fun e=>c (by
   have:=Zjt (PyData.str.inj e)
   exact (List.cons.inj this).1)]
  exact (beq_eq_false_iff_ne.mpr c).symm
theorem Zjl {k:Nat} {l:List Nat} (h:OkL k l) (hk:k < 8):Zgw [wD l] = some (.int k):=by
 unfold Zgw wD
 show (if (mkW l).length ≤ sizeLine then _ else _) = _
 have e:(mkW l).length = k:=by show l.toArray.size = k; rw [List.size_toArray,h.1]
 rw [e,if_pos (by rw [sizeLine_eq]; omega)]
theorem Ztd {k i:Nat} {l:List Nat} (h:OkL k l) (hk:k < 8) (hi:i < k):Ziy (wD l) (dI i) = some (.fz (wD [l.getD i 0])):=by
 show (if (mkW l).length ≤ sizeLine then _ else _) = _
 have e:(mkW l).length = k:=by show l.toArray.size = k; rw [List.size_toArray,h.1]
 rw [e,if_pos (by rw [sizeLine_eq]; omega)]
 have hl:i < l.length:=by rw [h.1]; exact hi
 have a:atI (mkW l).cps.toList (i:Int) = some (l.getD i 0):=Zg5 (by show l[i]? = _; rw [List.getElem?_eq_getElem hl,List.getD_eq_getElem?_getD,List.getElem?_eq_getElem hl]; rfl)
 rw [a]; rfl
theorem Zm4 {k i:Nat} {l:List Nat} (h:OkL k l) (hi:i < k):l.getD i 0 = 48∨l.getD i 0 = 49:=by
 have hl:i < l.length:=by rw [h.1]; exact hi
 rw [List.getD_eq_getElem?_getD,List.getElem?_eq_getElem hl]
 exact h.2 _ (List.getElem_mem hl)
theorem Zmh {k:Nat} {a b:List Nat} (ha:OkL k a) (hb:OkL k b) (hk:k < 8):Told Yq [wD a,wD b] (.int (unl a b)):=by
 have zl:(a.zip b).length ≤ 7:=by rw [List.length_zip,ha.1,hb.1,Nat.min_self]; omega
 have z:EvI (Zpc (Ze (Zd 0) (Ze (Zd 1) Zn))) (Zac 2 [wD a,wD b]) ((a.zip b).map fun q=>.tuple [wD [q.1],wD [q.2]]):=by
  have e:Zi8 (Zdx (mkW a)) (Zdx (mkW b)) = (a.zip b).map fun q=>.tuple [wD [q.1],wD [q.2]]:=by
   show ((a.map fun c=>wD [c]).zip (b.map fun c=>wD [c])).map _ = _
   rw [List.zip_map,List.map_map]; rfl
  rw [← e]; rfl
 refine We rfl (Zak ((Za3 (ds:=((a.zip b).filter fun q=>q.1 != q.2).map fun q=>wD [q.1]) ⟨_,Ztk (cs:=[]) (a.zip b) (fun q=>wD [q.1]) (fun q=>wD [q.2]) (fun q=>q.1 != q.2) (fun q=>.fz (wD [q.1])) z (by omega) rfl (fun q hq=>?_) fun q _ _=>rfl,?_⟩).cast (by rw [List.length_map]; rfl)))
 ·obtain ⟨h1,h2⟩:=List.of_mem_zip hq
  exact Zd7 (Zr (Za rfl) (Za rfl) (Zp4 (ha.2 _ h1) (hb.2 _ h2)))
 ·rw [OT.data_nd,Zdf]
theorem Zoi {a b:List Nat} {k:Nat} (ha:a.length = k) (hb:b.length = k):a.zip b = (List.range k).map fun i=>(a.getD i 0,b.getD i 0):=by
 refine List.ext_getElem? fun i=>?_
 rw [List.getElem?_map]
 by_cases c:i < k
 ·rw [List.getElem?_range c,List.getElem?_eq_getElem (by rw [List.length_zip]; omega),List.getElem_zip]
  show _ = some (a.getD i 0,b.getD i 0)
  rw [List.getD_eq_getElem?_getD,List.getElem?_eq_getElem (by omega),List.getD_eq_getElem?_getD,List.getElem?_eq_getElem (by omega)]; rfl
 ·rw [List.getElem?_eq_none (by rw [List.length_zip]; omega),List.getElem?_eq_none (by rw [List.length_range]; omega)]; rfl
theorem Zgz {k:Nat} {a b:List Nat} (ha:OkL k a) (hb:OkL k b) (hk:k < 8):Told Wa [wD a,wD b] (.int (unl a b)):=by
 refine We rfl (Zak ((Za3 (Zqi (cs:=[some (.fz (wD a)),some (.fz (wD b))]) (List.range k) dI (fun i=>a.getD i 0 != b.getD i 0) ?_ (by rw [List.length_range]; omega) rfl (fun i hi=>?_) fun i _ _=>rfl)).cast ?_))
 ·rw [← Z3i]
  exact Zfk (Zf (Zet (Zf (Za rfl) Zk) (Zjl ha hk)) Zk) (by omega)
 ·have hi:=List.mem_range.mp hi
  exact Zd7 (Zr (Zdi (Za (i:=1) rfl) (Za (i:=0) rfl) (Ztd ha hk hi) (OT.data_fz _)) (Zdi (Za (i:=2) rfl) (Za (i:=0) rfl) (Ztd hb hk hi) (OT.data_fz _)) (Zp4 (Zm4 ha hi) (Zm4 hb hi)))
 ·unfold unl
  rw [List.length_map,Zoi ha.1 hb.1,List.filter_map,List.length_map]; rfl
noncomputable def isR (ls:List (List Nat)) (p:Nat × Nat):Bool:=decide (unl (ls.getD p.1 []) (ls.getD p.2 []) = 1)
noncomputable def rsW (ls:List (List Nat)):List (Nat × Nat):=(Zdw ls.length).filter (isR ls)
theorem Zfv:∀ n < 11,((Zdw n).length ≤ 100∧(Zdw n).Pairwise fun r r'=>ltI (rI r) (rI r') = true):=by decide +kernel
theorem Zui {α:Type} {P:α→α→Prop} {xs:List α} (h:xs.Pairwise P) {i:Nat} {a b:α} (ha:xs[i]? = some a) (hb:xs[i + 1]? = some b):P a b:=by
 obtain ⟨h1,e1⟩:=List.getElem?_eq_some_iff.mp ha
 obtain ⟨h2,e2⟩:=List.getElem?_eq_some_iff.mp hb
 have:=List.pairwise_iff_getElem.mp h i (i + 1) h1 h2 (Nat.lt_succ_self _)
 rw [e1,e2] at this
 exact this
theorem Zg1 {k:Nat} {ls:List (List Nat)} (W:Wds k ls):Roads ls.length (rsW ls):=by
 obtain ⟨h1,h2⟩:=Zfv ls.length (Nat.lt_succ_of_le W.l10)
 refine ⟨W.l1,W.l10,fun r hr=>Zfz (List.mem_filter.mp hr).1,fun i r r' ha hb=>Zui (List.Pairwise.filter _ h2) ha hb,?_⟩
 have:(rsW ls).length ≤ (Zdw ls.length).length:=List.length_filter_le _ _
 omega
theorem Zec {k:Nat} {ls:List (List Nat)} (W:Wds k ls) {i:Nat} (hi:i < ls.length):OkL k (ls.getD i [])∧atI (ls.map wD) (i:Int) = some (wD (ls.getD i [])):=by
 have e:ls.getD i [] = ls[i]:=by rw [List.getD_eq_getElem?_getD,List.getElem?_eq_getElem hi]; rfl
 rw [e]
 exact ⟨W.ok _ (List.getElem_mem hi),Zg5 (by rw [List.getElem?_map,List.getElem?_eq_getElem hi]; rfl)⟩
theorem Zic {k:Nat} {ls:List (List Nat)} (W:Wds k ls):Told Jk [.list (ls.map wD)] (.list ((rsW ls).map ptD)):=by
 have l10:=W.l10
 have len:∀ {δ:Zc} {i:Nat},δ[i]? = some (some (.fz (.list (ls.map wD))))→EvV (Zas Zb7 (Ze (Zd i) Zn)) δ (.int ls.length):=fun h=>(Za3 (Za h)).cast (by rw [List.length_map])
 refine We rfl <| Wv Zfu <| Zge (ds:=Zcw 0 ls.length) (fun i δ=>∃ z,δ = [some (.fz (.list (ls.map wD))),some (.nd ((((Zb4 ls.length i).filter (isR ls)).map ptD).map OT.fz)),z]) (Zfk (Zf (len rfl) Zk) (by omega)) ⟨_,rfl⟩ (fun i d δ hd h=>?_) fun δ' h=>?_
 ·obtain ⟨z,rfl⟩:=h
  obtain ⟨hi,e⟩:=Zap hd
  rw [Int.zero_add] at e
  subst e
  have hi2:EvI (iRb (Ze (Zb Jq (Zd 2) (fC (.int 1))) (Ze (Zas Zb7 (Ze (Zd 0) Zn)) Zn))) [some (.fz (.list (ls.map wD))),some (.nd ((((Zb4 ls.length i).filter (isR ls)).map ptD).map OT.fz)),some (.fz (dI i))] ((List.range (ls.length - (i + 1))).map fun j=>dI (i + 1 + j)):=by
   have:=Zt0 (m:=i + 1) (n:=ls.length) (δ:=[some (.fz (.list (ls.map wD))),some (.nd ((((Zb4 ls.length i).filter (isR ls)).map ptD).map OT.fz)),some (.fz (dI i))]) (as:=Ze (Zb Jq (Zd 2) (fC (.int 1))) (Ze (Zas Zb7 (Ze (Zd 0) Zn)) Zn)) (Zf ((Jw (Za rfl) Yr).cast (congrArg PyData.int (by omega))) (Zf (len rfl) Zk)) (by omega) (by omega)
   refine this.trans (congrArg (fun l=>some (l,_)) ?_)
   exact List.map_congr_left fun j _=>congrArg PyData.int (by omega)
  have cmp:=Zeh (δ:=[some (.fz (.list (ls.map wD))),some (.nd ((((Zb4 ls.length i).filter (isR ls)).map ptD).map OT.fz)),some (.fz (dI i))]) (δ1:=[some (.fz (.list (ls.map wD))),some (.nd ((((Zb4 ls.length i).filter (isR ls)).map ptD).map OT.fz)),some (.fz (dI i))]) (caps:=[2,0]) (cs:=[some (.fz (dI i)),some (.fz (.list (ls.map wD)))])
   (t:=tV (Zb gEq (Yh Wa (Ze (Yx gIx (Zd 2) (Zd 1)) (Ze (Yx gIx (Zd 2) (Zd 0)) Zn))) (fC (.int 1)))) (me:=Zi0 (Ze (Zd 1) (Ze (Zd 0) Zn)))
   (List.range (ls.length - (i + 1))) (fun j=>dI (i + 1 + j)) (fun j=>isR ls (i,i + 1 + j)) (fun j=>.fz (ptD (i,i + 1 + j))) hi2 (by rw [sizeLine_eq,List.length_range]; omega) rfl (fun j hj=>by
    have hj:=List.mem_range.mp hj
    obtain ⟨o1,a1⟩:=Zec W (i:=i) hi
    obtain ⟨o2,a2⟩:=Zec W (i:=i + 1 + j) (by omega)
    refine Zd7 ((Zjh (Z6 (Zf (Zdj (Za (i:=2) rfl) (Za (i:=1) rfl) a1) (Zf (Zdj (Za (i:=2) rfl) (Za (i:=0) rfl) a2) Zk)) (Zgz o1 o2 W.k8)) Yr rfl).cast (congrArg PyData.bool ?_))
    show decide (((unl (ls.getD i []) (ls.getD (i + 1 + j) []):Nat):Int) = 1) = decide (unl (ls.getD i []) (ls.getD (i + 1 + j) []) = 1)
    exact decide_eq_decide.mpr ⟨fun h=>by omega,fun h=>by omega⟩) fun j _ _=>rfl
  have l2:(Zb4 ls.length i).length ≤ 1000:=Nat.le_trans (Zeq _ _) (Nat.le_trans (Nat.mul_le_mul (Nat.le_of_lt (Nat.lt_of_lt_of_le hi l10)) l10) (by decide))
  have l3:=List.length_filter_le (isR ls) (Zb4 ls.length i)
  have l4:=List.length_filter_le (fun j=>isR ls (i,i + 1 + j)) (List.range (ls.length - (i + 1)))
  rw [List.length_range] at l4
  refine ⟨_,_,rfl,.inl (Znz (ds:=((List.range (ls.length - (i + 1))).filter fun j=>isR ls (i,i + 1 + j)).map fun j=>ptD (i,i + 1 + j)) cmp ?_ rfl ?_),some (.fz (dI i)),?_⟩
  ·rw [datas_map,Zdf]
  ·rw [List.length_map,List.length_map,List.length_map]; omega
  ·show [_,some (OT.nd _),_] = [_,some (OT.nd _),_]
   have e2:(((List.range (ls.length - (i + 1))).filter (isR ls ∘ fun j=>(i,i + 1 + j))).map fun j=>(i,i + 1 + j)).map ptD = ((List.range (ls.length - (i + 1))).filter fun j=>isR ls (i,i + 1 + j)).map fun j=>ptD (i,i + 1 + j):=by rw [List.map_map]; rfl
   rw [Zf7,List.filter_append,List.filter_map,List.map_append,List.map_append,e2]; rfl
 ·obtain ⟨z,rfl⟩:=h
  refine Z0e rfl ?_
  rw [OT.data_nd,OT.map_fz,Jv]; rfl
theorem Zlm {k:Nat} {l:List Nat} (ho:OkL k l) (hk:k < 8):Told Jb [wD l,dI k] (.bool true):=by
 have c:=List.all_eq_true.mp (List.all_eq_true.mp Z7t k (List.mem_range.mpr hk)) l (Zgl ho)
 rw [Bool.and_eq_true] at c
 have c:=c.1
 unfold Z67 at c
 split at c
 case h_2=>cases c
 rename_i a b h1 h2
 have ct:∀ {δ:Zc} {s:Str} {d:PyData},δ[0]? = some (some (.fz (wD l)))→Zdl (mkW l) [.str s] = some d→EvV (Zvc Zdl (Zd 0) (Ze (fC (.str s)) Zn)) δ d:=fun h g=>⟨_,Ztc (Za h) (Zf Yr Zk) g,OT.data_fz _⟩
 exact We rfl (Zak (Zgx (Zjh (Zet (Zf (Za rfl) Zk) (Zjl ho hk)) (Za rfl) (decide_eq_true rfl)) (Zjh (Jw (ct rfl h1) (ct rfl h2)) (Za rfl) c)))
theorem Zvh (ls:List (List Nat)):Zgy (ls.map wD) = some (ls.map mkW):=by
 have:=Zif (ls.map mkW)
 rw [List.map_map] at this
 exact this
theorem Zbz {k:Nat} {ls:List (List Nat)} (W:Wds k ls):Told Yz [.list (ls.map wD)] .none:=by
 have l10:=W.l10
 have l1:=W.l1
 have len:∀ {δ:Zc},δ[0]? = some (some (.fz (.list (ls.map wD))))→EvV (Zas Zb7 (Ze (Zd 0) Zn)) δ (.int ls.length):=fun h=>(Za3 (Za h)).cast (by rw [List.length_map])
 have nd:(ls.map mkW).Nodup:=List.pairwise_map.mpr (W.nd.imp fun h e=>h (Zjt e))
 have ss:Zib [.list (ls.map wD)] = some (.int ls.length):=by
  show ((Zgy (ls.map wD)).bind fun ts=>if ts.length < 4095 then some (PyData.int (Zlp ts).length) else none) = _
  rw [Zvh,Option.bind_some,if_pos (by rw [List.length_map]; omega),Zly nd,List.length_map]
 have ls1:EvV (Zgj (Ze (Zd 0) Zn)) (Zac 2 [.list (ls.map wD)]) (.int ls.length):=by
  refine ⟨.fz (.int ls.length),?_,OT.data_fz _⟩
  show (Zib [.list (ls.map wD)]).bind _ = _
  rw [ss]; rfl
 obtain ⟨o0,a0⟩:=Zec W (i:=0) (by omega)
 refine Exists.elim (Zey (δ:=[some (.fz (.list (ls.map wD))),none]) (it:=Zbw (Zd 0)) (g:=gNm 1) (S:=W0 (tNo (tD (Yh Jb (Ze (Zd 1) (Ze (Zas Zgw (Ze (Yx gIx (Zd 0) (fC (.int 0))) Zn)) Zn))))) (Za0 "NoWeb") fNx)
  (fun i δ=>∃ z,δ = [some (.fz (.list (ls.map wD))),z]) (Zbd (ds:=ls.map wD) (Za rfl)) ⟨_,rfl⟩ (fun i d δ hd h=>?turn)) fun δ' z=>?fin
 case turn =>
  obtain ⟨z,rfl⟩:=h
  rw [List.getElem?_map] at hd
  obtain ⟨l,hl,rfl⟩:=Option.map_eq_some_iff.mp hd
  exact ⟨_,_,rfl,.inl (Yl (Zcb (p:=true) (Zcx (Z6 (Zf (Za rfl) (Zf (Zet (Zf (Zdj (Za rfl) Yr a0) Zk) (Zjl o0 W.k8)) Zk)) (Zlm (W.ok l (List.mem_of_getElem? hl)) W.k8)))) rfl),some (.fz (wD l)),rfl⟩
 case fin =>
  obtain ⟨e,z,rfl⟩:=z
  exact Zhy rfl (Zv (Yl (Zxr (Zcb (p:=true) (Zcx (Z6 (Zf (len rfl) Zk) (Zag l1 l10)))) (Zd7 (Zns ls1 (len rfl) (decide_eq_false (Int.lt_irrefl _))))) rfl) e)
noncomputable def wwO (ls:List (List Nat)):OT:=.tp [.fz (dI ls.length),.nd (((rsW ls).map ptD).map OT.fz)]
theorem Zs0 {k:Nat} {ls:List (List Nat)} (W:Wds k ls):wE (Wu 2 [0] (Zbw (Yh Wt (Ze (Zd 1) Zn))) (gTp 2 (gCn (gNm 0) (gCn (gNm 1) gNl))) (tV (Zb gEq (Yh Yq (Ze (Yx gIx (Zd 2) (Zd 0)) (Ze (Yx gIx (Zd 2) (Zd 1)) Zn))) (fC (.int 1)))) (Zi0 (Ze (Zd 0) (Ze (Zd 1) Zn)))) (Jf 2) [some (.fz (.list (ls.map wD))),some (.fz (dI ls.length)),none] = .nx [some (.fz (.list (ls.map wD))),some (.fz (dI ls.length)),some (.nd (((rsW ls).map ptD).map OT.fz))]:=by
 obtain ⟨h1,_⟩:=Zfv ls.length (Nat.lt_succ_of_le W.l10)
 have l10:=W.l10
 refine (Zc9 (Ztk (cs:=[some (.fz (.list (ls.map wD)))]) (Zdw ls.length) (fun p=>dI p.1) (fun p=>dI p.2) (isR ls) (fun p=>.fz (ptD p)) (Zbd (Z6 (Zf (Za rfl) Zk) (Zjw _ (by omega)))) (by omega) rfl (fun p hp=>?_) fun p _ _=>rfl)).trans ?_
 ·obtain ⟨p1,p2⟩:=Zfz hp
  obtain ⟨o1,a1⟩:=Zec W (i:=p.1) (by omega)
  obtain ⟨o2,a2⟩:=Zec W (i:=p.2) p2
  refine Zd7 ((Zjh (Z6 (Zf (Zdj (Za (i:=2) rfl) (Za (i:=0) rfl) a1) (Zf (Zdj (Za (i:=2) rfl) (Za (i:=1) rfl) a2) Zk)) (Zmh o1 o2 W.k8)) Yr rfl).cast (congrArg PyData.bool ?_))
  exact decide_eq_decide.mpr ⟨fun h=>by omega,fun h=>by omega⟩
 ·rw [List.map_map]; rfl
theorem Z39 {k:Nat} {ls:List (List Nat)} (W:Wds k ls) (hc:Zsu ls.length (rsW ls)):Zq [.list (ls.map wD)] = .ok (wwO ls):=by
 obtain ⟨d,T⟩:=Zjd (Zg1 W) hc
 have e:Yo (Zac 3 [.list (ls.map wD)]) = .rt (wwO ls) [some (.fz (.list (ls.map wD))),some (.fz (dI ls.length)),none] :=
  Zv (Z0u (Zf (Za rfl) Zk) (Zbz W) fun _ _=>rfl) <| Zv (Ym (d:=dI ls.length) ((Za3 (Za rfl)).cast (by rw [List.length_map]; rfl))) <| Zv (Zs0 W) <| Zv (Z0u (Zf (Za rfl) (Zf (Zdq rfl (by rw [OT.data_nd,OT.map_fz])) Zk)) T fun _ _=>rfl) rfl
 unfold Zq
 rw [Zgu (show [PyData.list (ls.map wD)].length = 1 from rfl),e,Zn4]
theorem Z4a {k:Nat} {ls:List (List Nat)} (W:Wds k ls) (hc:¬ Zsu ls.length (rsW ls)):Zq [.list (ls.map wD)] = .exn "NoWeb" :=
 Zj1 rfl (Zv (Z0u (Zf (Za rfl) Zk) (Zbz W) fun _ _=>rfl) <| Zv (Ym (d:=dI ls.length) ((Za3 (Za rfl)).cast (by rw [List.length_map]; rfl))) <| Zv (Zs0 W) <| Zeo (Zpw (Zf (Za rfl) (Zf (Zdq rfl (by rw [OT.data_nd,OT.map_fz])) Zk)) (Zjc (Zg1 W) hc)))
theorem Zvw {e:FE} {st:FO} {δ:Zc} {ds:List PyData} {k:Int} (h:EvV e δ (.list ds)) (hs:EvO st δ (some k)) (hk:k ≠ 0):EvV (Zq7 e oN oN st) δ (.list (Zc7 ds none none (some k))):=by
 obtain ⟨t,e1,e2⟩:=h
 unfold EvO at hs
 refine ⟨.nd ((Zc7 ds none none (some k)).map OT.fz),?_,by rw [OT.data_nd,OT.map_fz]⟩
 unfold Zq7
 rw [e1]
 show (st δ).bind _ = _
 rw [hs]
 show (stepOf t.data none none (some k)).bind _ = _
 rw [e2]
 show (if some k = some 0 then none else some _:Option OT).bind _ = _
 rw [if_neg (fun z=>hk (Option.some.inj z))]; rfl
theorem Zra (l:List Int) (lo hi:Option Int):∃ l':List Int,cutD (l.map PyData.int) lo hi = l'.map PyData.int∧l'.length ≤ l.length:=by
 refine ⟨(l.drop (HT.sIx l.length 0 lo)).take (HT.sIx l.length l.length hi - HT.sIx l.length 0 lo),?_,?_⟩
 ·unfold cutD
  rw [List.length_map,List.map_take,List.map_drop]
 ·rw [List.length_take,List.length_drop]; omega
theorem Zzb {e:FE} {δ:Zc} {lo hi:FO} {l h:Option Int} {p:List Int} (he:EvV e δ (Wi p)) (hl:EvO lo δ l) (hh:EvO hi δ h):∃ q,EvV (fSl e lo hi) δ (Wi q)∧q.length ≤ p.length:=by
 obtain ⟨q,e1,e2⟩:=Zra p l h
 refine ⟨q,?_,e2⟩
 have:=Zzp (ds:=p.map PyData.int) he hl hh
 rwa [e1] at this
theorem Zue {a b:FE} {δ:Zc} {p q:List Int} (ha:EvV a δ (Wi p)) (hb:EvV b δ (Wi q)) (hl:p.length + q.length ≤ 1000000):EvV (Yx Zp9 a b) δ (Wi (p ++ q)):=by
 refine (Ztg (ds:=p.map PyData.int) (es:=q.map PyData.int) ha hb (by rw [List.length_map,List.length_map]; exact hl)).cast ?_
 unfold Wi
 rw [List.map_append]
theorem Zlk {k:Nat} {ls:List (List Nat)} (W:Wds k ls) (hc:¬ Zsu ls.length (rsW ls)):Told Ws [.list (ls.map wD)] (.bool true) :=
 We rfl <| Wv (Ym Yr) <| Wv (Zyg (c := "NoWeb") (Zpw (Zf (Za rfl) Zk) (Z4a W hc)) (by decide +kernel) (Ym (Z1i (x := "NoWeb") (Za rfl) (by decide +kernel) (p:=true) (by decide +kernel)))) (Zak (Za rfl))
theorem Zoz {ds:List PyData} (h:∀ d ∈ ds,Z0 d = true):J0 ds = true:=by
 induction ds with
 | nil=>rfl
 | cons d ds ih=>rw [J0,h d (.head _),ih fun e he=>h e (.tail _ he)]; rfl
theorem Zpo {d:PyData} {n:Nat} (h:Sh n d) (hn:n ≤ 64) (hp:Z0 d = true):gEq d d = some (.bool true)∧gNe d d = some (.bool false):=by
 have s:=(h.shp hn).ok
 unfold gEq gNe
 rw [if_pos (by rw [s]; rfl),if_pos (by rw [s]; rfl),Zjx hp]
 exact ⟨rfl,rfl⟩
theorem Zmt {k:Nat} {ls:List (List Nat)} (W:Wds k ls):gEq (.list (ls.map wD)) (.list (ls.map wD)) = some (.bool true)∧gNe (.list (ls.map wD)) (.list (ls.map wD)) = some (.bool false):=by
 refine Zpo (Zmp (n:=0) fun d hd=>?_) (by decide) ?_
 ·obtain ⟨l,hl,rfl⟩:=List.mem_map.mp hd
  exact Z2f (W.ok l hl).2
 ·rw [Z0]
  refine Zoz fun d hd=>?_
  obtain ⟨l,hl,rfl⟩:=List.mem_map.mp hd
  unfold wD; rw [Z0]
theorem Ztt (n:Nat) (rs:List (Nat × Nat)):gNe (.tuple [dI n,.list (rs.map ptD)]) (.tuple [dI n,.list (rs.map ptD)]) = some (.bool false):=by
 have p2:∀ i:Nat,Z0 (dI i) = true:=fun i=>by unfold dI; rw [Z0]
 have pp:∀ r,Z0 (ptD r) = true:=fun r=>by
  unfold ptD
  rw [Z0,J0,J0,J0,Z0,Z0]; rfl
 refine (Zpo (Zth (n:=2) fun d hd=>?_) (by decide) ?_).2
 ·rcases List.mem_cons.mp hd with rfl | hd
  ·exact (Zpy _).mono (by decide)
  ·rw [List.mem_singleton.mp hd]
   refine Zmp fun d hd=>?_
   obtain ⟨r,_,rfl⟩:=List.mem_map.mp hd
   refine Zth fun d hd=>?_
   rcases List.mem_cons.mp hd with rfl | hd
   ·exact Zpy _
   ·rw [List.mem_singleton.mp hd]; exact Zpy _
 ·rw [Z0]
  refine Zoz fun d hd=>?_
  rcases List.mem_cons.mp hd with rfl | hd
  ·exact p2 n
  ·rw [List.mem_singleton.mp hd,Z0]
   refine Zoz fun d hd=>?_
   obtain ⟨r,_,rfl⟩:=List.mem_map.mp hd
   exact pp r
theorem Zhk (i:Int):Told Ys [.int i] (.bool true):=We rfl (Zak (Zgx (Zh5 (Za rfl) rfl) (Z0c (Zh5 (p:=false) (Za rfl) rfl) rfl)))
theorem Zrc (ls:List (List Nat)):(wwO ls).data = .tuple [dI ls.length,.list ((rsW ls).map ptD)]:=by
 unfold wwO
 rw [OT.data_tp,List.map_cons,List.map_cons,List.map_nil,OT.data_fz,OT.data_nd,OT.map_fz]
theorem Z4m {F:FD} {as:FA} {δ:Zc} {ds:List PyData} {o:OT} {i:Nat} (h:EvA as δ ds) (hF:F ds = .ok o):wX F as (Jf i) δ = .nx (δ.set i (some o)):=by
 obtain ⟨ts,e1,d1⟩:=h
 rw [Zw1,e1,Z5,d1,hF,Ztb,Zkz]
theorem Zq3 {e:FE} {δ:Zc} {i c:Nat} {ts us:List OT} {o:OT} (hi:δ[i]? = some (some (.tp ts))) (hc:ts[c]? = some (.nd us)) (he:e δ = some (o,δ)) (hl:us.length ≤ 1000000):Zdt i c e δ = .nx (δ.set i (some (.tp (ts.set c (.nd (us ++ [.fz o.data])))))):=by
 rw [Zot,hi,Z4e,hc,Z59,he,Z5,if_pos (by rw [sizeLine_eq]; omega)]
theorem Zri {k:Nat} {ls:List (List Nat)} (W:Wds k ls):Told Wh [.list (ls.map wD)] (.bool true):=by
 have R:=Zg1 W
 obtain ⟨b,T,hb⟩:=Zmr R
 have len:∀ {δ:Zc},δ[0]? = some (some (.fz (.list (ls.map wD))))→EvV (Zas Zb7 (Ze (Zd 0) Zn)) δ (dI ls.length):=fun h=>(Za3 (Za h)).cast (by rw [List.length_map]; rfl)
 refine We rfl <| Wv (Ym (Z6b (Zf (Za rfl) Zk) (Zuv _) (by rw [OT.data_nd,OT.map_fz]))) <| Wv (Ym (Z6 (Zf (Za rfl) Zk) (Zic W))) ?_
 cases b with
 | false =>
  have hc:¬ Zsu ls.length (rsW ls):=fun h=>Bool.false_ne_true (hb.mpr h)
  exact Zkc (Zpj (Zcb (p:=false) (Zcx (Z6 (Zf (len rfl) (Zf (Za rfl) Zk)) T))) (Zak (Zgx (Z6 (Zf (Za rfl) Zk) (Zlk W hc)) (Zr (Za rfl) (Za rfl) (Zmt W).1))))
 | true =>
  have hc:=hb.mp rfl
  have own:∀ {δ:Zc},δ[3]? = some (some (wwO ls))→EvV (J5 3) δ (.tuple [dI ls.length,.list ((rsW ls).map ptD)]):=fun h=>Zdq h (Zrc ls)
  refine Wv (Yl (Zcb (p:=true) (Zcx (Z6 (Zf (len rfl) (Zf (Za rfl) Zk)) T))) rfl) <| Wv (Z4m (Zf (Za rfl) Zk) (Z39 W hc)) <|
   Wv (Yl (Zxr (Zcb (p:=true) (Zcx (Zh5 (own rfl) rfl))) (Zxr (Zd7 (Zr (own rfl) (Zow (Zf (len rfl) (Zf (Za rfl) Zk)) (show 2 ≤ 1000 by decide)) (Ztt _ _))) (Zd7 (Zr (Za rfl) (Za rfl) (Zmt W).2)))) rfl) <|
   Wv (Yl (Zxr (Zcb (p:=true) (Zcx (Z6 (Zf (Zli (own rfl) Yr rfl) Zk) (Zhk _)))) (Zcb (p:=true) (Zcx (Zh5 (Zli (d:=.list ((rsW ls).map ptD)) (own rfl) Yr rfl) rfl)))) rfl) <|
   Zge (ds:=(rsW ls).map ptD) (fun i δ=>∃ z,δ = [some (.fz (.list (ls.map wD))),some (.fz (.list (ls.map wD))),some (.fz (.list ((rsW ls).map ptD))),some (wwO ls),z]) (Zbd (Zli (own rfl) Yr rfl)) ⟨_,rfl⟩ (fun i d δ hd h=>?_) fun δ' h=>?_
  ·obtain ⟨z,rfl⟩:=h
   rw [List.getElem?_map] at hd
   obtain ⟨r,_,rfl⟩:=Option.map_eq_some_iff.mp hd
   have g:Z12 4 (ptD r) [some (.fz (.list (ls.map wD))),some (.fz (.list (ls.map wD))),some (.fz (.list ((rsW ls).map ptD))),some (wwO ls),z] = some [some (.fz (.list (ls.map wD))),some (.fz (.list (ls.map wD))),some (.fz (.list ((rsW ls).map ptD))),some (wwO ls),some (.fz (ptD r))]:=by
    rw [Zxg,if_pos (by unfold ptD; rw [Jp,Zdm,Zdm,Zdm,Jp,Jp]; rfl)]; rfl
   exact ⟨_,_,g,.inl (Yl (Zxr (Zcb (p:=true) (Zcx (Zh5 (Za rfl) rfl))) (Zxr (Zcb (p:=true) (Zcx (Z6 (Zf (Zli (Za rfl) Yr rfl) Zk) (Zhk (r.1:Int))))) (Zcb (p:=true) (Zcx (Z6 (Zf (Zli (Za rfl) Yr rfl) Zk) (Zhk (r.2:Int))))))) rfl),_,rfl⟩
  ·obtain ⟨z,rfl⟩:=h
   have rl:=R.len
   obtain ⟨t,e1,_⟩:=Zow (as:=Ze (fC (.int 0)) (Ze (fC (.int 0)) Zn)) (δ:=[some (.fz (.list (ls.map wD))),some (.fz (.list (ls.map wD))),some (.fz (.list ((rsW ls).map ptD))),some (wwO ls),z]) (Zf Yr (Zf Yr Zk)) (show 2 ≤ 1000 by decide)
   exact Wv (Zq3 (ts:=[.fz (dI ls.length),.nd (((rsW ls).map ptD).map OT.fz)]) rfl rfl e1 (by rw [List.length_map,List.length_map]; omega)) (Zak Yr)
theorem Zqn (ns:List Int) (hl:ns.length ≤ 63):Zga [.list (ns.map PyData.int)] = .ok (.fz (.bool true)):=by
 obtain ⟨f,hf⟩:∃ f:Int→List (List Nat),∀ c,∃ k,Told Z1 [.int c] (.list ((f c).map wD))∧Wds k (f c):=by
  have:∀ c,∃ ls k,Told Z1 [.int c] (.list (ls.map wD))∧Wds k ls:=fun c=>by
   obtain ⟨k,ls,h⟩:=Zqx c
   exact ⟨ls,k,h⟩
  exact ⟨fun c=>Classical.choose (this c),fun c=>Classical.choose_spec (this c)⟩
 obtain ⟨c0,T0⟩:=Zld ns (k:=0) (by decide)
 obtain ⟨q,eq,ql⟩:=Zzb (e:=Zd 0) (δ:=Zac 3 [Wi ns]) (p:=ns) (Za rfl) (Zxs (Yr (d:=.int 1))) (Zxs (Yr (d:=.int 6)))
 have e1:EvV (Zd0 (Ze (Yh Yc (Ze (Zd 0) (Ze (fC (.int 0)) Zn))) Zn)) (Zac 3 [Wi ns]) (Wi [c0]):=Ztm (ds:=[.int c0]) (Zf (Z6 (Zf (Za rfl) (Zf Yr Zk)) (.of T0 (OT.data_fz _))) Zk) (show 1 ≤ 1000 by decide)
 have e2:=Zue eq e1 (by show q.length + 1 ≤ 1000000; omega)
 obtain ⟨cs,hcs⟩:∃ cs,cs = q ++ [c0]:=⟨_,rfl⟩
 rw [← hcs] at e2
 have cl:cs.length ≤ 64:=by rw [hcs,List.length_append]; show q.length + 1 ≤ 64; omega
 have e3:EvV (Wu 1 [] (Zbw (Yx Zp9 (fSl (Zd 0) (oI (fC (.int 1))) (oI (fC (.int 6)))) (Zd0 (Ze (Yh Yc (Ze (Zd 0) (Ze (fC (.int 0)) Zn))) Zn)))) (gNm 0) Zk9 (Yh Z1 (Ze (Zd 0) Zn))) (Zac 3 [Wi ns]) (.list (cs.map fun c=>.list ((f c).map wD))) :=
  Zi2 (cs:=[]) cs PyData.int (fun c=>.list ((f c).map wD)) (Zbd e2) (by omega) rfl fun c _=>by
   obtain ⟨k,T,_⟩:=hf c
   exact Z6 (Zf (Za rfl) Zk) T
 refine Told.ok <| We rfl <| Wv (Ym e3) <| Zge (ds:=(cs.map fun c=>.list ((f c).map wD)) ++ (cs.map fun c=>PyData.list ((f c).map wD)).reverse) (fun i δ=>∃ z,δ = [some (.fz (Wi ns)),some (.fz (.list (cs.map fun c=>.list ((f c).map wD)))),z])
  (Zbd (Ztg (Za rfl) ((Zvw (k:=-1) (Za rfl) (Zxs (Z0z Yr)) (by decide)).cast (by rw [Zov])) (by rw [List.length_reverse,List.length_map]; omega))) ⟨_,rfl⟩ (fun i d δ hd h=>?_) fun δ' h=>?_
 ·obtain ⟨z,rfl⟩:=h
  have hm:d ∈ cs.map fun c=>PyData.list ((f c).map wD):=(List.mem_append.mp (List.mem_of_getElem? hd)).elim id fun h=>List.mem_reverse.mp h
  obtain ⟨c,_,rfl⟩:=List.mem_map.mp hm
  obtain ⟨k,_,W⟩:=hf c
  exact ⟨_,_,rfl,.inl (Yl (Zcb (p:=true) (Zcx (Z6 (Zf (Za rfl) Zk) (Zri W)))) rfl),_,rfl⟩
 ·obtain ⟨z,rfl⟩:=h
  exact Zak Yr
end My
namespace My
open PySem L2 PySem.Spec
theorem Zoj {P:List Value→Prop} (h:∀ a0,P [a0]):∀ us:List Value,us.length = 1→P us:=fun us hl=>by
 rcases us with _ | ⟨a0,us⟩
 ·exact absurd hl (by simp)
 rcases us with _ | ⟨b,us⟩
 ·exact h a0
 ·exact absurd hl (by simp)
theorem Zqp {P:List Value→Prop} (h:∀ a0 a1,P [a0,a1]):∀ us:List Value,us.length = 2→P us:=fun us hl=>by
 rcases us with _ | ⟨a0,us⟩
 ·exact absurd hl (by simp)
 rcases us with _ | ⟨a1,us⟩
 ·exact absurd hl (by simp)
 rcases us with _ | ⟨b,us⟩
 ·exact h a0 a1
 ·exact absurd hl (by simp)
theorem Z90 {P:List Value→Prop} (h:∀ a0 a1 a2,P [a0,a1,a2]):∀ us:List Value,us.length = 3→P us:=fun us hl=>by
 rcases us with _ | ⟨a0,us⟩
 ·exact absurd hl (by simp)
 rcases us with _ | ⟨a1,us⟩
 ·exact absurd hl (by simp)
 rcases us with _ | ⟨a2,us⟩
 ·exact absurd hl (by simp)
 rcases us with _ | ⟨b,us⟩
 ·exact h a0 a1 a2
 ·exact absurd hl (by simp)
noncomputable def top (i:Nat):Stmt:=PySem.Challenge.pw_farcuts_k63_webs_of_words.main.body.getD i (.Pass ⟨0,0,0,0⟩)
noncomputable abbrev Y7:Stmt:=top 19
noncomputable abbrev Y9:Stmt:=top 20
noncomputable abbrev W7:Stmt:=top 22
noncomputable abbrev Wn:Stmt:=top 25
noncomputable abbrev Z8:Stmt:=top 5
noncomputable abbrev Zaj:Stmt:=top 14
noncomputable abbrev Y0:Stmt:=top 15
noncomputable abbrev Jt:Stmt:=top 6
noncomputable abbrev Yu:Stmt:=top 16
noncomputable abbrev Y4:Stmt:=top 11
noncomputable abbrev W6:Stmt:=top 8
noncomputable abbrev Y5:Stmt:=top 10
noncomputable abbrev Wm:Stmt:=top 12
noncomputable abbrev Js:Stmt:=top 13
noncomputable abbrev Yt:Stmt:=top 17
noncomputable abbrev Y6:Stmt:=top 26
noncomputable abbrev Wk:Stmt:=top 23
noncomputable abbrev W5:Stmt:=top 24
noncomputable abbrev W3:Stmt:=top 21
noncomputable abbrev W2:Stmt:=top 27
noncomputable abbrev Zd3:Stmt:=top 28
set_option genInjectivity false in
set_option genSizeOfSpec false in
structure Txt (K:PySem.W.Frag) (mg:Str→Option Value) (f:Nat→Addr) (fd:Nat→FuncData) (cls:Nat→Addr):Prop where
 F_law_cell_at:Fun K "_law_cell_at" "_law_cell_at" Y7 (f 0) (fd 0)
 b_law_cell_at:Binds K (fd 0) ["script", "k"] []
 m_law_cell_at:mg "_law_cell_at" = some (.ref (f 0))
 F_law_numbers:Fun K "_law_numbers" "_law_numbers" Y9 (f 1) (fd 1)
 b_law_numbers:Binds K (fd 1) ["cell", "many", "base"] []
 m_law_numbers:mg "_law_numbers" = some (.ref (f 1))
 F_law_drawn:Fun K "_law_drawn" "_law_drawn" W7 (f 2) (fd 2)
 b_law_drawn:Binds K (fd 2) ["cell"] []
 m_law_drawn:mg "_law_drawn" = some (.ref (f 2))
 F_law_is_one:Fun K "_law_is_one" "_law_is_one" Wn (f 3) (fd 3)
 b_law_is_one:Binds K (fd 3) ["n", "roads"] []
 m_law_is_one:mg "_law_is_one" = some (.ref (f 3))
 F_is_point_count:Fun K "is_point_count" "is_point_count" Z8 (f 4) (fd 4)
 b_is_point_count:Binds K (fd 4) ["n"] []
 m_is_point_count:mg "is_point_count" = some (.ref (f 4))
 F_is_word:Fun K "is_word" "is_word" Zaj (f 5) (fd 5)
 b_is_word:Binds K (fd 5) ["text", "length"] []
 m_is_word:mg "is_word" = some (.ref (f 5))
 F_check_words:Fun K "check_words" "check_words" Y0 (f 6) (fd 6)
 b_check_words:Binds K (fd 6) ["words"] []
 m_check_words:mg "check_words" = some (.ref (f 6))
 F_pairs_of:Fun K "pairs_of" "pairs_of" Jt (f 7) (fd 7)
 b_pairs_of:Binds K (fd 7) ["n"] []
 m_pairs_of:mg "pairs_of" = some (.ref (f 7))
 F_unlike_signs:Fun K "unlike_signs" "unlike_signs" Yu (f 8) (fd 8)
 b_unlike_signs:Binds K (fd 8) ["word", "other"] []
 m_unlike_signs:mg "unlike_signs" = some (.ref (f 8))
 F_beside_each:Fun K "beside_each" "beside_each" Y4 (f 9) (fd 9)
 b_beside_each:Binds K (fd 9) ["n", "roads"] []
 m_beside_each:mg "beside_each" = some (.ref (f 9))
 F_is_rising:Fun K "is_rising" "is_rising" W6 (f 10) (fd 10)
 b_is_rising:Binds K (fd 10) ["things"] []
 m_is_rising:mg "is_rising" = some (.ref (f 10))
 F_check_roads:Fun K "check_roads" "check_roads" Y5 (f 11) (fd 11)
 b_check_roads:Binds K (fd 11) ["n", "roads"] []
 m_check_roads:mg "check_roads" = some (.ref (f 11))
 F_steps_from:Fun K "steps_from" "steps_from" Wm (f 12) (fd 12)
 b_steps_from:Binds K (fd 12) ["beside", "start"] []
 m_steps_from:mg "steps_from" = some (.ref (f 12))
 F_web_rows:Fun K "web_rows" "web_rows" Js (f 13) (fd 13)
 b_web_rows:Binds K (fd 13) ["n", "roads"] []
 m_web_rows:mg "web_rows" = some (.ref (f 13))
 F_web_of_words:Fun K "web_of_words" "web_of_words" Yt (f 14) (fd 14)
 b_web_of_words:Binds K (fd 14) ["words"] []
 m_web_of_words:mg "web_of_words" = some (.ref (f 14))
 F_law_refused:Fun K "_law_refused" "_law_refused" Y6 (f 15) (fd 15)
 b_law_refused:Binds K (fd 15) ["words"] []
 m_law_refused:mg "_law_refused" = some (.ref (f 15))
 F_law_unlike:Fun K "_law_unlike" "_law_unlike" Wk (f 16) (fd 16)
 b_law_unlike:Binds K (fd 16) ["one", "other"] []
 m_law_unlike:mg "_law_unlike" = some (.ref (f 16))
 F_law_roads:Fun K "_law_roads" "_law_roads" W5 (f 17) (fd 17)
 b_law_roads:Binds K (fd 17) ["words"] []
 m_law_roads:mg "_law_roads" = some (.ref (f 17))
 F_law_whole:Fun K "_law_whole" "_law_whole" W3 (f 18) (fd 18)
 b_law_whole:Binds K (fd 18) ["found"] []
 m_law_whole:mg "_law_whole" = some (.ref (f 18))
 F_law_right:Fun K "_law_right" "_law_right" W2 (f 19) (fd 19)
 b_law_right:Binds K (fd 19) ["words"] []
 m_law_right:mg "_law_right" = some (.ref (f 19))
 F_law:Fun K "law" "law" Zd3 (f 20) (fd 20)
 b_law:Binds K (fd 20) ["script"] []
 m_law:mg "law" = some (.ref (f 20))
 g_MOST_POINTS:∃ t,mg "MOST_POINTS" = some (.int 10 t)
 z_bool:mg "bool" = none
 z_int:mg "int" = none
 z_isinstance:mg "isinstance" = none
 z_len:mg "len" = none
 z_list:mg "list" = none
 z_range:mg "range" = none
 z_set:mg "set" = none
 z_tuple:mg "tuple" = none
 z_zip:mg "zip" = none
 mC_CutError:mg "CutError" = some (.ref (cls 0))
 ca_CutError:ClsAt K "CutError" (cls 0)
 mC_NoWeb:mg "NoWeb" = some (.ref (cls 1))
 ca_NoWeb:ClsAt K "NoWeb" (cls 1)
 r_CutError:Zjq K (cls 0)
 r_NoWeb:Zjq K (cls 1)
 x_NoWeb_ga:PySem.W.findIn K (.ref (cls 1)) "__getattribute__" = some (some (.builtin "BaseException.__getattribute__"))
 x_NoWeb_gt:PySem.W.findIn K (.ref (cls 1)) "__getattr__" = some none
 x_NoWeb_cl:PySem.W.findIn K (.ref (cls 1)) "__class__" = some (some (.builtin "object.__class__"))
 x_NoWeb_isB:PySem.W.subIn K (.ref (cls 1)) (.type "BaseException") = some true
 x_NoWeb_isO:PySem.W.subIn K (.ref (cls 1)) (.type "object") = some true
 x_NoWeb_isC:PySem.W.isClsIn K (cls 1) = true
 x_NoWeb_k1:PySem.W.kitOne K (.ref (cls 1)) (.type "int") = some false
 x_NoWeb_k2:PySem.W.kitOne K (.ref (cls 1)) (.type "bool") = some false
 x_NoWeb_k3:PySem.W.kitOne K (.ref (cls 1)) (.type "str") = some false
 x_NoWeb_k4:PySem.W.kitOne K (.ref (cls 1)) (.type "list") = some false
 x_NoWeb_k5:PySem.W.kitOne K (.ref (cls 1)) (.type "tuple") = some false
 u_NoWeb_CutError:PySem.W.subIn K (.ref (cls 1)) (.ref (cls 0)) = some true
 kt_NoWeb_NoWeb:PySem.W.kitOne K (.ref (cls 1)) (.ref (cls 1)) = some true
theorem Txt.x_NoWeb {K:PySem.W.Frag} {mg:Str→Option Value} {f:Nat→Addr} {fd:Nat→FuncData} {cls:Nat→Addr} (T:Txt K mg f fd cls):Zcc K (cls 1):=⟨T.x_NoWeb_ga,T.x_NoWeb_gt,T.x_NoWeb_cl,T.x_NoWeb_isB,T.x_NoWeb_isO,T.x_NoWeb_isC,T.x_NoWeb_k1,T.x_NoWeb_k2,T.x_NoWeb_k3,T.x_NoWeb_k4,T.x_NoWeb_k5⟩
theorem Txt.kx_NoWeb {K:PySem.W.Frag} {mg:Str→Option Value} {f:Nat→Addr} {fd:Nat→FuncData} {cls:Nat→Addr} (T:Txt K mg f fd cls):∀ x ∈ xsL,∃ C,ClsAt K x C∧PySem.W.kitOne K (.ref C) (.ref (cls 1)) = some (Zsw x "NoWeb"):=fun x hx=>by
 simp only [xsL,List.mem_cons,List.not_mem_nil,or_false] at hx
 rcases hx with rfl
 ·exact ⟨_,T.ca_NoWeb,T.kt_NoWeb_NoWeb.trans (congrArg some (by decide +kernel))⟩
theorem Txt.ku_CutError {K:PySem.W.Frag} {mg:Str→Option Value} {f:Nat→Addr} {fd:Nat→FuncData} {cls:Nat→Addr} (T:Txt K mg f fd cls):∀ x ∈ xsL,Zsw x "CutError" = true→∃ C,ClsAt K x C∧Zcc K C∧PySem.W.subIn K (.ref C) (.ref (cls 0)) = some true:=fun x hx=>by
 simp only [xsL,List.mem_cons,List.not_mem_nil,or_false] at hx
 rcases hx with rfl
 ·exact fun _=>⟨_,T.ca_NoWeb,T.x_NoWeb,T.u_NoWeb_CutError⟩
section
variable {P:Program} {w:World} {K:PySem.W.Frag} {mg:Str→Option Value} {base:Heap}
theorem Zfh:Zw ["script", "k"] ["script", "k"] (Zg Y7):=⟨rfl,rfl,rfl,by decide +kernel,rfl,by decide +kernel,by decide +kernel⟩
theorem Zfi {f:Nat→Addr} {fd:Nat→FuncData} {cls:Nat→Addr} (T:Txt K mg f fd cls):FnOk P w K mg base CX0 1 (f 0) (fd 0) ["script", "k"] (spD K (sD Yc)):=by
 refine Wf T.F_law_cell_at Zfh (S:=Zab) rfl rfl (fun cdv A outer s H E hr=>?_)
 have hu:=hr.units
 exact (xsq (xif (xlt (xv 1) (xln T.z_len (xa1 (xv 0)))) (Zh (xrt (xix (xv 0) (xv 1)))) xnl) (Zh (xrt xci)))
theorem Zt:Zw ["cell", "many", "base", "row", "rest", "k", "stir"] ["cell", "many", "base"] (Zg Y9):=⟨rfl,rfl,rfl,by decide +kernel,rfl,by decide +kernel,by decide +kernel⟩
theorem Zfg {f:Nat→Addr} {fd:Nat→FuncData} {cls:Nat→Addr} (T:Txt K mg f fd cls):FnOk P w K mg base CX0 1 (f 1) (fd 1) ["cell", "many", "base"] (spD K (sD Yv)):=by
 refine Wf T.F_law_numbers Zt (S:=J9) rfl rfl (fun cdv A outer s H E hr=>?_)
 have hu:=hr.units
 exact (xsq (xst 0 Zt.nd (Zmf (xv 0) (Zxu (Z24 xci xci) (Z24 xci xci)))) (xsq (xso 3 Zt.nd (xls xa0)) (xsq (xst 4 Zt.nd (Z9z (xv 0) (Z24 xci xci))) (xsq (xfr PassesOwn.never rfl (Zc8 (Yj (by rfl) T.z_range (xa1 (xv 1)))) (xg 5 Zt.nd) (xsq (xst 6 Zt.nd (Zmf (Zxu (Zig (Zig (xv 0) (Zxu xci (xv 5))) xci) xci) xci)) (xsq (xst 6 Zt.nd (Zmf (Zxu (xv 6) (xv 6)) xci)) (xsq (xst 6 Zt.nd (Z3n (Zmf (Zxu (Zig (xv 6) (Zxu xci (Zig (xv 5) xci))) xci) xci) xci)) (xsq (xif (xge (xv 0) (Z24 xci xci)) (xsq (xst 6 Zt.nd (xv 4)) (Zh (xst 4 Zt.nd (Z3n (xv 4) (xv 2))))) xnl) (Zh (J1 (J4 3 (Zmf (xv 6) (xv 2)))))))))) (Zh (Zce (Zcf 3)))))))
theorem Z3:Zw ["cell", "row", "size", "words", "k", "word", "turn", "number", "at"] ["cell"] (Zg W7):=⟨rfl,rfl,rfl,by decide +kernel,rfl,by decide +kernel,by decide +kernel⟩
theorem Zh9 {f:Nat→Addr} {fd:Nat→FuncData} {cls:Nat→Addr} (T:Txt K mg f fd cls):FnOk P w K mg base CX0 2 (f 2) (fd 2) ["cell"] (spD K (sD Z1)):=by
 have G_law_numbers:=Zfg (P:=P) (w:=w) (base:=base) T
 refine Wf T.F_law_drawn Z3 (S:=Zaw) rfl rfl (fun cdv A outer s H E hr=>?_)
 have hu:=hr.units
 exact (xsq (Zfw (Zf4 (i:=1) Z3.nd rfl (Or.inr rfl) (xcl G_law_numbers (hr.mono (by decide)) T.m_law_numbers T.F_law_numbers.kp T.b_law_numbers (Zi (xv 0) (Zi xci (xa1 xci)))))) (xsq (xst 2 Z3.nd (Zmf (xix (xv 1) xci) xci)) (xsq (xso 3 Z3.nd (xls (xa1 (Zmx (Ztr Zxi F.slot_str_join F.type_str_join (Ztz rfl) (Ziz Zhw) (xa1 (Za8 (Zdp (own:=["at"]) (caps:=[1]) (N':=["at", "row"]) (by exact ⟨rfl,by decide +kernel,rfl,by decide +kernel,rfl,rfl⟩) (by rfl) (by decide) (Zc8 (Yj (by rfl) T.z_range (xa1 (xv 2)))) (fun _ _ _ _ _=>(xg 0 (by show List.Nodup (["at", "row"]:List Str) ; decide +kernel))) (fun _ _ _ _ _=>(Zc6 Zc5)) (fun _ _ _ _ _=>(Zfb (Zay Zoq (Zx0 (Zca rfl) Zid (Ziz Zhw) (Zmf (Z3n (xix (xv 1) (Zig xci (xv 0))) xci) xci) (hs:=fun _ _=>rfl))))))))))))) (xsq (xfr PassesOwn.never rfl (Zv7 (Ze6 (by rfl) T.z_range (Zi xci (xa1 (Zig xci (Zmf (xix (xv 1) xci) xci)))))) (xg 4 Z3.nd) (xsq (Zxl (Zv1 (i:=5) Z3.nd rfl (Or.inl rfl) (xix (xo 3) (Zmf (xix (xv 1) (Zig xci (xv 4))) (xln T.z_len (xa1 (xo 3))))))) (xsq (xso 6 Z3.nd (xls (xa1 (xix (xv 1) (Zig xci (xv 4)))))) (xsq (xif (xeq hu (Zmf (xix (xv 1) (Zig xci (xv 4))) xci) xci) (Zh (J1 (J4 6 (Z3n (xix (xv 1) (Zig xci (xv 4))) xci)))) xnl) (xsq (Zh4 (Zip 6 (xfr PassesOwn.never rfl (xil (xv 6)) (xg 7 Z3.nd) (Zh (xif (xgt (xv 2) xci) (xsq (xst 8 Z3.nd (Zmf (xv 7) (xv 2))) (Zh (xst 5 Z3.nd (Wj Zsv (Zhr Zf8 Zmy (Wj Zsv (Zhr Zf8 Zmy (Zsc (Zyh (xv 5) (Zez Zen) (Zc4 (Zdh (xv 8))))) (Zfb (Zay Zoq (Zx0 (Zca rfl) Zid (Ziz Zhw) (Zav Zwc (Z5a Zqz Zl0 (by rfl) T.z_int L2.B.boot_int (xa1 (Zfb (Zay Zoq (Zx0 (Zca rfl) Zid (xv 5) (xv 8) (hs:=fun _ _=>rfl))))))) (hs:=fun _ _=>rfl)))))) (Zsc (Zyh (xv 5) (Zc4 (Zdh (Zig (xv 8) xci))) (Zez Zen)))))))) xnl))))) (Zh (xif (Zco Zr7 (Zcv (Zij rfl) Zqk (xv 5) (xo 3) (hm:=(by with_unfolding_all rfl)))) (Zh (Zpu (Zmz 3 (Zi (Zmf (xix (xv 1) (Zig xci (xv 4))) (Zig (xln T.z_len (xa1 (xo 3))) xci)) (xa1 (xv 5)))))) xnl))))))) (Zh (Zce (Zcf 3)))))))
theorem Ww:Zw ["n", "roads", "come", "turn", "a", "b"] ["n", "roads"] (Zg Wn):=⟨rfl,rfl,rfl,by decide +kernel,rfl,by decide +kernel,by decide +kernel⟩
theorem Zcq {f:Nat→Addr} {fd:Nat→FuncData} {cls:Nat→Addr} (T:Txt K mg f fd cls):FnOk P w K mg base CX0 1 (f 3) (fd 3) ["n", "roads"] (spD K (sD Y8)):=by
 refine Wf T.F_law_is_one Ww (S:=Zal) rfl rfl (fun cdv A outer s H E hr=>?_)
 have hu:=hr.units
 exact (xsq (Zpi (Znx (i:=2) Ww.nd rfl (Or.inr rfl) (xls (xa1 xci)))) (xsq (xfr PassesOwn.never rfl (Zc8 (Yj (by rfl) T.z_range (xa1 (xv 0)))) (xg 3 Ww.nd) (Zh (xfr PassesOwn.never rfl (xil (xv 1)) (xg2 rfl (xg 4 Ww.nd) (xg 5 Ww.nd)) (Zh (xif (xne hu (Wj Zr7 (Zjr (Zsk rfl) Zqk (xv 4) (xo 2) (hm:=(by with_unfolding_all rfl)))) (Wj Zr7 (Zjr (Zsk rfl) Zqk (xv 5) (xo 2) (hm:=(by with_unfolding_all rfl))))) (Zh (Zhz (Zh7 2 (Za8 (Zdp (own:=["one"]) (caps:=[2]) (N':=["one", "come"]) (by exact ⟨rfl,by decide +kernel,rfl,by decide +kernel,rfl,rfl⟩) (by rfl) (by decide) (Zzl (Z2n (xtp (Zi (xv 4) (xa1 (xv 5)))))) (fun _ _ _ _ _=>(xg 0 (by show List.Nodup (["one", "come"]:List Str) ; decide +kernel))) (fun _ _ _ _ _=>(Zc1 (Zco Zr7 (Zcv (Zij rfl) Zqk (xv 0) (xo 1) (hm:=(by with_unfolding_all rfl)))))) (fun _ _ _ _ _=>(xv 0))))))) xnl))))) (Zh (xrt (Wj Zxw (Zjr (Zgb hu) Zle (xln T.z_len (xa1 (xo 2))) (xv 0) (hm:=(Zbf _))))))))
theorem Zdg:Zw ["n"] ["n"] (Zg Z8):=⟨rfl,rfl,rfl,by decide +kernel,rfl,by decide +kernel,by decide +kernel⟩
theorem Wb {f:Nat→Addr} {fd:Nat→FuncData} {cls:Nat→Addr} (T:Txt K mg f fd cls):FnOk P w K mg base CX0 1 (f 4) (fd 4) ["n"] (spD K (sD Yb)):=by
 refine Wf T.F_is_point_count Zdg (S:=Je) rfl rfl (fun cdv A outer s H E hr=>?_)
 have hu:=hr.units
 exact (Zh (xrt (Zql (Zv8 Zl4 Zl4 xci (xv 0) (Ziz (Zxb (by rfl) T.g_MOST_POINTS))))))
theorem Zlw:Zw ["text", "length"] ["text", "length"] (Zg Zaj):=⟨rfl,rfl,rfl,by decide +kernel,rfl,by decide +kernel,by decide +kernel⟩
theorem Zf9 {f:Nat→Addr} {fd:Nat→FuncData} {cls:Nat→Addr} (T:Txt K mg f fd cls):FnOk P w K mg base CX0 1 (f 5) (fd 5) ["text", "length"] (spD K (sD Jb)):=by
 refine Wf T.F_is_word Zlw (S:=Zbu) rfl rfl (fun cdv A outer s H E hr=>?_)
 have hu:=hr.units
 exact (Zh (xrt (Zhd (Zr9 (Wj Zxw (Zjr (Zgb hu) Zle (Zav Ziq (Zev Zeu Jc (by rfl) T.z_len L2.B.boot_len (xa1 (xv 0)))) (xv 1) (hm:=(Zbf _)))) (Zrr (Wj Zxw (Zjr (Zgb hu) Zle (Zig (Zmx (Ztr Zj9 F.slot_str_count F.type_str_count Zkb (xv 0) (xa1 (Ziz Zhw)))) (Zmx (Ztr Zj9 F.slot_str_count F.type_str_count Zkb (xv 0) (xa1 (Ziz Zhw))))) (xv 1) (hm:=(Zbf _)))))))))
theorem W8:Zw ["words", "word"] ["words"] (Zg Y0):=⟨rfl,rfl,rfl,by decide +kernel,rfl,by decide +kernel,by decide +kernel⟩
theorem Zb2 {f:Nat→Addr} {fd:Nat→FuncData} {cls:Nat→Addr} (T:Txt K mg f fd cls):FnOk P w K mg base CX0 2 (f 6) (fd 6) ["words"] (spD K (sD Yz)):=by
 have G_is_point_count:=Wb (P:=P) (w:=w) (base:=base) T
 have G_is_word:=Zf9 (P:=P) (w:=w) (base:=base) T
 refine Wf T.F_check_words W8 (S:=Wx) rfl rfl (fun cdv A outer s H E hr=>?_)
 have hu:=hr.units
 exact (xsq (xif (MW.mt (Zhq (Zis (xno (Wl (Wo (xcl G_is_point_count (hr.mono (by decide)) T.m_is_point_count T.F_is_point_count.kp T.b_is_point_count (xa1 (xln T.z_len (xa1 (xv 0))))) (fun _=>rfl)))) (Zfo (xlt (Zcy (Zei (by rfl) (by rfl) T.z_len L2.B.boot_len (by rfl) T.z_set L2.B.boot_set (xa1 (xv 0)))) (xln T.z_len (xa1 (xv 0)))))))) (Zh Yy) xnl) (Zh (xfr PassesOwn.never rfl (xil (xv 0)) (xg 1 W8.nd) (Zh (xif (xno (Wl (Wo (xcl G_is_word (hr.mono (by decide)) T.m_is_word T.F_is_word.kp T.b_is_word (Zi (xv 1) (xa1 (Zav Ziq (Zev Zeu Jc (by rfl) T.z_len L2.B.boot_len (xa1 (xix (xv 0) xci))))))) (fun _=>rfl)))) (Zh Yy) xnl)))))
theorem Za5 {f:Nat→Addr} {fd:Nat→FuncData} {cls:Nat→Addr} (T:Txt K mg f fd cls):FnOk P w K mg base (CX1 P w) 2 (f 6) (fd 6) ["words"] (spX K (sX K Yz)):=by
 have G_is_point_count:=Wb (P:=P) (w:=w) (base:=base) T
 have G_is_word:=Zf9 (P:=P) (w:=w) (base:=base) T
 refine Zhu T.F_check_words W8 (S:=Wx) rfl rfl (fun cdv A outer s H E hr=>?_)
 have hu:=hr.units
 exact (Jd (Zls (Zl1 (MW.mt (Zhq (Zis (xno (Wl (Wo (xcl G_is_point_count (hr.mono (by decide)) T.m_is_point_count T.F_is_point_count.kp T.b_is_point_count (xa1 (xln T.z_len (xa1 (xv 0))))) (fun _=>rfl)))) (Zfo (xlt (Zcy (Zei (by rfl) (by rfl) T.z_len L2.B.boot_len (by rfl) T.z_set L2.B.boot_set (xa1 (xv 0)))) (xln T.z_len (xa1 (xv 0)))))))) (J2 (Zbn T.ca_NoWeb (Zbl rfl hr.hd (by rfl) T.mC_NoWeb T.r_NoWeb))) (Zbx _))) (xif (MW.mt (Zhq (Zis (xno (Wl (Wo (xcl G_is_point_count (hr.mono (by decide)) T.m_is_point_count T.F_is_point_count.kp T.b_is_point_count (xa1 (xln T.z_len (xa1 (xv 0))))) (fun _=>rfl)))) (Zfo (xlt (Zcy (Zei (by rfl) (by rfl) T.z_len L2.B.boot_len (by rfl) T.z_set L2.B.boot_set (xa1 (xv 0)))) (xln T.z_len (xa1 (xv 0)))))))) (Zh Yy) xnl) (J2 (Zo9 (Zo0 rfl (xil (xv 0)) (xg 1 W8.nd) (Zh (xif (xno (Wl (Wo (xcl G_is_word (hr.mono (by decide)) T.m_is_word T.F_is_word.kp T.b_is_word (Zi (xv 1) (xa1 (Zav Ziq (Zev Zeu Jc (by rfl) T.z_len L2.B.boot_len (xa1 (xix (xv 0) xci))))))) (fun _=>rfl)))) (Zh Yy) xnl)) (J2 (Zls (Zl1 (xno (Wl (Wo (xcl G_is_word (hr.mono (by decide)) T.m_is_word T.F_is_word.kp T.b_is_word (Zi (xv 1) (xa1 (Zav Ziq (Zev Zeu Jc (by rfl) T.z_len L2.B.boot_len (xa1 (xix (xv 0) xci))))))) (fun _=>rfl)))) (J2 (Zbn T.ca_NoWeb (Zbl rfl hr.hd (by rfl) T.mC_NoWeb T.r_NoWeb))) (Zbx _))))))))
theorem Zar:Zw ["n", "pairs", "i", "j"] ["n"] (Zg Jt):=⟨rfl,rfl,rfl,by decide +kernel,rfl,by decide +kernel,by decide +kernel⟩
theorem Zeb {f:Nat→Addr} {fd:Nat→FuncData} {cls:Nat→Addr} (T:Txt K mg f fd cls):FnOk P w K mg base CX0 1 (f 7) (fd 7) ["n"] (spD K (sD Wt)):=by
 refine Wf T.F_pairs_of Zar (S:=Zbi) rfl rfl (fun cdv A outer s H E hr=>?_)
 have hu:=hr.units
 exact (xsq (xso 1 Zar.nd (xls xa0)) (xsq (xfr PassesOwn.never rfl (Zc8 (Yj (by rfl) T.z_range (xa1 (xv 0)))) (xg 2 Zar.nd) (Zh (xfr PassesOwn.never rfl (Zv7 (Ze6 (by rfl) T.z_range (Zi (Zig (xv 2) xci) (xa1 (xv 0))))) (xg 3 Zar.nd) (Zh (J1 (J4 1 (xtp (Zi (xv 2) (xa1 (xv 3)))))))))) (Zh (Zce (Zcf 1)))))
theorem Zef:Zw ["word", "other"] ["word", "other"] (Zg Yu):=⟨rfl,rfl,rfl,by decide +kernel,rfl,by decide +kernel,by decide +kernel⟩
theorem Za7 {f:Nat→Addr} {fd:Nat→FuncData} {cls:Nat→Addr} (T:Txt K mg f fd cls):FnOk P w K mg base CX0 1 (f 8) (fd 8) ["word", "other"] (spD K (sD Yq)):=by
 refine Wf T.F_unlike_signs Zef (S:=Jy) rfl rfl (fun cdv A outer s H E hr=>?_)
 have hu:=hr.units
 exact (Zh (xrt (xln T.z_len (xa1 (Za8 (Zdp (own:=["sign", "beside"]) (caps:=[]) (N':=["sign", "beside"]) (by exact ⟨rfl,by decide +kernel,rfl,by decide +kernel,rfl,rfl⟩) (by rfl) (by decide) (Zxh (Zvj (by rfl) T.z_zip L2.B.boot_zip (Zi (xv 0) (xa1 (xv 1))))) (fun _ _ _ _ _=>(xg2 rfl (xg 0 (by show List.Nodup (["sign", "beside"]:List Str) ; decide +kernel)) (xg 1 (by show List.Nodup (["sign", "beside"]:List Str) ; decide +kernel)))) (fun _ _ _ _ _=>(Zc1 (xne hu (xv 0) (xv 1)))) (fun _ _ _ _ _=>(xv 0))))))))
theorem Ja:Zw ["n", "roads", "beside", "a", "b"] ["n", "roads"] (Zg Y4):=⟨rfl,rfl,rfl,by decide +kernel,rfl,by decide +kernel,by decide +kernel⟩
theorem Zb0 {f:Nat→Addr} {fd:Nat→FuncData} {cls:Nat→Addr} (T:Txt K mg f fd cls):FnOk P w K mg base CX0 1 (f 9) (fd 9) ["n", "roads"] (spD K (sD Wq)):=by
 refine Wf T.F_beside_each Ja (S:=Zaa) rfl rfl (fun cdv A outer s H E hr=>?_)
 have hu:=hr.units
 exact (xsq (Zgq (Zbj (i:=2) (own:=["point"]) (caps:=[]) (N':=["point"]) true Ja.nd rfl (Or.inl rfl) (by exact ⟨rfl,by decide +kernel,rfl,by decide +kernel,rfl,rfl⟩) (by rfl) (by decide) (Zc8 (Yj (by rfl) T.z_range (xa1 (xv 0)))) (fun _ _ _ _ _=>(xg 0 (by show List.Nodup (["point"]:List Str) ; decide +kernel))) (fun _ _ _ _ _=>(Zc6 Zc5)) (fun _ _ _ _ _=>(xls xa0)))) (xsq (xfr PassesOwn.never rfl (xil (xv 1)) (xg2 rfl (xg 3 Ja.nd) (xg 4 Ja.nd)) (xsq (Zkj (Zkq 2 (xv 3) (xv 4))) (Zh (Zkj (Zkq 2 (xv 4) (xv 3)))))) (Zh (Zce (Zcf 2)))))
theorem Zbg:Zw ["things", "one", "behind"] ["things"] (Zg W6):=⟨rfl,rfl,rfl,by decide +kernel,rfl,by decide +kernel,by decide +kernel⟩
theorem Zdr {f:Nat→Addr} {fd:Nat→FuncData} {cls:Nat→Addr} (T:Txt K mg f fd cls):FnOk P w K mg base CX0 1 (f 10) (fd 10) ["things"] (spD K (sD Jl)):=by
 refine Wf T.F_is_rising Zbg (S:=Zau) rfl rfl (fun cdv A outer s H E hr=>?_)
 have hu:=hr.units
 exact (xsq (xfr PassesOwn.never rfl (Zw2 (Zve (by rfl) T.z_zip L2.B.boot_zip (Zi (xv 0) (xa1 (Zx7 (Z0r (xv 0) (Zc4 (Zdh xci)) (Zez Zen))))))) (xg2 rfl (xg 1 Zbg.nd) (xg 2 Zbg.nd)) (Zh (xif (xno (Zco Z4b (Zcv (Z04 hu) Zzt (xv 1) (xv 2) (hm:=(Zbf _))))) (Zh (xrt (Ziz Zgm))) xnl))) (Zh (xrt (Ziz Zgm))))
theorem Z4:Zw ["n", "roads", "a", "b"] ["n", "roads"] (Zg Y5):=⟨rfl,rfl,rfl,by decide +kernel,rfl,by decide +kernel,by decide +kernel⟩
theorem Zby {f:Nat→Addr} {fd:Nat→FuncData} {cls:Nat→Addr} (T:Txt K mg f fd cls):FnOk P w K mg base CX0 2 (f 11) (fd 11) ["n", "roads"] (spD K (sD Yw)):=by
 have G_is_point_count:=Wb (P:=P) (w:=w) (base:=base) T
 have G_is_rising:=Zdr (P:=P) (w:=w) (base:=base) T
 refine Wf T.F_check_roads Z4 (S:=Wy) rfl rfl (fun cdv A outer s H E hr=>?_)
 have hu:=hr.units
 exact (xsq (xif (xno (Wl (Wo (xcl G_is_point_count (hr.mono (by decide)) T.m_is_point_count T.F_is_point_count.kp T.b_is_point_count (xa1 (xv 0))) (fun _=>rfl)))) (Zh Yy) xnl) (xsq (xfr PassesOwn.never rfl (xil (xv 1)) (xg2 rfl (xg 2 Z4.nd) (xg 3 Z4.nd)) (Zh (xif (xno (Zci (Zcs Zl4 Zhi Zhi xci (xv 2) (xv 3) (xv 0)))) (Zh Yy) xnl))) (Zh (xif (xno (Wl (Wo (xcl G_is_rising (hr.mono (by decide)) T.m_is_rising T.F_is_rising.kp T.b_is_rising (xa1 (xv 1))) (fun _=>rfl)))) (Zh Yy) xnl))))
theorem Za6 {f:Nat→Addr} {fd:Nat→FuncData} {cls:Nat→Addr} (T:Txt K mg f fd cls):FnOk P w K mg base (CX1 P w) 2 (f 11) (fd 11) ["n", "roads"] (spX K (sX K Yw)):=by
 have G_is_point_count:=Wb (P:=P) (w:=w) (base:=base) T
 have G_is_rising:=Zdr (P:=P) (w:=w) (base:=base) T
 refine Zhu T.F_check_roads Z4 (S:=Wy) rfl rfl (fun cdv A outer s H E hr=>?_)
 have hu:=hr.units
 exact (Jd (Zls (Zl1 (xno (Wl (Wo (xcl G_is_point_count (hr.mono (by decide)) T.m_is_point_count T.F_is_point_count.kp T.b_is_point_count (xa1 (xv 0))) (fun _=>rfl)))) (J2 (Zbn T.ca_NoWeb (Zbl rfl hr.hd (by rfl) T.mC_NoWeb T.r_NoWeb))) (Zbx _))) (xif (xno (Wl (Wo (xcl G_is_point_count (hr.mono (by decide)) T.m_is_point_count T.F_is_point_count.kp T.b_is_point_count (xa1 (xv 0))) (fun _=>rfl)))) (Zh Yy) xnl) (Jd (Zo9 (Zo0 rfl (xil (xv 1)) (xg2 rfl (xg 2 Z4.nd) (xg 3 Z4.nd)) (Zh (xif (xno (Zci (Zcs Zl4 Zhi Zhi xci (xv 2) (xv 3) (xv 0)))) (Zh Yy) xnl)) (J2 (Zls (Zl1 (xno (Zci (Zcs Zl4 Zhi Zhi xci (xv 2) (xv 3) (xv 0)))) (J2 (Zbn T.ca_NoWeb (Zbl rfl hr.hd (by rfl) T.mC_NoWeb T.r_NoWeb))) (Zbx _)))))) (xfr PassesOwn.never rfl (xil (xv 1)) (xg2 rfl (xg 2 Z4.nd) (xg 3 Z4.nd)) (Zh (xif (xno (Zci (Zcs Zl4 Zhi Zhi xci (xv 2) (xv 3) (xv 0)))) (Zh Yy) xnl))) (J2 (Zls (Zl1 (xno (Wl (Wo (xcl G_is_rising (hr.mono (by decide)) T.m_is_rising T.F_is_rising.kp T.b_is_rising (xa1 (xv 1))) (fun _=>rfl)))) (J2 (Zbn T.ca_NoWeb (Zbl rfl hr.hd (by rfl) T.mC_NoWeb T.r_NoWeb))) (Zbx _))))))
theorem Yn:Zw ["beside", "start", "steps", "edge", "beyond", "point", "other"] ["beside", "start"] (Zg Wm):=⟨rfl,rfl,rfl,by decide +kernel,rfl,by decide +kernel,by decide +kernel⟩
theorem Zcu {f:Nat→Addr} {fd:Nat→FuncData} {cls:Nat→Addr} (T:Txt K mg f fd cls):FnOk P w K mg base CX0 1 (f 12) (fd 12) ["beside", "start"] (spD K (sD W4)):=by
 refine Wf T.F_steps_from Yn (S:=Zam) rfl rfl (fun cdv A outer s H E hr=>?_)
 have hu:=hr.units
 exact (xsq (xso 2 Yn.nd (Zr5 (Zuz (xv 1) xci))) (xsq (xst 3 Yn.nd (xls (xa1 (xv 1)))) (xsq (Zq2 (Zqa PassesOwn.never (xgt (xln T.z_len (xa1 (xv 3))) xci) (xsq (xso 4 Yn.nd (xls xa0)) (xsq (xfr PassesOwn.never rfl (xil (xv 3)) (xg 5 Yn.nd) (Zh (xfr PassesOwn.never rfl (xil (xix (xv 0) (xv 5))) (xg 6 Yn.nd) (Zh (xif (Zco Z38 (Zcv (Zpn hu) Z00 (xv 6) (xo 2) (hm:=(by with_unfolding_all rfl)))) (xsq (Zwp (Zv9 2 hu (Zig (Zfb (Zay Zrz (Zrk hu (xo 2) (xv 5) (hs:=fun _ _=>rfl)))) xci) (xv 6))) (Zh (J1 (J4 4 (xv 6))))) xnl))))) (Zh (Zh4 (Zip 4 (xst 3 Yn.nd (xv 4))))))))) (Zh (Zce (Zcf 2))))))
theorem Zy:Zw ["n", "roads", "beside", "rows", "start", "steps"] ["n", "roads"] (Zg Js):=⟨rfl,rfl,rfl,by decide +kernel,rfl,by decide +kernel,by decide +kernel⟩
theorem Zem {f:Nat→Addr} {fd:Nat→FuncData} {cls:Nat→Addr} (T:Txt K mg f fd cls):FnOk P w K mg base CX0 3 (f 13) (fd 13) ["n", "roads"] (spD K (sD Yk)):=by
 have G_beside_each:=Zb0 (P:=P) (w:=w) (base:=base) T
 have G_check_roads:=Zby (P:=P) (w:=w) (base:=base) T
 have GX_check_roads:=Za6 (P:=P) (w:=w) (base:=base) T
 have G_steps_from:=Zcu (P:=P) (w:=w) (base:=base) T
 refine Wf T.F_web_rows Zy (S:=Jz) rfl rfl (fun cdv A outer s H E hr=>?_)
 have hu:=hr.units
 exact (xsq (Zrl (Zcg (Zcd (xcl G_check_roads (hr.mono (by decide)) T.m_check_roads T.F_check_roads.kp T.b_check_roads (Zi (xv 0) (xa1 (xv 1))))))) (xsq (xst 2 Zy.nd (xcl G_beside_each (hr.mono (by decide)) T.m_beside_each T.F_beside_each.kp T.b_beside_each (Zi (xv 0) (xa1 (xv 1))))) (xsq (xso 3 Zy.nd (xls xa0)) (xsq (xfr PassesOwn.never rfl (Zc8 (Yj (by rfl) T.z_range (xa1 (xv 0)))) (xg 4 Zy.nd) (xsq (Zfw (Zf4 (i:=5) Zy.nd rfl (Or.inr rfl) (xcl G_steps_from (hr.mono (by decide)) T.m_steps_from T.F_steps_from.kp T.b_steps_from (Zi (xv 2) (xa1 (xv 4)))))) (xsq (xif (xlt (Zav Zh8 (Zev Ze4 Zbb (by rfl) T.z_len L2.B.boot_len (xa1 (xv 5)))) (xv 0)) (Zh Yy) xnl) (Zh (J1 (J4 3 (Za8 (Zdp (own:=["point"]) (caps:=[5]) (N':=["point", "steps"]) (by exact ⟨rfl,by decide +kernel,rfl,by decide +kernel,rfl,rfl⟩) (by rfl) (by decide) (Zc8 (Yj (by rfl) T.z_range (xa1 (xv 0)))) (fun _ _ _ _ _=>(xg 0 (by show List.Nodup (["point", "steps"]:List Str) ; decide +kernel))) (fun _ _ _ _ _=>(Zc6 Zc5)) (fun _ _ _ _ _=>(Zfb (Zay Zrz (Zrk hu (xv 1) (xv 0) (hs:=fun _ _=>rfl))))))))))))) (Zh (Zce (Zcf 3)))))))
theorem Zdy {f:Nat→Addr} {fd:Nat→FuncData} {cls:Nat→Addr} (T:Txt K mg f fd cls):FnOk P w K mg base (CX1 P w) 3 (f 13) (fd 13) ["n", "roads"] (spX K (sX K Yk)):=by
 have G_beside_each:=Zb0 (P:=P) (w:=w) (base:=base) T
 have G_check_roads:=Zby (P:=P) (w:=w) (base:=base) T
 have GX_check_roads:=Za6 (P:=P) (w:=w) (base:=base) T
 have G_steps_from:=Zcu (P:=P) (w:=w) (base:=base) T
 refine Zhu T.F_web_rows Zy (S:=Jz) rfl rfl (fun cdv A outer s H E hr=>?_)
 have hu:=hr.units
 exact (Jd (Zhf (Ze8 (Zea GX_check_roads (hr.mono (by decide)) (by rfl) T.m_check_roads T.F_check_roads.kp T.b_check_roads (Zi (xv 0) (xa1 (xv 1)))))) (Zrl (Zcg (Zcd (xcl G_check_roads (hr.mono (by decide)) T.m_check_roads T.F_check_roads.kp T.b_check_roads (Zi (xv 0) (xa1 (xv 1))))))) (Jd (Zii _) (xst 2 Zy.nd (xcl G_beside_each (hr.mono (by decide)) T.m_beside_each T.F_beside_each.kp T.b_beside_each (Zi (xv 0) (xa1 (xv 1))))) (Jd (Zii _) (xso 3 Zy.nd (xls xa0)) (Jd (Zo9 (Zo0 rfl (Zc8 (Yj (by rfl) T.z_range (xa1 (xv 0)))) (xg 4 Zy.nd) (xsq (Zfw (Zf4 (i:=5) Zy.nd rfl (Or.inr rfl) (xcl G_steps_from (hr.mono (by decide)) T.m_steps_from T.F_steps_from.kp T.b_steps_from (Zi (xv 2) (xa1 (xv 4)))))) (xsq (xif (xlt (Zav Zh8 (Zev Ze4 Zbb (by rfl) T.z_len L2.B.boot_len (xa1 (xv 5)))) (xv 0)) (Zh Yy) xnl) (Zh (J1 (J4 3 (Za8 (Zdp (own:=["point"]) (caps:=[5]) (N':=["point", "steps"]) (by exact ⟨rfl,by decide +kernel,rfl,by decide +kernel,rfl,rfl⟩) (by rfl) (by decide) (Zc8 (Yj (by rfl) T.z_range (xa1 (xv 0)))) (fun _ _ _ _ _=>(xg 0 (by show List.Nodup (["point", "steps"]:List Str) ; decide +kernel))) (fun _ _ _ _ _=>(Zc6 Zc5)) (fun _ _ _ _ _=>(Zfb (Zay Zrz (Zrk hu (xv 1) (xv 0) (hs:=fun _ _=>rfl)))))))))))) (Jd (Zii _) (Zfw (Zf4 (i:=5) Zy.nd rfl (Or.inr rfl) (xcl G_steps_from (hr.mono (by decide)) T.m_steps_from T.F_steps_from.kp T.b_steps_from (Zi (xv 2) (xa1 (xv 4)))))) (Jd (Zls (Zl1 (xlt (Zav Zh8 (Zev Ze4 Zbb (by rfl) T.z_len L2.B.boot_len (xa1 (xv 5)))) (xv 0)) (J2 (Zbn T.ca_NoWeb (Zbl rfl hr.hd (by rfl) T.mC_NoWeb T.r_NoWeb))) (Zbx _))) (xif (xlt (Zav Zh8 (Zev Ze4 Zbb (by rfl) T.z_len L2.B.boot_len (xa1 (xv 5)))) (xv 0)) (Zh Yy) xnl) (Zbx _))))) (xfr PassesOwn.never rfl (Zc8 (Yj (by rfl) T.z_range (xa1 (xv 0)))) (xg 4 Zy.nd) (xsq (Zfw (Zf4 (i:=5) Zy.nd rfl (Or.inr rfl) (xcl G_steps_from (hr.mono (by decide)) T.m_steps_from T.F_steps_from.kp T.b_steps_from (Zi (xv 2) (xa1 (xv 4)))))) (xsq (xif (xlt (Zav Zh8 (Zev Ze4 Zbb (by rfl) T.z_len L2.B.boot_len (xa1 (xv 5)))) (xv 0)) (Zh Yy) xnl) (Zh (J1 (J4 3 (Za8 (Zdp (own:=["point"]) (caps:=[5]) (N':=["point", "steps"]) (by exact ⟨rfl,by decide +kernel,rfl,by decide +kernel,rfl,rfl⟩) (by rfl) (by decide) (Zc8 (Yj (by rfl) T.z_range (xa1 (xv 0)))) (fun _ _ _ _ _=>(xg 0 (by show List.Nodup (["point", "steps"]:List Str) ; decide +kernel))) (fun _ _ _ _ _=>(Zc6 Zc5)) (fun _ _ _ _ _=>(Zfb (Zay Zrz (Zrk hu (xv 1) (xv 0) (hs:=fun _ _=>rfl))))))))))))) (Zbx _)))))
theorem Yg:Zw ["words", "n", "roads"] ["words"] (Zg Yt):=⟨rfl,rfl,rfl,by decide +kernel,rfl,by decide +kernel,by decide +kernel⟩
theorem Ju {f:Nat→Addr} {fd:Nat→FuncData} {cls:Nat→Addr} (T:Txt K mg f fd cls):FnOk P w K mg base CX0 4 (f 14) (fd 14) ["words"] (spD K (sD Zq)):=by
 have G_check_words:=Zb2 (P:=P) (w:=w) (base:=base) T
 have GX_check_words:=Za5 (P:=P) (w:=w) (base:=base) T
 have G_pairs_of:=Zeb (P:=P) (w:=w) (base:=base) T
 have G_unlike_signs:=Za7 (P:=P) (w:=w) (base:=base) T
 have G_web_rows:=Zem (P:=P) (w:=w) (base:=base) T
 have GX_web_rows:=Zdy (P:=P) (w:=w) (base:=base) T
 refine Wf T.F_web_of_words Yg (S:=Yo) rfl rfl (fun cdv A outer s H E hr=>?_)
 have hu:=hr.units
 exact (xsq (Zrl (Zcg (Zcd (xcl G_check_words (hr.mono (by decide)) T.m_check_words T.F_check_words.kp T.b_check_words (xa1 (xv 0)))))) (xsq (xst 1 Yg.nd (xln T.z_len (xa1 (xv 0)))) (xsq (Zgq (Zbj (i:=2) (own:=["i", "j"]) (caps:=[0]) (N':=["i", "j", "words"]) true Yg.nd rfl (Or.inl rfl) (by exact ⟨rfl,by decide +kernel,rfl,by decide +kernel,rfl,rfl⟩) (by rfl) (by decide) (xil (xcl G_pairs_of (hr.mono (by decide)) T.m_pairs_of T.F_pairs_of.kp T.b_pairs_of (xa1 (xv 1)))) (fun _ _ _ _ _=>(xg2 rfl (xg 0 (by show List.Nodup (["i", "j", "words"]:List Str) ; decide +kernel)) (xg 1 (by show List.Nodup (["i", "j", "words"]:List Str) ; decide +kernel)))) (fun _ _ _ _ _=>(Zc1 (xeq hu (xcl G_unlike_signs (hr.mono (by decide)) T.m_unlike_signs T.F_unlike_signs.kp T.b_unlike_signs (Zi (xix (xv 2) (xv 0)) (xa1 (xix (xv 2) (xv 1))))) xci))) (fun _ _ _ _ _=>(xtp (Zi (xv 0) (xa1 (xv 1))))))) (xsq (Zrl (Zcg (Zcd (xcl G_web_rows (hr.mono (by decide)) T.m_web_rows T.F_web_rows.kp T.b_web_rows (Zi (xv 1) (xa1 (xo 2))))))) (Zh (Zvn (fun _ _ _ h=>Zry h) (Zv5 2 (xv 1))))))))
theorem Jj {f:Nat→Addr} {fd:Nat→FuncData} {cls:Nat→Addr} (T:Txt K mg f fd cls):FnOk P w K mg base (CX1 P w) 4 (f 14) (fd 14) ["words"] (spX K (sX K Zq)):=by
 have G_check_words:=Zb2 (P:=P) (w:=w) (base:=base) T
 have GX_check_words:=Za5 (P:=P) (w:=w) (base:=base) T
 have G_pairs_of:=Zeb (P:=P) (w:=w) (base:=base) T
 have G_unlike_signs:=Za7 (P:=P) (w:=w) (base:=base) T
 have G_web_rows:=Zem (P:=P) (w:=w) (base:=base) T
 have GX_web_rows:=Zdy (P:=P) (w:=w) (base:=base) T
 refine Zhu T.F_web_of_words Yg (S:=Yo) rfl rfl (fun cdv A outer s H E hr=>?_)
 have hu:=hr.units
 exact (Jd (Zhf (Ze8 (Zea GX_check_words (hr.mono (by decide)) (by rfl) T.m_check_words T.F_check_words.kp T.b_check_words (xa1 (xv 0))))) (Zrl (Zcg (Zcd (xcl G_check_words (hr.mono (by decide)) T.m_check_words T.F_check_words.kp T.b_check_words (xa1 (xv 0)))))) (Jd (Zii _) (xst 1 Yg.nd (xln T.z_len (xa1 (xv 0)))) (Jd (Zii _) (Zgq (Zbj (i:=2) (own:=["i", "j"]) (caps:=[0]) (N':=["i", "j", "words"]) true Yg.nd rfl (Or.inl rfl) (by exact ⟨rfl,by decide +kernel,rfl,by decide +kernel,rfl,rfl⟩) (by rfl) (by decide) (xil (xcl G_pairs_of (hr.mono (by decide)) T.m_pairs_of T.F_pairs_of.kp T.b_pairs_of (xa1 (xv 1)))) (fun _ _ _ _ _=>(xg2 rfl (xg 0 (by show List.Nodup (["i", "j", "words"]:List Str) ; decide +kernel)) (xg 1 (by show List.Nodup (["i", "j", "words"]:List Str) ; decide +kernel)))) (fun _ _ _ _ _=>(Zc1 (xeq hu (xcl G_unlike_signs (hr.mono (by decide)) T.m_unlike_signs T.F_unlike_signs.kp T.b_unlike_signs (Zi (xix (xv 2) (xv 0)) (xa1 (xix (xv 2) (xv 1))))) xci))) (fun _ _ _ _ _=>(xtp (Zi (xv 0) (xa1 (xv 1))))))) (Jd (Zhf (Ze8 (Zea GX_web_rows (hr.mono (by decide)) (by rfl) T.m_web_rows T.F_web_rows.kp T.b_web_rows (Zi (xv 1) (xa1 (xo 2)))))) (Zrl (Zcg (Zcd (xcl G_web_rows (hr.mono (by decide)) T.m_web_rows T.F_web_rows.kp T.b_web_rows (Zi (xv 1) (xa1 (xo 2))))))) (Zbx _)))))
theorem W9:Zw ["words", "told", "e"] ["words"] (Zg Y6):=⟨rfl,rfl,rfl,by decide +kernel,rfl,by decide +kernel,by decide +kernel⟩
theorem Zbs {f:Nat→Addr} {fd:Nat→FuncData} {cls:Nat→Addr} (T:Txt K mg f fd cls):FnOk P w K mg base CX0 5 (f 15) (fd 15) ["words"] (spD K (sD Ws)):=by
 have G_web_of_words:=Ju (P:=P) (w:=w) (base:=base) T
 have GX_web_of_words:=Jj (P:=P) (w:=w) (base:=base) T
 refine Wf T.F_law_refused W9 (S:=J6) rfl rfl (fun cdv A outer s H E hr=>?_)
 have hu:=hr.units
 exact (xsq (xst 1 W9.nd (Ziz Zgm)) (xsq (Z1f T.ku_CutError (Z0m (i:=2) W9.nd rfl rfl (by rfl) T.mC_CutError T.r_CutError (Zh (Zrl (Zcg (Zcd (xcl G_web_of_words (hr.mono (by decide)) T.m_web_of_words T.F_web_of_words.kp T.b_web_of_words (xa1 (xv 0))))))) (J2 (Zhf (Ze8 (Zea GX_web_of_words (hr.mono (by decide)) (by rfl) T.m_web_of_words T.F_web_of_words.kp T.b_web_of_words (xa1 (xv 0)))))) (fun _=>(Zh (xst 1 W9.nd (Zw3 T.kx_NoWeb (Z1s (Znv (v:=.ref (cls 1)) (by rfl) T.mC_NoWeb rfl) (.own _) (by rfl) T.z_isinstance L2.B.boot_isinstance (xv 2)))))))) (Zh (xrt (xv 1)))))
theorem Zg8:Zw ["one", "other"] ["one", "other"] (Zg Wk):=⟨rfl,rfl,rfl,by decide +kernel,rfl,by decide +kernel,by decide +kernel⟩
theorem Zhg {f:Nat→Addr} {fd:Nat→FuncData} {cls:Nat→Addr} (T:Txt K mg f fd cls):FnOk P w K mg base CX0 1 (f 16) (fd 16) ["one", "other"] (spD K (sD Wa)):=by
 refine Wf T.F_law_unlike Zg8 (S:=Zai) rfl rfl (fun cdv A outer s H E hr=>?_)
 have hu:=hr.units
 exact (Zh (xrt (xln T.z_len (xa1 (Za8 (Zdp (own:=["at"]) (caps:=[0,1]) (N':=["at", "one", "other"]) (by exact ⟨rfl,by decide +kernel,rfl,by decide +kernel,rfl,rfl⟩) (by rfl) (by decide) (Zc8 (Yj (by rfl) T.z_range (xa1 (Zav Ziq (Zev Zeu Jc (by rfl) T.z_len L2.B.boot_len (xa1 (xv 0))))))) (fun _ _ _ _ _=>(xg 0 (by show List.Nodup (["at", "one", "other"]:List Str) ; decide +kernel))) (fun _ _ _ _ _=>(Zc1 (xne hu (Zfb (Zay Zoq (Zx0 (Zca rfl) Zid (xv 1) (xv 0) (hs:=fun _ _=>rfl)))) (Zfb (Zay Zoq (Zx0 (Zca rfl) Zid (xv 2) (xv 0) (hs:=fun _ _=>rfl))))))) (fun _ _ _ _ _=>(xv 0))))))))
theorem Zbh:Zw ["words", "roads", "a"] ["words"] (Zg W5):=⟨rfl,rfl,rfl,by decide +kernel,rfl,by decide +kernel,by decide +kernel⟩
theorem Zdk {f:Nat→Addr} {fd:Nat→FuncData} {cls:Nat→Addr} (T:Txt K mg f fd cls):FnOk P w K mg base CX0 2 (f 17) (fd 17) ["words"] (spD K (sD Jk)):=by
 have G_law_unlike:=Zhg (P:=P) (w:=w) (base:=base) T
 refine Wf T.F_law_roads Zbh (S:=Zax) rfl rfl (fun cdv A outer s H E hr=>?_)
 have hu:=hr.units
 exact (xsq (xso 1 Zbh.nd (xls xa0)) (xsq (xfr PassesOwn.never rfl (Zc8 (Yj (by rfl) T.z_range (xa1 (xln T.z_len (xa1 (xv 0)))))) (xg 2 Zbh.nd) (Zh (Zhz (Zh7 1 (Za8 (Zdp (own:=["b"]) (caps:=[2,0]) (N':=["b", "a", "words"]) (by exact ⟨rfl,by decide +kernel,rfl,by decide +kernel,rfl,rfl⟩) (by rfl) (by decide) (Zv7 (Ze6 (by rfl) T.z_range (Zi (Zig (xv 2) xci) (xa1 (xln T.z_len (xa1 (xv 0))))))) (fun _ _ _ _ _=>(xg 0 (by show List.Nodup (["b", "a", "words"]:List Str) ; decide +kernel))) (fun _ _ _ _ _=>(Zc1 (xeq hu (xcl G_law_unlike (hr.mono (by decide)) T.m_law_unlike T.F_law_unlike.kp T.b_law_unlike (Zi (xix (xv 2) (xv 1)) (xa1 (xix (xv 2) (xv 0))))) xci))) (fun _ _ _ _ _=>(xtp (Zi (xv 1) (xa1 (xv 0))))))))))) (Zh (Zce (Zcf 1)))))
theorem Zit:Zw ["found"] ["found"] (Zg W3):=⟨rfl,rfl,rfl,by decide +kernel,rfl,by decide +kernel,by decide +kernel⟩
theorem Zdo {f:Nat→Addr} {fd:Nat→FuncData} {cls:Nat→Addr} (T:Txt K mg f fd cls):FnOk P w K mg base CX0 1 (f 18) (fd 18) ["found"] (spD K (sD Ys)):=by
 refine Wf T.F_law_whole Zit (S:=Zaz) rfl rfl (fun cdv A outer s H E hr=>?_)
 have hu:=hr.units
 exact (Zh (xrt (Zhd (Zr9 (Zh3 (Zp3 (by decide) (by rfl) T.z_isinstance L2.B.boot_isinstance (by rfl) T.z_int L2.B.boot_int (xv 0))) (Zrr (Zu5 (Z34 (Zh3 (Zp3 (by decide) (by rfl) T.z_isinstance L2.B.boot_isinstance (by rfl) T.z_bool L2.B.boot_bool (xv 0))))))))))
theorem Yd:Zw ["words", "handed", "roads", "found", "road"] ["words"] (Zg W2):=⟨rfl,rfl,rfl,by decide +kernel,rfl,by decide +kernel,by decide +kernel⟩
theorem Zhs {f:Nat→Addr} {fd:Nat→FuncData} {cls:Nat→Addr} (T:Txt K mg f fd cls):FnOk P w K mg base CX0 6 (f 19) (fd 19) ["words"] (spD K (sD Wh)):=by
 have G_law_is_one:=Zcq (P:=P) (w:=w) (base:=base) T
 have G_law_refused:=Zbs (P:=P) (w:=w) (base:=base) T
 have G_law_roads:=Zdk (P:=P) (w:=w) (base:=base) T
 have G_law_whole:=Zdo (P:=P) (w:=w) (base:=base) T
 have G_web_of_words:=Ju (P:=P) (w:=w) (base:=base) T
 have GX_web_of_words:=Jj (P:=P) (w:=w) (base:=base) T
 refine Wf T.F_law_right Yd (S:=Ji) rfl rfl (fun cdv A outer s H E hr=>?_)
 have hu:=hr.units
 exact (xsq (xst 1 Yd.nd (Z1k Zsd (Z79 Zo1 (Zfp rfl) (by rfl) T.z_list L2.B.boot_list (xa1 (xv 0))))) (xsq (xst 2 Yd.nd (xcl G_law_roads (hr.mono (by decide)) T.m_law_roads T.F_law_roads.kp T.b_law_roads (xa1 (xv 0)))) (xsq (xif (xno (Wl (Wo (xcl G_law_is_one (hr.mono (by decide)) T.m_law_is_one T.F_law_is_one.kp T.b_law_is_one (Zi (xln T.z_len (xa1 (xv 0))) (xa1 (xv 2)))) (fun _=>rfl)))) (Zh (xrt (Zhd (Zr9 (xcl G_law_refused (hr.mono (by decide)) T.m_law_refused T.F_law_refused.kp T.b_law_refused (xa1 (xv 1))) (Zrr (Wj Zxw (Zjr (Zgb hu) Zle (xv 1) (xv 0) (hm:=(Zbf _))))))))) xnl) (xsq (Zrl (xso 3 Yd.nd (xcl G_web_of_words (hr.mono (by decide)) T.m_web_of_words T.F_web_of_words.kp T.b_web_of_words (xa1 (xv 1))))) (xsq (xif (MW.mt (Zhq (Zis (xno (Wl (Wo (Zh3 (Zp3 (by decide) (by rfl) T.z_isinstance L2.B.boot_isinstance (by rfl) T.z_tuple L2.B.boot_tuple (xo 3))) (fun _=>rfl)))) (Zhq (Zis (xne hu (xo 3) (xtp (Zi (xln T.z_len (xa1 (xv 0))) (xa1 (xv 2))))) (Zfo (xne hu (xv 1) (xv 0)))))))) (Zh (xrt (Ziz Zgm))) xnl) (xsq (xif (MW.mt (Zhq (Zis (xno (Wl (Wo (xcl G_law_whole (hr.mono (by decide)) T.m_law_whole T.F_law_whole.kp T.b_law_whole (xa1 (xix (xo 3) xci))) (fun _=>rfl)))) (Zfo (xno (Wl (Wo (Zh3 (Zp3 (by decide) (by rfl) T.z_isinstance L2.B.boot_isinstance (by rfl) T.z_list L2.B.boot_list (xix (xo 3) xci))) (fun _=>rfl)))))))) (Zh (xrt (Ziz Zgm))) xnl) (xsq (Ztq Zu8 (Zv4 PassesOwn.never rfl (xil (xix (xo 3) xci)) (Zqr (Zrn (i:=4) Yd.nd)) (MW.mt (Zhq (Zis (xno (Wl (Wo (Zh3 (Zp3 (by decide) (by rfl) T.z_isinstance L2.B.boot_isinstance (by rfl) T.z_tuple L2.B.boot_tuple (xv 4))) (fun _=>rfl)))) (Zhq (Zis (xno (Wl (Wo (xcl G_law_whole (hr.mono (by decide)) T.m_law_whole T.F_law_whole.kp T.b_law_whole (xa1 (xix (xv 4) xci))) (fun _=>rfl)))) (Zfo (xno (Wl (Wo (xcl G_law_whole (hr.mono (by decide)) T.m_law_whole T.F_law_whole.kp T.b_law_whole (xa1 (xix (xv 4) xci))) (fun _=>rfl)))))))))) (Zh (xrt (Ziz Zgm))))) (xsq (Zqs (Zqc 3 1 (xtp (Zi xci (xa1 xci))))) (Zh (xrt (Ziz Zgm)))))))))))
theorem Zgv {f:Nat→Addr} {fd:Nat→FuncData} {cls:Nat→Addr} (T:Txt K mg f fd cls):FnOk P w K mg base (CX1 P w) 6 (f 19) (fd 19) ["words"] (spX K (sX K Wh)):=by
 have G_law_is_one:=Zcq (P:=P) (w:=w) (base:=base) T
 have G_law_refused:=Zbs (P:=P) (w:=w) (base:=base) T
 have G_law_roads:=Zdk (P:=P) (w:=w) (base:=base) T
 have G_law_whole:=Zdo (P:=P) (w:=w) (base:=base) T
 have G_web_of_words:=Ju (P:=P) (w:=w) (base:=base) T
 have GX_web_of_words:=Jj (P:=P) (w:=w) (base:=base) T
 refine Zhu T.F_law_right Yd (S:=Ji) rfl rfl (fun cdv A outer s H E hr=>?_)
 have hu:=hr.units
 exact (Jd (Zii _) (xst 1 Yd.nd (Z1k Zsd (Z79 Zo1 (Zfp rfl) (by rfl) T.z_list L2.B.boot_list (xa1 (xv 0))))) (Jd (Zii _) (xst 2 Yd.nd (xcl G_law_roads (hr.mono (by decide)) T.m_law_roads T.F_law_roads.kp T.b_law_roads (xa1 (xv 0)))) (Jd (Zii _) (xif (xno (Wl (Wo (xcl G_law_is_one (hr.mono (by decide)) T.m_law_is_one T.F_law_is_one.kp T.b_law_is_one (Zi (xln T.z_len (xa1 (xv 0))) (xa1 (xv 2)))) (fun _=>rfl)))) (Zh (xrt (Zhd (Zr9 (xcl G_law_refused (hr.mono (by decide)) T.m_law_refused T.F_law_refused.kp T.b_law_refused (xa1 (xv 1))) (Zrr (Wj Zxw (Zjr (Zgb hu) Zle (xv 1) (xv 0) (hm:=(Zbf _))))))))) xnl) (Jd (Z1e (Ze8 (Zea GX_web_of_words (hr.mono (by decide)) (by rfl) T.m_web_of_words T.F_web_of_words.kp T.b_web_of_words (xa1 (xv 1))))) (Zrl (xso 3 Yd.nd (xcl G_web_of_words (hr.mono (by decide)) T.m_web_of_words T.F_web_of_words.kp T.b_web_of_words (xa1 (xv 1))))) (Zbx _)))))
theorem Znn:Zw ["script", "asked", "words"] ["script"] (Zg Zd3):=⟨rfl,rfl,rfl,by decide +kernel,rfl,by decide +kernel,by decide +kernel⟩
theorem Z0s {f:Nat→Addr} {fd:Nat→FuncData} {cls:Nat→Addr} (T:Txt K mg f fd cls):FnOk P w K mg base CX0 7 (f 20) (fd 20) ["script"] (spD K (sD Zga)):=by
 have G_law_cell_at:=Zfi (P:=P) (w:=w) (base:=base) T
 have G_law_drawn:=Zh9 (P:=P) (w:=w) (base:=base) T
 have G_law_right:=Zhs (P:=P) (w:=w) (base:=base) T
 have GX_law_right:=Zgv (P:=P) (w:=w) (base:=base) T
 refine Wf T.F_law Znn (S:=Zf1) rfl rfl (fun cdv A outer s H E hr=>?_)
 have hu:=hr.units
 exact (xsq (Zvq (Zbj (i:=1) (own:=["cell"]) (caps:=[]) (N':=["cell"]) false Znn.nd rfl (Or.inl rfl) (by exact ⟨rfl,by decide +kernel,rfl,by decide +kernel,rfl,rfl⟩) (by rfl) (by decide) (xil (Zfb (Zay Zx9 (Z7i (Zne rfl) Zsx (Zx7 (Z0r (xv 0) (Zc4 (Zdh xci)) (Zc4 (Zdh xci)))) (xls (xa1 (xcl G_law_cell_at (hr.mono (by decide)) T.m_law_cell_at T.F_law_cell_at.kp T.b_law_cell_at (Zi (xv 0) (xa1 xci))))))))) (fun _ _ _ _ _=>(xg 0 (by show List.Nodup (["cell"]:List Str) ; decide +kernel))) (fun _ _ _ _ _=>(Zc6 Zc5)) (fun _ _ _ _ _=>(xcl G_law_drawn (hr.mono (by decide)) T.m_law_drawn T.F_law_drawn.kp T.b_law_drawn (xa1 (xv 0)))))) (xsq (xfr PassesOwn.never rfl (xil (Zfb (Zay Zx9 (Z7i (Zne rfl) Zsx (xv 1) (Zwn (Z0g (xv 1) (Zez Zen) (Zez Zen) (Zc4 (Zdh (Zyp (Z6d xci)))))))))) (xg 2 Znn.nd) (Zh (xif (xno (Wl (Wo (xcl G_law_right (hr.mono (by decide)) T.m_law_right T.F_law_right.kp T.b_law_right (xa1 (xv 2))) (fun _=>rfl)))) (Zh (xrt (Ziz Zgm))) xnl))) (Zh (xrt (Ziz Zgm)))))
theorem Zu6 {f:Nat→Addr} {fd:Nat→FuncData} {cls:Nat→Addr} (T:Txt K mg f fd cls):FnOk P w K mg base CX0 7 (f 20) (fd 20) ["script"] (spD K Z0w):=(Z0s T).imp fun vs H Q E q=>by
 obtain ⟨L,ds,k,h1,⟨ns,e,hl,hk⟩,h3⟩:=q
 exact ⟨L,ds,k,h1,⟨_,by rw [e]; exact Zqn ns hl,hk⟩,h3⟩
end
theorem Zx4 {l:PySem.W.OpenLaw} {w:World} {K:PySem.W.Frag} {h:Heap} {mg:Str→Option Value} {fa:Addr} {t_MOST_POINTS:Tok} {C_CutError:Addr} {C_NoWeb:Addr} (X:K.In h) (G:h.Ns mainGlobals mg) (hfa:mg "law" = some (.ref fa))
  {f1:Addr} {od1 an1:Option Addr} {sl1:Array (Option Value)} {oc1 kV1 dc1 pm1 cd1 ct1:Value}
  {f2:Addr} {od2 an2:Option Addr} {sl2:Array (Option Value)} {oc2 kV2 dc2 pm2 cd2 ct2:Value}
  {f3:Addr} {od3 an3:Option Addr} {sl3:Array (Option Value)} {oc3 kV3 dc3 pm3 cd3 ct3:Value}
  {f4:Addr} {od4 an4:Option Addr} {sl4:Array (Option Value)} {oc4 kV4 dc4 pm4 cd4 ct4:Value}
  {f5:Addr} {od5 an5:Option Addr} {sl5:Array (Option Value)} {oc5 kV5 dc5 pm5 cd5 ct5:Value}
  {f6:Addr} {od6 an6:Option Addr} {sl6:Array (Option Value)} {oc6 kV6 dc6 pm6 cd6 ct6:Value}
  {f7:Addr} {od7 an7:Option Addr} {sl7:Array (Option Value)} {oc7 kV7 dc7 pm7 cd7 ct7:Value}
  {f8:Addr} {od8 an8:Option Addr} {sl8:Array (Option Value)} {oc8 kV8 dc8 pm8 cd8 ct8:Value}
  {f9:Addr} {od9 an9:Option Addr} {sl9:Array (Option Value)} {oc9 kV9 dc9 pm9 cd9 ct9:Value}
  {f10:Addr} {od10 an10:Option Addr} {sl10:Array (Option Value)} {oc10 kV10 dc10 pm10 cd10 ct10:Value}
  {f11:Addr} {od11 an11:Option Addr} {sl11:Array (Option Value)} {oc11 kV11 dc11 pm11 cd11 ct11:Value}
  {f12:Addr} {od12 an12:Option Addr} {sl12:Array (Option Value)} {oc12 kV12 dc12 pm12 cd12 ct12:Value}
  {f13:Addr} {od13 an13:Option Addr} {sl13:Array (Option Value)} {oc13 kV13 dc13 pm13 cd13 ct13:Value}
  {f14:Addr} {od14 an14:Option Addr} {sl14:Array (Option Value)} {oc14 kV14 dc14 pm14 cd14 ct14:Value}
  {f15:Addr} {od15 an15:Option Addr} {sl15:Array (Option Value)} {oc15 kV15 dc15 pm15 cd15 ct15:Value}
  {f16:Addr} {od16 an16:Option Addr} {sl16:Array (Option Value)} {oc16 kV16 dc16 pm16 cd16 ct16:Value}
  {f17:Addr} {od17 an17:Option Addr} {sl17:Array (Option Value)} {oc17 kV17 dc17 pm17 cd17 ct17:Value}
  {f18:Addr} {od18 an18:Option Addr} {sl18:Array (Option Value)} {oc18 kV18 dc18 pm18 cd18 ct18:Value}
  {f19:Addr} {od19 an19:Option Addr} {sl19:Array (Option Value)} {oc19 kV19 dc19 pm19 cd19 ct19:Value}
  {f20:Addr} {od20 an20:Option Addr} {sl20:Array (Option Value)} {oc20 kV20 dc20 pm20 cd20 ct20:Value}
  {f21:Addr} {od21 an21:Option Addr} {sl21:Array (Option Value)} {oc21 kV21 dc21 pm21 cd21 ct21:Value}
  (a1:PySem.W.nsIn K mainGlobals "_law_cell_at" = some (some (.ref f1))) (l1:K.lookup f1 = some ⟨oc1,od1,.func (PySem.W.fnOf "_law_cell_at" "_law_cell_at" (Zx Y7) (Zo Y7) (Zg Y7) .none kV1 dc1 pm1 an1 cd1 ct1),sl1⟩) (c1:PySem.W.codeIn K cd1 "_law_cell_at" = true) (k1:PySem.W.keepIn K (.ref f1) = true)
  (a2:PySem.W.nsIn K mainGlobals "_law_numbers" = some (some (.ref f2))) (l2:K.lookup f2 = some ⟨oc2,od2,.func (PySem.W.fnOf "_law_numbers" "_law_numbers" (Zx Y9) (Zo Y9) (Zg Y9) .none kV2 dc2 pm2 an2 cd2 ct2),sl2⟩) (c2:PySem.W.codeIn K cd2 "_law_numbers" = true) (k2:PySem.W.keepIn K (.ref f2) = true)
  (a3:PySem.W.nsIn K mainGlobals "_law_drawn" = some (some (.ref f3))) (l3:K.lookup f3 = some ⟨oc3,od3,.func (PySem.W.fnOf "_law_drawn" "_law_drawn" (Zx W7) (Zo W7) (Zg W7) .none kV3 dc3 pm3 an3 cd3 ct3),sl3⟩) (c3:PySem.W.codeIn K cd3 "_law_drawn" = true) (k3:PySem.W.keepIn K (.ref f3) = true)
  (a4:PySem.W.nsIn K mainGlobals "_law_is_one" = some (some (.ref f4))) (l4:K.lookup f4 = some ⟨oc4,od4,.func (PySem.W.fnOf "_law_is_one" "_law_is_one" (Zx Wn) (Zo Wn) (Zg Wn) .none kV4 dc4 pm4 an4 cd4 ct4),sl4⟩) (c4:PySem.W.codeIn K cd4 "_law_is_one" = true) (k4:PySem.W.keepIn K (.ref f4) = true)
  (a5:PySem.W.nsIn K mainGlobals "is_point_count" = some (some (.ref f5))) (l5:K.lookup f5 = some ⟨oc5,od5,.func (PySem.W.fnOf "is_point_count" "is_point_count" (Zx Z8) (Zo Z8) (Zg Z8) .none kV5 dc5 pm5 an5 cd5 ct5),sl5⟩) (c5:PySem.W.codeIn K cd5 "is_point_count" = true) (k5:PySem.W.keepIn K (.ref f5) = true)
  (a6:PySem.W.nsIn K mainGlobals "is_word" = some (some (.ref f6))) (l6:K.lookup f6 = some ⟨oc6,od6,.func (PySem.W.fnOf "is_word" "is_word" (Zx Zaj) (Zo Zaj) (Zg Zaj) .none kV6 dc6 pm6 an6 cd6 ct6),sl6⟩) (c6:PySem.W.codeIn K cd6 "is_word" = true) (k6:PySem.W.keepIn K (.ref f6) = true)
  (a7:PySem.W.nsIn K mainGlobals "check_words" = some (some (.ref f7))) (l7:K.lookup f7 = some ⟨oc7,od7,.func (PySem.W.fnOf "check_words" "check_words" (Zx Y0) (Zo Y0) (Zg Y0) .none kV7 dc7 pm7 an7 cd7 ct7),sl7⟩) (c7:PySem.W.codeIn K cd7 "check_words" = true) (k7:PySem.W.keepIn K (.ref f7) = true)
  (a8:PySem.W.nsIn K mainGlobals "pairs_of" = some (some (.ref f8))) (l8:K.lookup f8 = some ⟨oc8,od8,.func (PySem.W.fnOf "pairs_of" "pairs_of" (Zx Jt) (Zo Jt) (Zg Jt) .none kV8 dc8 pm8 an8 cd8 ct8),sl8⟩) (c8:PySem.W.codeIn K cd8 "pairs_of" = true) (k8:PySem.W.keepIn K (.ref f8) = true)
  (a9:PySem.W.nsIn K mainGlobals "unlike_signs" = some (some (.ref f9))) (l9:K.lookup f9 = some ⟨oc9,od9,.func (PySem.W.fnOf "unlike_signs" "unlike_signs" (Zx Yu) (Zo Yu) (Zg Yu) .none kV9 dc9 pm9 an9 cd9 ct9),sl9⟩) (c9:PySem.W.codeIn K cd9 "unlike_signs" = true) (k9:PySem.W.keepIn K (.ref f9) = true)
  (a10:PySem.W.nsIn K mainGlobals "beside_each" = some (some (.ref f10))) (l10:K.lookup f10 = some ⟨oc10,od10,.func (PySem.W.fnOf "beside_each" "beside_each" (Zx Y4) (Zo Y4) (Zg Y4) .none kV10 dc10 pm10 an10 cd10 ct10),sl10⟩) (c10:PySem.W.codeIn K cd10 "beside_each" = true) (k10:PySem.W.keepIn K (.ref f10) = true)
  (a11:PySem.W.nsIn K mainGlobals "is_rising" = some (some (.ref f11))) (l11:K.lookup f11 = some ⟨oc11,od11,.func (PySem.W.fnOf "is_rising" "is_rising" (Zx W6) (Zo W6) (Zg W6) .none kV11 dc11 pm11 an11 cd11 ct11),sl11⟩) (c11:PySem.W.codeIn K cd11 "is_rising" = true) (k11:PySem.W.keepIn K (.ref f11) = true)
  (a12:PySem.W.nsIn K mainGlobals "check_roads" = some (some (.ref f12))) (l12:K.lookup f12 = some ⟨oc12,od12,.func (PySem.W.fnOf "check_roads" "check_roads" (Zx Y5) (Zo Y5) (Zg Y5) .none kV12 dc12 pm12 an12 cd12 ct12),sl12⟩) (c12:PySem.W.codeIn K cd12 "check_roads" = true) (k12:PySem.W.keepIn K (.ref f12) = true)
  (a13:PySem.W.nsIn K mainGlobals "steps_from" = some (some (.ref f13))) (l13:K.lookup f13 = some ⟨oc13,od13,.func (PySem.W.fnOf "steps_from" "steps_from" (Zx Wm) (Zo Wm) (Zg Wm) .none kV13 dc13 pm13 an13 cd13 ct13),sl13⟩) (c13:PySem.W.codeIn K cd13 "steps_from" = true) (k13:PySem.W.keepIn K (.ref f13) = true)
  (a14:PySem.W.nsIn K mainGlobals "web_rows" = some (some (.ref f14))) (l14:K.lookup f14 = some ⟨oc14,od14,.func (PySem.W.fnOf "web_rows" "web_rows" (Zx Js) (Zo Js) (Zg Js) .none kV14 dc14 pm14 an14 cd14 ct14),sl14⟩) (c14:PySem.W.codeIn K cd14 "web_rows" = true) (k14:PySem.W.keepIn K (.ref f14) = true)
  (a15:PySem.W.nsIn K mainGlobals "web_of_words" = some (some (.ref f15))) (l15:K.lookup f15 = some ⟨oc15,od15,.func (PySem.W.fnOf "web_of_words" "web_of_words" (Zx Yt) (Zo Yt) (Zg Yt) .none kV15 dc15 pm15 an15 cd15 ct15),sl15⟩) (c15:PySem.W.codeIn K cd15 "web_of_words" = true) (k15:PySem.W.keepIn K (.ref f15) = true)
  (a16:PySem.W.nsIn K mainGlobals "_law_refused" = some (some (.ref f16))) (l16:K.lookup f16 = some ⟨oc16,od16,.func (PySem.W.fnOf "_law_refused" "_law_refused" (Zx Y6) (Zo Y6) (Zg Y6) .none kV16 dc16 pm16 an16 cd16 ct16),sl16⟩) (c16:PySem.W.codeIn K cd16 "_law_refused" = true) (k16:PySem.W.keepIn K (.ref f16) = true)
  (a17:PySem.W.nsIn K mainGlobals "_law_unlike" = some (some (.ref f17))) (l17:K.lookup f17 = some ⟨oc17,od17,.func (PySem.W.fnOf "_law_unlike" "_law_unlike" (Zx Wk) (Zo Wk) (Zg Wk) .none kV17 dc17 pm17 an17 cd17 ct17),sl17⟩) (c17:PySem.W.codeIn K cd17 "_law_unlike" = true) (k17:PySem.W.keepIn K (.ref f17) = true)
  (a18:PySem.W.nsIn K mainGlobals "_law_roads" = some (some (.ref f18))) (l18:K.lookup f18 = some ⟨oc18,od18,.func (PySem.W.fnOf "_law_roads" "_law_roads" (Zx W5) (Zo W5) (Zg W5) .none kV18 dc18 pm18 an18 cd18 ct18),sl18⟩) (c18:PySem.W.codeIn K cd18 "_law_roads" = true) (k18:PySem.W.keepIn K (.ref f18) = true)
  (a19:PySem.W.nsIn K mainGlobals "_law_whole" = some (some (.ref f19))) (l19:K.lookup f19 = some ⟨oc19,od19,.func (PySem.W.fnOf "_law_whole" "_law_whole" (Zx W3) (Zo W3) (Zg W3) .none kV19 dc19 pm19 an19 cd19 ct19),sl19⟩) (c19:PySem.W.codeIn K cd19 "_law_whole" = true) (k19:PySem.W.keepIn K (.ref f19) = true)
  (a20:PySem.W.nsIn K mainGlobals "_law_right" = some (some (.ref f20))) (l20:K.lookup f20 = some ⟨oc20,od20,.func (PySem.W.fnOf "_law_right" "_law_right" (Zx W2) (Zo W2) (Zg W2) .none kV20 dc20 pm20 an20 cd20 ct20),sl20⟩) (c20:PySem.W.codeIn K cd20 "_law_right" = true) (k20:PySem.W.keepIn K (.ref f20) = true)
  (a21:PySem.W.nsIn K mainGlobals "law" = some (some (.ref f21))) (l21:K.lookup f21 = some ⟨oc21,od21,.func (PySem.W.fnOf "law" "law" (Zx Zd3) (Zo Zd3) (Zg Zd3) .none kV21 dc21 pm21 an21 cd21 ct21),sl21⟩) (c21:PySem.W.codeIn K cd21 "law" = true) (k21:PySem.W.keepIn K (.ref f21) = true)
  (z_bool:PySem.W.nsIn K mainGlobals "bool" = some none)
  (z_int:PySem.W.nsIn K mainGlobals "int" = some none)
  (z_isinstance:PySem.W.nsIn K mainGlobals "isinstance" = some none)
  (z_len:PySem.W.nsIn K mainGlobals "len" = some none)
  (z_list:PySem.W.nsIn K mainGlobals "list" = some none)
  (z_range:PySem.W.nsIn K mainGlobals "range" = some none)
  (z_set:PySem.W.nsIn K mainGlobals "set" = some none)
  (z_tuple:PySem.W.nsIn K mainGlobals "tuple" = some none)
  (z_zip:PySem.W.nsIn K mainGlobals "zip" = some none)
  (gc_MOST_POINTS:PySem.W.nsIn K mainGlobals "MOST_POINTS" = some (some (.int 10 t_MOST_POINTS)))
  (cc_CutError:PySem.W.nsIn K mainGlobals "CutError" = some (some (.ref C_CutError)))
  (cc_NoWeb:PySem.W.nsIn K mainGlobals "NoWeb" = some (some (.ref C_NoWeb)))
  (r_CutError:Zjq K C_CutError)
  (r_NoWeb:Zjq K C_NoWeb)
  (x_NoWeb_ga:PySem.W.findIn K (.ref C_NoWeb) "__getattribute__" = some (some (.builtin "BaseException.__getattribute__")))
  (x_NoWeb_gt:PySem.W.findIn K (.ref C_NoWeb) "__getattr__" = some none)
  (x_NoWeb_cl:PySem.W.findIn K (.ref C_NoWeb) "__class__" = some (some (.builtin "object.__class__")))
  (x_NoWeb_isB:PySem.W.subIn K (.ref C_NoWeb) (.type "BaseException") = some true)
  (x_NoWeb_isO:PySem.W.subIn K (.ref C_NoWeb) (.type "object") = some true)
  (x_NoWeb_isC:PySem.W.isClsIn K C_NoWeb = true)
  (x_NoWeb_k1:PySem.W.kitOne K (.ref C_NoWeb) (.type "int") = some false)
  (x_NoWeb_k2:PySem.W.kitOne K (.ref C_NoWeb) (.type "bool") = some false)
  (x_NoWeb_k3:PySem.W.kitOne K (.ref C_NoWeb) (.type "str") = some false)
  (x_NoWeb_k4:PySem.W.kitOne K (.ref C_NoWeb) (.type "list") = some false)
  (x_NoWeb_k5:PySem.W.kitOne K (.ref C_NoWeb) (.type "tuple") = some false)
  (u_NoWeb_CutError:PySem.W.subIn K (.ref C_NoWeb) (.ref C_CutError) = some true)
  (kt_NoWeb_NoWeb:PySem.W.kitOne K (.ref C_NoWeb) (.ref C_NoWeb) = some true)
  : ∃ fd:FuncData,(∀ (s:Shared) (v:Value),BindsTo s fd ⟨[v],[]⟩ [("script", v)])∧∀ base:Heap,K.In base→base.Ns mainGlobals mg→FnOk l.prog w K mg base CX0 7 fa fd ["script"] (spD K Z0w):=by
 have e:=hfa.symm.trans (PySem.W.mg_of X G a21)
 cases e
 have F1:=Wg (st:=Y7) l1 c1 k1
 have b1:=F1.binds (ps:=["script", "k"]) fun _ _ _ _ _ _ us hl=>Zqp (P:=fun us=>PySem.bindArgs _ { pos:=us } = pure (List.zip _ us)) (fun _ _=>rfl) us hl
 have F2:=Wg (st:=Y9) l2 c2 k2
 have b2:=F2.binds (ps:=["cell", "many", "base"]) fun _ _ _ _ _ _ us hl=>Z90 (P:=fun us=>PySem.bindArgs _ { pos:=us } = pure (List.zip _ us)) (fun _ _ _=>rfl) us hl
 have F3:=Wg (st:=W7) l3 c3 k3
 have b3:=F3.binds (ps:=["cell"]) fun _ _ _ _ _ _ us hl=>Zoj (P:=fun us=>PySem.bindArgs _ { pos:=us } = pure (List.zip _ us)) (fun _=>rfl) us hl
 have F4:=Wg (st:=Wn) l4 c4 k4
 have b4:=F4.binds (ps:=["n", "roads"]) fun _ _ _ _ _ _ us hl=>Zqp (P:=fun us=>PySem.bindArgs _ { pos:=us } = pure (List.zip _ us)) (fun _ _=>rfl) us hl
 have F5:=Wg (st:=Z8) l5 c5 k5
 have b5:=F5.binds (ps:=["n"]) fun _ _ _ _ _ _ us hl=>Zoj (P:=fun us=>PySem.bindArgs _ { pos:=us } = pure (List.zip _ us)) (fun _=>rfl) us hl
 have F6:=Wg (st:=Zaj) l6 c6 k6
 have b6:=F6.binds (ps:=["text", "length"]) fun _ _ _ _ _ _ us hl=>Zqp (P:=fun us=>PySem.bindArgs _ { pos:=us } = pure (List.zip _ us)) (fun _ _=>rfl) us hl
 have F7:=Wg (st:=Y0) l7 c7 k7
 have b7:=F7.binds (ps:=["words"]) fun _ _ _ _ _ _ us hl=>Zoj (P:=fun us=>PySem.bindArgs _ { pos:=us } = pure (List.zip _ us)) (fun _=>rfl) us hl
 have F8:=Wg (st:=Jt) l8 c8 k8
 have b8:=F8.binds (ps:=["n"]) fun _ _ _ _ _ _ us hl=>Zoj (P:=fun us=>PySem.bindArgs _ { pos:=us } = pure (List.zip _ us)) (fun _=>rfl) us hl
 have F9:=Wg (st:=Yu) l9 c9 k9
 have b9:=F9.binds (ps:=["word", "other"]) fun _ _ _ _ _ _ us hl=>Zqp (P:=fun us=>PySem.bindArgs _ { pos:=us } = pure (List.zip _ us)) (fun _ _=>rfl) us hl
 have F10:=Wg (st:=Y4) l10 c10 k10
 have b10:=F10.binds (ps:=["n", "roads"]) fun _ _ _ _ _ _ us hl=>Zqp (P:=fun us=>PySem.bindArgs _ { pos:=us } = pure (List.zip _ us)) (fun _ _=>rfl) us hl
 have F11:=Wg (st:=W6) l11 c11 k11
 have b11:=F11.binds (ps:=["things"]) fun _ _ _ _ _ _ us hl=>Zoj (P:=fun us=>PySem.bindArgs _ { pos:=us } = pure (List.zip _ us)) (fun _=>rfl) us hl
 have F12:=Wg (st:=Y5) l12 c12 k12
 have b12:=F12.binds (ps:=["n", "roads"]) fun _ _ _ _ _ _ us hl=>Zqp (P:=fun us=>PySem.bindArgs _ { pos:=us } = pure (List.zip _ us)) (fun _ _=>rfl) us hl
 have F13:=Wg (st:=Wm) l13 c13 k13
 have b13:=F13.binds (ps:=["beside", "start"]) fun _ _ _ _ _ _ us hl=>Zqp (P:=fun us=>PySem.bindArgs _ { pos:=us } = pure (List.zip _ us)) (fun _ _=>rfl) us hl
 have F14:=Wg (st:=Js) l14 c14 k14
 have b14:=F14.binds (ps:=["n", "roads"]) fun _ _ _ _ _ _ us hl=>Zqp (P:=fun us=>PySem.bindArgs _ { pos:=us } = pure (List.zip _ us)) (fun _ _=>rfl) us hl
 have F15:=Wg (st:=Yt) l15 c15 k15
 have b15:=F15.binds (ps:=["words"]) fun _ _ _ _ _ _ us hl=>Zoj (P:=fun us=>PySem.bindArgs _ { pos:=us } = pure (List.zip _ us)) (fun _=>rfl) us hl
 have F16:=Wg (st:=Y6) l16 c16 k16
 have b16:=F16.binds (ps:=["words"]) fun _ _ _ _ _ _ us hl=>Zoj (P:=fun us=>PySem.bindArgs _ { pos:=us } = pure (List.zip _ us)) (fun _=>rfl) us hl
 have F17:=Wg (st:=Wk) l17 c17 k17
 have b17:=F17.binds (ps:=["one", "other"]) fun _ _ _ _ _ _ us hl=>Zqp (P:=fun us=>PySem.bindArgs _ { pos:=us } = pure (List.zip _ us)) (fun _ _=>rfl) us hl
 have F18:=Wg (st:=W5) l18 c18 k18
 have b18:=F18.binds (ps:=["words"]) fun _ _ _ _ _ _ us hl=>Zoj (P:=fun us=>PySem.bindArgs _ { pos:=us } = pure (List.zip _ us)) (fun _=>rfl) us hl
 have F19:=Wg (st:=W3) l19 c19 k19
 have b19:=F19.binds (ps:=["found"]) fun _ _ _ _ _ _ us hl=>Zoj (P:=fun us=>PySem.bindArgs _ { pos:=us } = pure (List.zip _ us)) (fun _=>rfl) us hl
 have F20:=Wg (st:=W2) l20 c20 k20
 have b20:=F20.binds (ps:=["words"]) fun _ _ _ _ _ _ us hl=>Zoj (P:=fun us=>PySem.bindArgs _ { pos:=us } = pure (List.zip _ us)) (fun _=>rfl) us hl
 have F21:=Wg (st:=Zd3) l21 c21 k21
 have b21:=F21.binds (ps:=["script"]) fun _ _ _ _ _ _ us hl=>Zoj (P:=fun us=>PySem.bindArgs _ { pos:=us } = pure (List.zip _ us)) (fun _=>rfl) us hl
 have T:Txt K mg (fun k=>[_,_,_,_,_,_,_,_,_,_,_,_,_,_,_,_,_,_,_,_,_].getD k 0) (fun k=>[_,_,_,_,_,_,_,_,_,_,_,_,_,_,_,_,_,_,_,_,_].getD k (PySem.W.fnOf "law" "law" (Zx Zd3) (Zo Zd3) (Zg Zd3) .none kV21 dc21 pm21 an21 cd21 ct21)) (fun k=>[C_CutError,C_NoWeb].getD k 0):={ F_law_cell_at:=F1,b_law_cell_at:=b1,m_law_cell_at:=PySem.W.mg_of X G a1,F_law_numbers:=F2,b_law_numbers:=b2,m_law_numbers:=PySem.W.mg_of X G a2,F_law_drawn:=F3,b_law_drawn:=b3,m_law_drawn:=PySem.W.mg_of X G a3,F_law_is_one:=F4,b_law_is_one:=b4,m_law_is_one:=PySem.W.mg_of X G a4,F_is_point_count:=F5,b_is_point_count:=b5,m_is_point_count:=PySem.W.mg_of X G a5,F_is_word:=F6,b_is_word:=b6,m_is_word:=PySem.W.mg_of X G a6,F_check_words:=F7,b_check_words:=b7,m_check_words:=PySem.W.mg_of X G a7,F_pairs_of:=F8,b_pairs_of:=b8,m_pairs_of:=PySem.W.mg_of X G a8,F_unlike_signs:=F9,b_unlike_signs:=b9,m_unlike_signs:=PySem.W.mg_of X G a9,F_beside_each:=F10,b_beside_each:=b10,m_beside_each:=PySem.W.mg_of X G a10,F_is_rising:=F11,b_is_rising:=b11,m_is_rising:=PySem.W.mg_of X G a11,F_check_roads:=F12,b_check_roads:=b12,m_check_roads:=PySem.W.mg_of X G a12,F_steps_from:=F13,b_steps_from:=b13,m_steps_from:=PySem.W.mg_of X G a13,F_web_rows:=F14,b_web_rows:=b14,m_web_rows:=PySem.W.mg_of X G a14,F_web_of_words:=F15,b_web_of_words:=b15,m_web_of_words:=PySem.W.mg_of X G a15,F_law_refused:=F16,b_law_refused:=b16,m_law_refused:=PySem.W.mg_of X G a16,F_law_unlike:=F17,b_law_unlike:=b17,m_law_unlike:=PySem.W.mg_of X G a17,F_law_roads:=F18,b_law_roads:=b18,m_law_roads:=PySem.W.mg_of X G a18,F_law_whole:=F19,b_law_whole:=b19,m_law_whole:=PySem.W.mg_of X G a19,F_law_right:=F20,b_law_right:=b20,m_law_right:=PySem.W.mg_of X G a20,F_law:=F21,b_law:=b21,m_law:=PySem.W.mg_of X G a21,g_MOST_POINTS:=⟨t_MOST_POINTS,PySem.W.mg_of X G gc_MOST_POINTS⟩,z_bool:=PySem.W.mg_none_of X G z_bool,z_int:=PySem.W.mg_none_of X G z_int,z_isinstance:=PySem.W.mg_none_of X G z_isinstance,z_len:=PySem.W.mg_none_of X G z_len,z_list:=PySem.W.mg_none_of X G z_list,z_range:=PySem.W.mg_none_of X G z_range,z_set:=PySem.W.mg_none_of X G z_set,z_tuple:=PySem.W.mg_none_of X G z_tuple,z_zip:=PySem.W.mg_none_of X G z_zip,mC_CutError:=PySem.W.mg_of X G cc_CutError,ca_CutError:=cc_CutError,mC_NoWeb:=PySem.W.mg_of X G cc_NoWeb,ca_NoWeb:=cc_NoWeb,r_CutError:=r_CutError,r_NoWeb:=r_NoWeb,x_NoWeb_ga:=x_NoWeb_ga,x_NoWeb_gt:=x_NoWeb_gt,x_NoWeb_cl:=x_NoWeb_cl,x_NoWeb_isB:=x_NoWeb_isB,x_NoWeb_isO:=x_NoWeb_isO,x_NoWeb_isC:=x_NoWeb_isC,x_NoWeb_k1:=x_NoWeb_k1,x_NoWeb_k2:=x_NoWeb_k2,x_NoWeb_k3:=x_NoWeb_k3,x_NoWeb_k4:=x_NoWeb_k4,x_NoWeb_k5:=x_NoWeb_k5,u_NoWeb_CutError:=u_NoWeb_CutError,kt_NoWeb_NoWeb:=kt_NoWeb_NoWeb }
 exact ⟨PySem.W.fnOf "law" "law" (Zx Zd3) (Zo Zd3) (Zg Zd3) .none kV21 dc21 pm21 an21 cd21 ct21,fun s v=>.of_eq rfl,fun base _ _=>Zu6 (P:=l.prog) (w:=w) (base:=base) T⟩
theorem walk {l:PySem.W.OpenLaw} {q:Program} {loose:List Str} {XP:(Str→Option Value)→Heap→Prop} {YP:World→Heap→Prop} {d:DefRec} {K:Params→PySem.W.Frag} (hn:l.most = some 63) (hdf:d.params.defaults = [])
  (hY:∀ (w:World) (h:Heap),YP w h→(K w.params).In h)
  (F:∀ (w:World) (mg:Str→Option Value) (fa:Addr) (h:Heap),(K w.params).In h→h.Ns mainGlobals mg→mg d.name = some (.ref fa) →
   ∃ fd:FuncData,(∀ (s:Shared) (u:Value),BindsTo s fd ⟨[u],[]⟩ [("script", u)])∧∀ base:Heap,(K w.params).In base→base.Ns mainGlobals mg→FnOk l.prog w (K w.params) mg base CX0 7 fa fd ["script"] (spD (K w.params) Z0w)) :
  PySem.W.WalkO q loose XP YP l.row.toRowW d [] (fun f vs=>PySem.call f vs) :=
 L2.Zur (n:=63) (k:=7) (x := "script") (CX:=fun _=>CX0) (sp:=fun w=>spD (K w.params) Z0w) hn (by decide) hdf ⟨rfl,by decide,by decide⟩ hY F (fun _ _ a ns hl _ hS=>Z1n hl hS) fun _ _ _ _ _ z=>z
end My
open PySem PySem.W PyProof.Rows
set_option maxRecDepth 100000 in
set_option maxHeartbeats 0 in
theorem PySem.Challenge.cw_farcuts_k63_webs_of_words_holds : PySem.Challenge.rw_farcuts_k63_webs_of_words.Holds := by
 w_on; o_law; k_head; (case hw=>w_witness2)
 k_fill
 refine My.walk (l:=PySem.Challenge.rw_farcuts_k63_webs_of_words) rfl rfl (fun w h Y=>PySem.W.kIn_of Y) ?F
 case F =>
  intro w mg fa h KX G hmg
  refine' My.Zx4 KX G hmg ?a1 ?l1 ?c1 ?k1 ?a2 ?l2 ?c2 ?k2 ?a3 ?l3 ?c3 ?k3 ?a4 ?l4 ?c4 ?k4 ?a5 ?l5 ?c5 ?k5 ?a6 ?l6 ?c6 ?k6 ?a7 ?l7 ?c7 ?k7 ?a8 ?l8 ?c8 ?k8 ?a9 ?l9 ?c9 ?k9 ?a10 ?l10 ?c10 ?k10 ?a11 ?l11 ?c11 ?k11 ?a12 ?l12 ?c12 ?k12 ?a13 ?l13 ?c13 ?k13 ?a14 ?l14 ?c14 ?k14 ?a15 ?l15 ?c15 ?k15 ?a16 ?l16 ?c16 ?k16 ?a17 ?l17 ?c17 ?k17 ?a18 ?l18 ?c18 ?k18 ?a19 ?l19 ?c19 ?k19 ?a20 ?l20 ?c20 ?k20 ?a21 ?l21 ?c21 ?k21 ?z_bool ?z_int ?z_isinstance ?z_len ?z_list ?z_range ?z_set ?z_tuple ?z_zip ?gc_MOST_POINTS ?cc_CutError ?cc_NoWeb ?r_CutError ?r_NoWeb ?x_NoWeb_ga ?x_NoWeb_gt ?x_NoWeb_cl ?x_NoWeb_isB ?x_NoWeb_isO ?x_NoWeb_isC ?x_NoWeb_k1 ?x_NoWeb_k2 ?x_NoWeb_k3 ?x_NoWeb_k4 ?x_NoWeb_k5 ?u_NoWeb_CutError ?kt_NoWeb_NoWeb
  (case a1=>k_is)
  (case l1=>k_is)
  (case c1=>k_is)
  (case k1=>k_is)
  (case a2=>k_is)
  (case l2=>k_is)
  (case c2=>k_is)
  (case k2=>k_is)
  (case a3=>k_is)
  (case l3=>k_is)
  (case c3=>k_is)
  (case k3=>k_is)
  (case a4=>k_is)
  (case l4=>k_is)
  (case c4=>k_is)
  (case k4=>k_is)
  (case a5=>k_is)
  (case l5=>k_is)
  (case c5=>k_is)
  (case k5=>k_is)
  (case a6=>k_is)
  (case l6=>k_is)
  (case c6=>k_is)
  (case k6=>k_is)
  (case a7=>k_is)
  (case l7=>k_is)
  (case c7=>k_is)
  (case k7=>k_is)
  (case a8=>k_is)
  (case l8=>k_is)
  (case c8=>k_is)
  (case k8=>k_is)
  (case a9=>k_is)
  (case l9=>k_is)
  (case c9=>k_is)
  (case k9=>k_is)
  (case a10=>k_is)
  (case l10=>k_is)
  (case c10=>k_is)
  (case k10=>k_is)
  (case a11=>k_is)
  (case l11=>k_is)
  (case c11=>k_is)
  (case k11=>k_is)
  (case a12=>k_is)
  (case l12=>k_is)
  (case c12=>k_is)
  (case k12=>k_is)
  (case a13=>k_is)
  (case l13=>k_is)
  (case c13=>k_is)
  (case k13=>k_is)
  (case a14=>k_is)
  (case l14=>k_is)
  (case c14=>k_is)
  (case k14=>k_is)
  (case a15=>k_is)
  (case l15=>k_is)
  (case c15=>k_is)
  (case k15=>k_is)
  (case a16=>k_is)
  (case l16=>k_is)
  (case c16=>k_is)
  (case k16=>k_is)
  (case a17=>k_is)
  (case l17=>k_is)
  (case c17=>k_is)
  (case k17=>k_is)
  (case a18=>k_is)
  (case l18=>k_is)
  (case c18=>k_is)
  (case k18=>k_is)
  (case a19=>k_is)
  (case l19=>k_is)
  (case c19=>k_is)
  (case k19=>k_is)
  (case a20=>k_is)
  (case l20=>k_is)
  (case c20=>k_is)
  (case k20=>k_is)
  (case a21=>k_is)
  (case l21=>k_is)
  (case c21=>k_is)
  (case k21=>k_is)
  (case z_bool=>k_is)
  (case z_int=>k_is)
  (case z_isinstance=>k_is)
  (case z_len=>k_is)
  (case z_list=>k_is)
  (case z_range=>k_is)
  (case z_set=>k_is)
  (case z_tuple=>k_is)
  (case z_zip=>k_is)
  (case gc_MOST_POINTS=>k_is)
  (case cc_CutError=>k_is)
  (case cc_NoWeb=>k_is)
  (case r_CutError=>show PySem.W.excIn _ _ _ _ = true; k_exc)
  (case r_NoWeb=>show PySem.W.excIn _ _ _ _ = true; k_exc)
  (case x_NoWeb_ga=>k_is)
  (case x_NoWeb_gt=>k_is)
  (case x_NoWeb_cl=>k_is)
  (case x_NoWeb_isB=>k_is)
  (case x_NoWeb_isO=>k_is)
  (case x_NoWeb_isC=>k_is)
  (case x_NoWeb_k1=>kit_is)
  (case x_NoWeb_k2=>kit_is)
  (case x_NoWeb_k3=>kit_is)
  (case x_NoWeb_k4=>kit_is)
  (case x_NoWeb_k5=>kit_is)
  (case u_NoWeb_CutError=>k_is)
  (case kt_NoWeb_NoWeb=>kit_is)
#print axioms PySem.Challenge.cw_farcuts_k63_webs_of_words_holds
