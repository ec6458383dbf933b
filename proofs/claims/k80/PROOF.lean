import PyProof.Rows.All
import Wide.All
import OpenK.AllK
import Wide.FinOn
import PyProof.EqAt
import PyProof.EqKinds
import PyProof.TupleCall
import PyProof.P3In
import PyProof.ZipIter
import PyProof.ListRange
import PyProof.SetRoads
import PyProof.Rows.SetFrom
import PyProof.Rows.SeqMore2
import KE.RegKIsAll
import PyProof.StrWalks
import PyProof.EnumMake
import PyProof.Conv_int
import PyProof.Conv_int_bool
import KE.KIntText
import PyProof.StrLawsTight
import PyProof.Rows.StrItems
import PyProof.Rows.StrJoin2
import PyProof.StrBlockI
import PyProof.Draws
import PyProof.DictItems
import KE.KDictList
import PySem.Challenge.RW_farcuts_k80_cuts_written_and_read
set_option Elab.async false
set_option linter.all false
set_option maxRecDepth 100000
set_option genSizeOfSpec false
set_option genInjectivity false
/-! THE HAND LAYER, for ints, bools, texts, own classes, LISTS and tuples (index, slices, in, append, pop ..), calls, loops. Paste it whole ahead of your own text; what your proof does not reach may be deleted. -/
noncomputable section
namespace L2
open PySem PySem.Spec PyProof.Rows
abbrev Key:=Sum Int Str
def Zmq:Key→Value→Bool
 | .inl k,v=>Value.isInt k v
 | .inr x,v=>Value.isStrOf x v
def Ycr (w:World):Key→Int
 | .inl k=>hashInt k
 | .inr x=>hashStr w x
theorem Ym:∀ {k:Key} {v:Value},Zmq k v = true→(∃ i t,k = Sum.inl i/\v = Value.int i t)\/(∃ x t,k = Sum.inr x/\v = Value.str x t)
 | .inl i,v,h=>by
  obtain ⟨t,e⟩:=Value.isInt_shape (k:=i) (v:=v) h
  exact .inl ⟨i,t,rfl,e⟩
 | .inr x,v,h=>by
  obtain ⟨t,e⟩:=Value.isStrOf_shape (x:=x) (v:=v) h
  exact .inr ⟨x,t,rfl,e⟩
theorem Zp0 (i:Int) (t:Tok):Zmq (.inl i) (.int i t) = true:=by simp [Zmq,Value.isInt]
theorem Zpl (x:Str) (t:Tok):Zmq (.inr x) (.str x t) = true:=by simp [Zmq,Value.isStrOf]
theorem Z1f (a b:Int):decide ((Sum.inl a:Key) = Sum.inl b) = (a == b):=by
 by_cases e:a = b
 .subst e; simp
 .have h:¬ (Sum.inl a:Key) = Sum.inl b:=fun q=>e (Sum.inl.inj q)
  rw [decide_eq_false h]
  exact (beq_eq_false_iff_ne.mpr e).symm
theorem Zz5 (a b:Str):decide ((Sum.inr a:Key) = Sum.inr b) = decide (a = b):=by
 by_cases e:a = b
 .subst e; simp
 .have h:¬ (Sum.inr a:Key) = Sum.inr b:=fun q=>e (Sum.inr.inj q)
  rw [decide_eq_false h,decide_eq_false e]
theorem Z3b (a:Int) (b:Str):decide ((Sum.inl a:Key) = Sum.inr b) = false:=decide_eq_false (fun q=>nomatch q)
theorem Zzz (a:Str) (b:Int):decide ((Sum.inr a:Key) = Sum.inl b) = false:=decide_eq_false (fun q=>nomatch q)
def Wi (prog:Program) (w:World):PySem.KeyKind prog w Key where
 is:=Zmq
 hash:=Ycr w
 inj:=fun v a b ha hb=>by
  rcases Ym ha with ⟨i,t,rfl,rfl⟩ | ⟨x,t,rfl,rfl⟩
  .rcases Ym hb with ⟨j,u,rfl,e⟩ | ⟨y,u,rfl,e⟩
   .injection e with e1 _; rw [e1]
   .exact nomatch e
  .rcases Ym hb with ⟨j,u,rfl,e⟩ | ⟨y,u,rfl,e⟩
   .exact nomatch e
   .injection e with e1 _; rw [e1]
 byValue:=fun k v h=>by
  rcases Ym h with ⟨i,t,rfl,rfl⟩ | ⟨x,t,rfl,rfl⟩ <;> rfl
 pyHash:=fun hv h=>by
  rcases Ym hv with ⟨i,t,rfl,rfl⟩ | ⟨x,t,rfl,rfl⟩
  .exact wpAny_pyHash_int h
  .exact wpAny_pyHash_str h
 eqBool:=fun hu hv h=>by
  rcases Ym hu with ⟨i,t,rfl,rfl⟩ | ⟨x,t,rfl,rfl⟩
  .rcases Ym hv with ⟨j,u,rfl,rfl⟩ | ⟨y,u,rfl,rfl⟩
   .rw [Z1f] at h; exact wpAny_eqBool_int h
   .rw [Z3b] at h; exact SeqAt.EqAt.int_str i t y u _ _ _ _ h
  .rcases Ym hv with ⟨j,u,rfl,rfl⟩ | ⟨y,u,rfl,rfl⟩
   .rw [Zzz] at h; exact SeqAt.EqAt.str_int x t j u _ _ _ _ h
   .rw [Zz5] at h; exact wpAny_eqBool_str h
 «strs»:=fun k x t v h=>by
  rcases Ym h with ⟨i,u,rfl,e⟩ | ⟨y,u,rfl,e⟩
  .exact nomatch e
  .injection e with e1 _
   subst e1
   cases v <;> rfl
theorem Zj2 (prog:Program) (w:World) (i:Int) (t:Tok):(Wi prog w).is (.inl i) (.int i t) = true:=Zp0 i t
theorem Zjq (prog:Program) (w:World) (x:Str) (t:Tok):(Wi prog w).is (.inr x) (.str x t) = true:=Zpl x t
end L2
namespace L2
open PySem PySem.Spec PyProof.Rows
inductive V where
 | non | bl (b:Bool) | int (i:Int) | str (x:Str) | byt (b:Array UInt8) | flt (b:UInt64) | ref (a:Addr) | ty (n:String)
 deriving DecidableEq
def RelV:V→Value→Prop
 | .non,u=>u = Value.none
 | .bl b,u=>u = Value.bool b
 | .int i,u=>∃ t,u = Value.int i t
 | .str x,u=>∃ t,u = Value.str x t
 | .byt b,u=>∃ t,u = Value.bytes b t
 | .flt b,u=>∃ t,u = Value.float b t
 | .ref a,u=>u = Value.ref a
 | .ty n,u=>u = Value.type n
abbrev Vals:List V→List Value→Prop:=Paired RelV
theorem Vals.length {xs:List V} {us:List Value} (r:Vals xs us):xs.length = us.length:=Paired.length r
theorem Vals.get {xs:List V} {us:List Value} {i:Nat} {x:V} (h:Vals xs us) (e:xs[i]? = some x):∃ u,us[i]? = some u/\RelV x u:=by
 induction h generalizing i with
 | nil=>exact (Option.some_ne_none _ (e.symm.trans List.getElem?_nil)).elim
 | cons r t ih =>
  cases i with
  | zero=>exact ⟨_,rfl,Option.some.inj e ▸ r⟩
  | succ i=>exact ih e
theorem Vals.set {x:V} {u:Value} (r:RelV x u) {xs:List V} {us:List Value} (i:Nat) (h:Vals xs us):Vals (xs.set i x) (us.set i u):=by
 induction h generalizing i with
 | nil=>exact .nil
 | cons q t ih =>
  cases i with
  | zero=>exact .cons r t
  | succ i=>exact .cons q (ih i)
theorem Vals.append {xs ys:List V} {us ws:List Value} (h:Vals xs us) (s:Vals ys ws):Vals (xs ++ ys) (us ++ ws):=by
 induction h with
 | nil=>exact s
 | cons r t ih=>exact .cons r ih
theorem Vals.take {xs:List V} {us:List Value} (n:Nat) (h:Vals xs us):Vals (xs.take n) (us.take n):=by
 induction h generalizing n with
 | nil=>rw [List.take_nil,List.take_nil]; exact .nil
 | cons r t ih =>
  cases n with
  | zero=>exact .nil
  | succ n=>exact .cons r (ih n)
theorem Vals.drop {xs:List V} {us:List Value} (n:Nat) (h:Vals xs us):Vals (xs.drop n) (us.drop n):=by
 induction h generalizing n with
 | nil=>rw [List.drop_nil,List.drop_nil]; exact .nil
 | cons r t ih =>
  cases n with
  | zero=>exact .cons r t
  | succ n=>exact ih n
def RelO:Option V→Option Value→Prop
 | some v,some u=>RelV v u
 | none,none=>True
 | _,_=>False
def KV {κ:Type}:List (κ × V)→List (κ × Value)→Prop:=Paired fun (p:κ × V) (q:κ × Value)=>p.1 = q.1/\RelV p.2 q.2
def kV:Key→V
 | .inl i=>.int i
 | .inr x=>.str x
inductive HO where
  | lst (xs:List V)
  | tup (xs:List V)
  | dK (kvs:List (Key × V)) | dT (kvs:List (List Key × V))
  | set (S:Int→Bool) (n:Nat)
  | ins (C dx:Addr) (fs:List (Str × V))
  | own (x:Addr)
  | xd (fs:List (Str × V))
  | met (f x:Addr)
  | rng (lo hi:Int)
  | frz (o:Obj) (u:HO)
  | tbl (ps:Array Value)
  | ext (φ:Heap→Prop)
abbrev Hp:=Addr→Option HO
def upd (H:Hp) (a:Addr) (o:HO):Hp:=fun b=>if b = a then some o else H b
theorem Zu {H:Hp} {a:Addr} {o:HO}:upd H a o a = some o:=by unfold upd; rw [if_pos rfl]
theorem Zk {H:Hp} {a b:Addr} {o:HO} (h:b ≠ a):upd H a o b = H b:=by unfold upd; rw [if_neg h]
theorem Z7v {H:Hp} {a b:Addr} {o u:HO} (h:H a = some o) (h':H b = some u) (d:o ≠ u):a ≠ b:=by
 intro e; subst e; rw [h] at h'; exact d (Option.some.inj h')
theorem Yl {H:Hp} {a b:Addr} {o:HO} (h:H a = some o) (h':H b = none):a ≠ b:=by
 intro e; subst e; rw [h] at h'; cases h'
section
variable (P:Program) (w:World)
def ObjOk (H:Hp) (h:Heap) (a:Addr):HO→Prop
 | .lst xs=>xs.length <= sizeLine/\∃ (its:List Value) (n:Nat),Vals xs its/\h.get? a = some { cls:=.type "list", data:=.seq its.toArray n }
 | .tup xs=>xs.length <= sizeLine/\∃ its:List Value,Vals xs its/\IsTup h a its.toArray
 | .dK kvs=>kvs.length <= sizeLine/\(a == sysModules) = false/\∃ vs,KV kvs vs/\h.DictOf (Wi P w) a vs
 | .dT kvs=>kvs.length <= sizeLine/\(a == sysModules) = false/\∃ xs:List (List Key × Addr × Value),
   Paired (fun (p:List Key × V) (q:List Key × Addr × Value)=>p.1 = q.1/\H q.2.1 = some (.tup (p.1.map kV))/\RelV p.2 q.2.2) kvs xs /\
   ∃ o es ep,h.get? a = some o/\o.ExactDict/\o.data = .dict es ep/\es.toList = xs.map (entryOfKey (tupleKind (Wi P w)))/\(xs.map (·.1)).Nodup
 | .set S n=>h.SetOf (intKind P w) a S n
 | .ins C dx fs=>H dx = some (.own a)/\fs.length <= 1000/\dx ≠ a/\h.get? a = some (PySem.W.instObj C dx) /\
   ∃ mA,h.Ns1 dx mA/\(∀ f,RelO (fs.lookup f) (mA f))/\PySem.Within mA (fs.map (·.1))
 | .own _=>∃ o,h.get? a = some o
 | .xd fs=>∃ mA,h.Ns1 a mA/\∀ f,RelO (fs.lookup f) (mA f)
 | .rng lo hi=>∃ t u v,h.get? a = some { cls:=.type "range", data:=.fields #[.int lo t,.int hi u,.int 1 v] }
 | .frz o u=>h.get? a = some o/\ObjOk H h a u
 | .tbl ps=>h.get? a = some { cls:=.none,data:=.fields ps }
 | .met f x=>h.get? a = some (PySem.W.methodObj (.ref f) (.ref x))
 | .ext φ=>φ h/\(∃ o,h.get? a = some o)/\∀ h1 h2:Heap,φ h1→(∀ o,h1.get? a = some o→h2.get? a = some o)→φ h2
def HOk (H:Hp) (h:Heap):Prop:=∀ a o,H a = some o→ObjOk P w H h a o
end
section
variable {P:Program} {w:World} {H H':Hp} {h h':Heap} {a:Addr} {o:HO}
theorem ObjOk.lt (x:ObjOk P w H h a o):a < h.objs.size:=by
 cases o with
 | lst xs=>obtain ⟨_,_,_,_,e⟩:=x; exact Heap.lt_size e
 | tup xs=>obtain ⟨_,_,_,p⟩:=x; exact p.lt
 | dK kvs=>obtain ⟨_,_,_,_,o,_,_,e,_⟩:=x; exact Heap.lt_size e
 | dT kvs=>obtain ⟨_,_,_,_,o,_,_,e,_⟩:=x; exact Heap.lt_size e
 | set S n=>obtain ⟨o,_,_,_,e,_⟩:=x; exact Heap.lt_size e
 | ins C dx fs=>obtain ⟨_,_,_,e,_⟩:=x; exact Heap.lt_size e
 | own y=>obtain ⟨_,e⟩:=x; exact Heap.lt_size e
 | xd fs=>obtain ⟨_,⟨_,_,_,e,_⟩,_⟩:=x; exact Heap.lt_size e
 | rng lo hi=>obtain ⟨_,_,_,e⟩:=x; exact Heap.lt_size e
 | frz ob u=>obtain ⟨e,_⟩:=x; exact Heap.lt_size e
 | tbl ps=>exact Heap.lt_size (show h.get? a = some _ from x)
 | met f y=>exact Heap.lt_size (show h.get? a = some _ from x)
 | ext φ=>obtain ⟨_,⟨_,e⟩,_⟩:=x; exact Heap.lt_size e
theorem Paired.mapP {α β:Type} {F G:α→β→Prop} {l₁:List α} {l₂:List β} (h:Paired F l₁ l₂) (f:∀ a b,F a b→G a b):Paired G l₁ l₂:=by
 induction h with
 | nil=>exact .nil
 | cons r t ih=>exact .cons (f _ _ r) ih
theorem ObjOk.stay (x:ObjOk P w H h a o) (k:∀ b u,(b = a\/H b = some (.own a))→h.get? b = some u→h'.get? b = some u)
  (ho:∀ b,H b = some (.own a)→H' b = some (.own a)) (ht:∀ b xs,H b = some (.tup xs)→H' b = some (.tup xs)):ObjOk P w H' h' a o:=by
 induction o with
 | lst xs=>obtain ⟨z,its,n,r,e⟩:=x; exact ⟨z,its,n,r,k _ _ (.inl rfl) e⟩
 | tup xs=>obtain ⟨z,its,r,ob,e,c⟩:=x; exact ⟨z,its,r,ob,k _ _ (.inl rfl) e,c⟩
 | dK kvs=>obtain ⟨z,y,vs,r,ob,es,ep,e,c⟩:=x; exact ⟨z,y,vs,r,ob,es,ep,k _ _ (.inl rfl) e,c⟩
 | dT kvs =>
  obtain ⟨z,y,xs,r,ob,es,ep,e,c⟩:=x
  exact ⟨z,y,xs,Paired.mapP r fun p q z=>⟨z.1,ht _ _ z.2.1,z.2.2⟩,ob,es,ep,k _ _ (.inl rfl) e,c⟩
 | set S n=>obtain ⟨ob,es,ep,t,e,c⟩:=x; exact ⟨ob,es,ep,t,k _ _ (.inl rfl) e,c⟩
 | ins C dx fs =>
  obtain ⟨d,z,ne,e,mA,⟨od,es,ep,e2,c⟩,r⟩:=x
  exact ⟨ho _ d,z,ne,k _ _ (.inl rfl) e,mA,⟨od,es,ep,k _ _ (.inr d) e2,c⟩,r⟩
 | own y=>obtain ⟨ob,e⟩:=x; exact ⟨ob,k _ _ (.inl rfl) e⟩
 | xd fs=>obtain ⟨mA,⟨od,es,ep,e,c⟩,r⟩:=x; exact ⟨mA,⟨od,es,ep,k _ _ (.inl rfl) e,c⟩,r⟩
 | rng lo hi=>obtain ⟨t,u,v,e⟩:=x; exact ⟨t,u,v,k _ _ (.inl rfl) e⟩
 | frz ob u ih=>obtain ⟨e,q⟩:=x; exact ⟨k _ _ (.inl rfl) e,ih q⟩
 | tbl ps =>
  have e:h.get? a = some { cls:=.none,data:=.fields ps }:=x
  show h'.get? a = some { cls:=.none,data:=.fields ps }
  exact k a _ (.inl rfl) e
 | met f y =>
  have e:h.get? a = some (PySem.W.methodObj (.ref f) (.ref y)):=x
  show h'.get? a = some (PySem.W.methodObj (.ref f) (.ref y))
  exact k a _ (.inl rfl) e
 | ext φ=>obtain ⟨p,⟨o,e⟩,st⟩:=x; exact ⟨st _ _ p fun o q=>k _ _ (.inl rfl) q,⟨o,k _ _ (.inl rfl) e⟩,st⟩
theorem HOk.lt (x:HOk P w H h) (e:H a = some o):a < h.objs.size:=(x a o e).lt
theorem HOk.fresh (x:HOk P w H h) (e:h.objs.size <= a):H a = none:=by
 cases q:H a with
 | none=>rfl
 | some u=>exact absurd (Nat.lt_of_lt_of_le (x.lt q) e) (Nat.lt_irrefl _)
theorem HOk.kept (x:HOk P w H h) (k:∀ b u,h.get? b = some u→h'.get? b = some u):HOk P w H h':=fun a o e =>
 (x a o e).stay (fun b u _ q=>k b u q) (fun _ q=>q) fun _ _ q=>q
theorem HOk.laid (x:HOk P w H h) (k:∀ b u,h.get? b = some u→h'.get? b = some u) (hp:h.objs.size <= a) (new:ObjOk P w (upd H a o) h' a o):HOk P w (upd H a o) h':=fun b u e=>by
 have hn:=x.fresh hp
 by_cases hb:b = a
 .subst hb; rw [Zu] at e; cases e; exact new
 .rw [Zk hb] at e
  exact (x b u e).stay (fun c v _ q=>k c v q) (fun c q=>by rw [Zk (Yl q hn)]; exact q) fun c xs q=>by rw [Zk (Yl q hn)]; exact q
end
def Rd (H:Hp) (a:Addr) (u:HO):Prop:=H a = some u\/∃ o,H a = some (.frz o u)
theorem Rd.ok {P:Program} {w:World} {H:Hp} {h:Heap} {a:Addr} {u:HO} (r:Rd H a u) (x:HOk P w H h):ObjOk P w H h a u:=by
 rcases r with r | ⟨o,r⟩
 .exact x a u r
 .obtain ⟨_,q⟩:=x a _ r
  exact q
def Mut:Option HO→Prop
 | some (.lst _)=>True
 | some (.dK _)=>True
 | some (.dT _)=>True
 | some (.set _ _)=>True
 | some (.ins _ _ _)=>True
 | some (.ext _)=>True
 | _=>False
section
variable {P:Program} {w:World} {H:Hp} {h h':Heap} {x e:Addr} {o':HO}
theorem HOk.write (ok:HOk P w H h) (mu:Mut (H x)) (he:e = x\/H e = some (.own x)) (k:∀ b u,b ≠ e→h.get? b = some u→h'.get? b = some u) (heo:∃ u,h'.get? e = some u)
  (new:ObjOk P w (upd H x o') h' x o'):HOk P w (upd H x o') h':=fun b u q=>by
 have nown:∀ c y,H c = some (.own y)→c ≠ x:=fun c y r z=>by subst z; rw [r] at mu; exact mu
 have ntup:∀ c xs,H c = some (.tup xs)→c ≠ x:=fun c xs r z=>by subst z; rw [r] at mu; exact mu
 by_cases hb:b = x
 .subst hb; rw [Zu] at q; cases q; exact new
 .rw [Zk hb] at q
  by_cases hbe:b = e
  .have q':H b = some (.own x):=by
    rcases he with z | z
    .exact absurd (hbe.trans z) hb
    .rw [hbe]; exact z
   rw [q] at q'; cases q'
   obtain ⟨v,hv⟩:=heo
   exact ⟨v,by rw [hbe]; exact hv⟩
  .refine (ok b u q).stay (fun c v hc r=>k c v ?_ r) (fun c r=>by rw [Zk (nown c b r)]; exact r) fun c xs r=>by rw [Zk (ntup c xs r)]; exact r
   rcases hc with rfl | hc
   .exact hbe
   .rintro rfl
    rcases he with z | z
    .exact nown c b hc z
    .rw [hc] at z; cases z; exact hb rfl
end
structure Un (fs ex:List Addr) (H H':Hp) (h h':Heap):Prop where
 keep:∀ b o,h.get? b = some o→H b = none→b ∉ fs→b ∉ ex→h'.get? b = some o
 slot:∀ b o,h.get? b = some o→H b = none→b ∈ fs→b ∉ ex→∃ sl,h'.get? b = some { o with slots:=sl }
 free:∀ b o,h.get? b = some o→H b = none→b ∉ ex→H' b = none
 there:∀ b o,h.get? b = some o→b ∉ ex→∃ o',h'.get? b = some o'
 tups:∀ b xs,H b = some (.tup xs)→H' b = some (.tup xs)
 frzs:∀ b o u,H b = some (.frz o u)→H' b = some (.frz o u)
 tbls:∀ b ps,H b = some (.tbl ps)→∃ more,H' b = some (.tbl (ps ++ more))
section
variable {fs fs' ex ex':List Addr} {H H1 H2:Hp} {h h1 h2 h':Heap} {a x e:Addr} {o:HO}
theorem Un.any (u:Un fs ex H H1 h h1) {b:Addr} {ob:Obj} (q:h.get? b = some ob) (n:H b = none) (hx:b ∉ ex):∃ sl,h1.get? b = some { ob with slots:=sl }:=by
 by_cases hb:b ∈ fs
 .exact u.slot b ob q n hb hx
 .exact ⟨ob.slots,u.keep b ob q n hb hx⟩
theorem Un.kept (k:∀ b u,h.get? b = some u→h'.get? b = some u):Un fs ex H H h h' :=
 ⟨fun b ob q _ _ _=>k b ob q,fun b ob q _ _ _=>⟨ob.slots,k b ob q⟩,fun _ _ _ n _=>n,fun b ob q _=>⟨ob,k b ob q⟩,fun _ _ q=>q,fun _ _ _ q=>q,fun _ ps q=>⟨#[],by rw [q]; simp⟩⟩
theorem Un.refl:Un fs ex H H h h:=Un.kept fun _ _ q=>q
theorem Un.laid (k:∀ b u,h.get? b = some u→h'.get? b = some u) (hp:h.objs.size <= a) (hn:H a = none):Un fs ex H (upd H a o) h h' where
 keep:=fun b u q _ _ _=>k b u q
 slot:=fun b u q _ _ _=>⟨u.slots,k b u q⟩
 free:=fun b u q n _=>by rw [Zk (Nat.ne_of_lt (Nat.lt_of_lt_of_le (Heap.lt_size q) hp))]; exact n
 there:=fun b u q _=>⟨u,k b u q⟩
 tups:=fun b xs q=>by rw [Zk (Yl q hn)]; exact q
 frzs:=fun b u xs q=>by rw [Zk (Yl q hn)]; exact q
 tbls:=fun b ps q=>⟨#[],by rw [Zk (Yl q hn),q]; simp⟩
theorem Un.write (mu:Mut (H x)) (he:e = x\/H e = some (.own x)) (k:∀ b u,b ≠ e→h.get? b = some u→h'.get? b = some u) (heo:∃ u,h'.get? e = some u):Un fs ex H (upd H x o) h h':=by
 have hx:∀ b,H b = none→b ≠ x:=fun b n z=>by subst z; rw [n] at mu; exact mu
 have hb:∀ b,H b = none→b ≠ e:=fun b n z=>by
  subst z
  rcases he with r | r
  .exact hx b n r
  .rw [n] at r; cases r
 have hm:∀ b u,H b = some u→¬ Mut (some u)→b ≠ x:=fun b u q nm z=>by subst z; rw [q] at mu; exact nm mu
 refine ⟨fun b u q n _ _=>k b u (hb b n) q,fun b u q n _ _=>⟨u.slots,k b u (hb b n) q⟩,fun b u q n _=>by rw [Zk (hx b n)]; exact n,fun b u q _=>?_,
  fun b xs q=>by rw [Zk (hm b _ q fun z=>z)]; exact q,fun b u xs q=>by rw [Zk (hm b _ q fun z=>z)]; exact q,fun b ps q=>⟨#[],by rw [Zk (hm b _ q fun z=>z),q]; simp⟩⟩
 by_cases hbe:b = e
 .subst hbe; exact heo
 .exact ⟨u,k b u hbe q⟩
end
def trk (h:Heap) (H:Hp):List Addr:=(List.range h.objs.size).filter fun a=>(H a).isSome
def Zr0 (h:Heap) (H:Hp):Heap:=PySem.W.hideAll h (trk h H)
theorem Zpf (h:Heap) (H:Hp):(Zr0 h H).objs.size = h.objs.size:=PySem.W.hideAll_size _ _
theorem Ztw {h:Heap} {H:Hp} {b:Addr} {o:Obj} (e:h.get? b = some o) (n:H b = none):(Zr0 h H).get? b = some o :=
 PySem.W.hideAll_get _ e fun hm=>by
  have q:(H b).isSome = true:=(List.mem_filter.mp hm).2
  rw [n] at q; simp at q
theorem Zvs {h:Heap} {H:Hp} {b:Addr} {o:Obj} (e:(Zr0 h H).get? b = some o):h.get? b = some o/\H b = none:=by
 have e':h.get? b = some o:=PySem.W.of_hideAll (trk h H) e
 refine ⟨e',?_⟩
 cases q:H b with
 | none=>rfl
 | some x =>
  have hm:b ∈ trk h H:=List.mem_filter.mpr ⟨List.mem_range.mpr (Heap.lt_size e'),by simp [q]⟩
  have z:(Zr0 h H).get? b = none:=PySem.W.hideAll_none (trk h H) hm
  rw [z] at e; cases e
def Zv8 (g h:Heap) (L:Addr):List (Addr × Obj):=(List.range h.objs.size).filterMap fun a=>if a = L\/(g.get? a).isSome = true then none else (h.get? a).map fun o=>(a,o)
def rest (g h:Heap) (L d:Addr):List (Addr × Obj):=(Zv8 g h L).filter fun p=>decide (p.1 ≠ d)
end L2
namespace L2
open PySem PySem.Spec PyProof.Rows
structure Mod (K:PySem.W.Frag) (mg:Str→Option Value) (base:Heap):Prop where
 kin:K.In base
 glob:base.Ns mainGlobals mg
 blt:∃ mb,base.Ns builtinsNs mb/\∀ x:Str,x ≠ "__name__" → mb x = bootBuiltins x
 nolimit:base.NoLimit
set_option genInjectivity false in
structure Cx where
 prog:Program
 w:World
 K:PySem.W.Frag
 mg:Str→Option Value
 base:Heap
 A:Around
 N:List Str
 s₀:Shared
 H₀:Hp
 env:Env
 outer:List Env
 stack:List Env
 ex:List Addr
 fn:Str→Bool
 calm:Bool
 pn:List (Addr × Obj)
 xe:Value→Shared→Prop
def frs (l:List Env):List Addr:=l.filterMap (·.frame)
abbrev Cx.fs (X:Cx):List Addr:=frs X.outer
def Vis (sc:Scope) (x:Str):Prop:=sc.names.lookup x = some .local\/sc.names.lookup x = some .cell\/sc.names.lookup x = some .free
def Loc (sc:Scope) (x:Str):Prop:=sc.names.lookup x = some .local\/sc.names.lookup x = some .cell
def Look (env:Env) (h:Heap) (m:Str→Option Value) (x:Str) (u:Value):Prop :=
 (env.kindOf x = some .local/\m x = some u)\/((env.kindOf x = some .cell\/env.kindOf x = some .free)/\∃ c,env.cells.lookup x = some c/\h.IsCell c (some u))
structure Cx.Ok (X:Cx):Prop where
 mod:Mod X.K X.mg X.base
 kind:X.env.scope.kind = .function
 glob:X.env.globals = mainGlobals
 blt:X.env.builtins = builtinsNs
 above:X.s₀.heap.objs.size <= X.env.locals
 inj:∀ x y c,X.env.cells.lookup x = some c→X.env.cells.lookup y = some c→x = y
 has:∀ x,(X.env.kindOf x = some .cell\/X.env.kindOf x = some .free)→∃ c,X.env.cells.lookup x = some c
 cab:∀ x c,X.fn x = true→X.env.cells.lookup x = some c→X.s₀.heap.objs.size <= c
 hd:X.calm = true→X.A.handled = none
 frames:X.A.frames = some X.stack
 stk:X.stack = X.outer\/(X.stack = X.env :: X.outer/\X.env.frame = some X.env.locals)
 exf:∀ b ∈ X.ex,b ≠ X.env.locals/\∀ x c,X.env.cells.lookup x = some c→c ≠ b
 bs:∀ b o,X.base.get? b = some o→X.s₀.heap.get? b = some o/\X.H₀ b = none
 bsz:X.base.objs.size <= X.s₀.heap.objs.size
 noex:∀ b o,X.base.get? b = some o→b ∉ X.ex
 exfs:∀ b ∈ X.ex,b ∉ X.fs
 funs:X.s₀.heap.FunFrames X.base X.outer
 frf:∀ b ∈ X.fs,X.H₀ b = none
structure Inv (X:Cx) (pins:List (Addr × Obj)) (σ:List (Option V)) (H:Hp) (s:Shared):Prop where
 ok:X.Ok
 os:s.os = X.s₀.os
 bare:AllBare s.gens
 base:Un X.fs X.ex X.H₀ H X.s₀.heap s.heap
 loc:∃ m,s.heap.Ns X.env.locals m/\∀ (i:Nat) (x:Str) (v:V),X.N[i]? = some x→σ[i]? = some (some v)→Vis X.env.scope x→∃ u,RelV v u/\Look X.env s.heap m x u
 cell:∀ x c,X.env.cells.lookup x = some c→∃ v,s.heap.IsCell c v
 free:H X.env.locals = none
 freeC:∀ x c,X.env.cells.lookup x = some c→H c = none
 pin:∀ p ∈ X.pn ++ pins,s.heap.get? p.1 = some p.2/\H p.1 = none/\p.1 ≠ X.env.locals/\p.1 ∉ X.fs/\∀ v,p.2.data ≠ .cell v
 hok:HOk X.prog X.w H s.heap
 len:σ.length = X.N.length
section
variable {X:Cx} {pins:List (Addr × Obj)} {σ:List (Option V)} {H H':Hp} {s:Shared} {h':Heap}
theorem Cx.Ok.nofr (ok:X.Ok) {b:Addr} {o:Obj} (e:X.base.get? b = some o):b ∉ X.fs:=fun hb=>by
 have:=(ok.funs.mem hb).1
 rw [e] at this; cases this
theorem Inv.bs (I:Inv X pins σ H s):∀ b o,X.base.get? b = some o→s.heap.get? b = some o/\H b = none:=fun b o e =>
 ⟨I.base.keep b o (I.ok.bs b o e).1 (I.ok.bs b o e).2 (I.ok.nofr e) (I.ok.noex b o e),I.base.free b o (I.ok.bs b o e).1 (I.ok.bs b o e).2 (I.ok.noex b o e)⟩
theorem Inv.bk (I:Inv X pins σ H s):∀ b o,X.base.get? b = some o→s.heap.get? b = some o:=fun b o e=>(I.bs b o e).1
theorem Inv.mod (I:Inv X pins σ H s):Mod X.K X.mg X.base:=I.ok.mod
theorem Inv.kIn (I:Inv X pins σ H s):X.K.In s.heap:=I.ok.mod.kin.keeps I.bk
theorem Inv.lt (I:Inv X pins σ H s):X.env.locals < s.heap.objs.size:=let ⟨_,hn,_⟩:=I.loc; hn.lt
theorem Inv.sz (I:Inv X pins σ H s):X.s₀.heap.objs.size <= s.heap.objs.size:=Nat.le_trans I.ok.above (Nat.le_of_lt I.lt)
theorem Inv.nofs (I:Inv X pins σ H s) {a:Addr} (h:s.heap.objs.size <= a):a ∉ X.fs:=fun hb=>by
 obtain ⟨_,o,ho,_⟩:=I.ok.funs.mem hb
 exact absurd (Nat.lt_of_lt_of_le (Heap.lt_size ho) (Nat.le_trans I.sz h)) (Nat.lt_irrefl _)
theorem Inv.cne (I:Inv X pins σ H s):∀ x c,X.env.cells.lookup x = some c→c ≠ X.env.locals:=fun x c e z=>by
 obtain ⟨v,o,ho,hd⟩:=I.cell x c e
 obtain ⟨m,⟨o',es,ep,ho',hd',_⟩,_⟩:=I.loc
 rw [z,ho'] at ho; cases ho; rw [hd'] at hd; cases hd
theorem Inv.funs (I:Inv X pins σ H s):s.heap.FunFrames X.base X.outer:=by
 have all:∀ (l:List Env),(∀ b ∈ frs l,b ∈ X.fs)→X.s₀.heap.FunFrames X.base l→s.heap.FunFrames X.base l:=by
  intro l
  induction l with
  | nil=>intro _ _; trivial
  | cons env r ih =>
   intro hs hl
   obtain ⟨hk,⟨L,o,hf,hn,ho,hd⟩,hr⟩:=hl
   have hL:L ∈ X.fs:=hs L (by unfold frs; rw [List.filterMap_cons,hf]; exact List.mem_cons_self)
   obtain ⟨sl,e⟩:=I.base.slot L o ho (I.ok.frf L hL) hL fun z=>I.ok.exfs L z hL
   exact ⟨hk,⟨L,_,hf,hn,e,hd⟩,ih (fun b hb=>hs b (by unfold frs; rw [List.filterMap_cons,hf]; exact List.mem_cons_of_mem _ hb)) hr⟩
 exact all X.outer (fun _ hb=>hb) I.ok.funs
theorem Inv.stack (I:Inv X pins σ H s):s.heap.FunFrames X.base X.stack:=by
 rcases I.ok.stk with e | ⟨e,hf⟩
 .rw [e]; exact I.funs
 .rw [e]
  obtain ⟨m,hn,_⟩:=I.loc
  refine .cons (by rw [I.ok.kind]; decide) hf hn ?_ I.funs
  exact Heap.get?_none_of_le (Nat.le_trans I.ok.bsz I.ok.above)
theorem Inv.stkSub (I:Inv X pins σ H s):∀ b ∈ frs X.stack,b ∈ X.env.locals :: X.fs:=fun b hb=>by
 rcases I.ok.stk with e | ⟨e,hf⟩
 .rw [e] at hb; exact List.mem_cons_of_mem _ hb
 .rw [e] at hb
  unfold frs at hb
  rw [List.filterMap_cons,hf] at hb
  exact hb
theorem Inv.stkFree (I:Inv X pins σ H s):∀ b ∈ frs X.stack,H b = none:=fun b hb=>by
 rcases List.mem_cons.mp (I.stkSub b hb) with e | hb
 .rw [e]; exact I.free
 .obtain ⟨_,o,ho,_⟩:=I.ok.funs.mem hb
  exact I.base.free b o ho (I.ok.frf b hb) fun z=>I.ok.exfs b z hb
theorem Inv.step {g':Array GenState} {t':Nat} {d':Drawn} {ch:List Addr} (I:Inv X pins σ H s)
  (hch:∀ b ∈ ch,(b ∈ X.ex\/X.s₀.heap.objs.size <= b)/\b ≠ X.env.locals/\(∀ x c,X.env.cells.lookup x = some c→c ≠ b)/\∀ p ∈ X.pn ++ pins,p.1 ≠ b)
  (keep:∀ b o,b ≠ X.env.locals→b ∉ X.fs→b ∉ ch→s.heap.get? b = some o→H b = none→h'.get? b = some o)
  (slot:∀ b o,b ≠ X.env.locals→b ∈ X.fs→b ∉ ch→s.heap.get? b = some o→H b = none→∃ sl,h'.get? b = some { o with slots:=sl }) (free:∀ b o,b ∉ ch→s.heap.get? b = some o→H b = none→H' b = none)
  (there:∀ b o,b ∉ ch→s.heap.get? b = some o→∃ o',h'.get? b = some o')
  (tups:∀ b xs,H b = some (.tup xs)→H' b = some (.tup xs)) (frzs:∀ b o u,H b = some (.frz o u)→H' b = some (.frz o u)) (tbls:∀ b ps,H b = some (.tbl ps)→∃ more,H' b = some (.tbl (ps ++ more)))
  (ns:∀ m,s.heap.Ns X.env.locals m→h'.Ns X.env.locals m) (hok:HOk X.prog X.w H' h') (hg:AllBare g') :
  Inv X pins σ H' { s with heap:=h',gens:=g',drawn:=d',toks:=t' }:=by
 have neL:∀ b o,X.s₀.heap.get? b = some o→b ≠ X.env.locals:=fun b o e=>Nat.ne_of_lt (Nat.lt_of_lt_of_le (Heap.lt_size e) I.ok.above)
 have neC:∀ b o,X.s₀.heap.get? b = some o→b ∉ X.ex→b ∉ ch:=fun b o e hx hb=>by
  rcases (hch b hb).1 with z | z
  .exact hx z
  .exact absurd (Nat.lt_of_lt_of_le (Heap.lt_size e) z) (Nat.lt_irrefl _)
 have cellK:∀ x c,X.env.cells.lookup x = some c→∀ v,s.heap.IsCell c v→h'.IsCell c v:=fun x c e v ⟨o,ho,hd⟩=>by
  have nch:c ∉ ch:=fun z=>(hch c z).2.2.1 x c e rfl
  by_cases hc:c ∈ X.fs
  .obtain ⟨sl,q⟩:=slot c o (I.cne x c e) hc nch ho (I.freeC x c e)
   exact ⟨_,q,hd⟩
  .exact ⟨o,keep c o (I.cne x c e) hc nch ho (I.freeC x c e),hd⟩
 refine ⟨I.ok,I.os,hg,⟨fun b o e n hb hx=>?_,fun b o e n hb hx=>?_,fun b o e n hx=>?_,fun b o e hx=>?_,fun b xs e=>tups b xs (I.base.tups b xs e),fun b o xs e=>frzs b o xs (I.base.frzs b o xs e),fun b ps e=>?_⟩,?_,fun x c e=>?_,?_,fun x c e=>?_,fun p hp=>?_,hok,I.len⟩
 .exact keep b o (neL b o e) hb (neC b o e hx) (I.base.keep b o e n hb hx) (I.base.free b o e n hx)
 .obtain ⟨sl,e1⟩:=I.base.slot b o e n hb hx
  obtain ⟨sl',e2⟩:=slot b _ (neL b o e) hb (neC b o e hx) e1 (I.base.free b o e n hx)
  exact ⟨sl',e2⟩
 .obtain ⟨o',e1⟩:=I.base.there b o e hx
  exact free b o' (neC b o e hx) e1 (I.base.free b o e n hx)
 .obtain ⟨o',e1⟩:=I.base.there b o e hx
  exact there b o' (neC b o e hx) e1
 .obtain ⟨m1,e1⟩:=I.base.tbls b ps e
  obtain ⟨m2,e2⟩:=tbls b _ e1
  exact ⟨m1 ++ m2,by rw [e2,Array.append_assoc]⟩
 .obtain ⟨m,hn,hl⟩:=I.loc
  refine ⟨m,ns m hn,fun i x v e1 e2 e3=>?_⟩
  obtain ⟨u,r,l⟩:=hl i x v e1 e2 e3
  refine ⟨u,r,?_⟩
  rcases l with l | ⟨k,c,e,z⟩
  .exact .inl l
  .exact .inr ⟨k,c,e,cellK x c e _ z⟩
 .obtain ⟨v,z⟩:=I.cell x c e
  exact ⟨v,cellK x c e v z⟩
 .obtain ⟨m,⟨o,_,_,ho,_⟩,_⟩:=I.loc
  exact free _ o (fun z=>(hch _ z).2.1 rfl) ho I.free
 .obtain ⟨v,o,ho,hd⟩:=I.cell x c e
  exact free c o (fun z=>(hch c z).2.2.1 x c e rfl) ho (I.freeC x c e)
 .obtain ⟨e,n,ne,nf,d⟩:=I.pin p hp
  have nch:p.1 ∉ ch:=fun z=>(hch p.1 z).2.2.2 p hp rfl
  exact ⟨keep p.1 p.2 ne nf nch e n,free p.1 p.2 nch e n,ne,nf,d⟩
theorem Inv.un {t':Nat} (I:Inv X pins σ H s) (u:Un X.fs [] H H' s.heap h') (hok:HOk X.prog X.w H' h'):Inv X pins σ H' { s with heap:=h',toks:=t' }:=by
 obtain ⟨m,⟨o,es,ep,ho,r⟩,_⟩:=id I.loc
 obtain ⟨sl,hL⟩:=u.any ho I.free (by simp)
 exact I.step (g':=s.gens) (d':=s.drawn) (ch:=[]) (fun _ z=>nomatch z) (fun b o _ hb _ e n=>u.keep b o e n hb (by simp)) (fun b o _ hb _ e n=>u.slot b o e n hb (by simp)) (fun b o _ e n=>u.free b o e n (by simp)) (fun b o _ e=>u.there b o e (by simp)) u.tups u.frzs u.tbls (fun m' hm=>by
  obtain ⟨o',es',ep',ho',r'⟩:=hm
  rw [ho] at ho'; cases ho'
  exact ⟨_,es',ep',hL,r'⟩) hok I.bare
theorem Inv.call {g':Array GenState} {t':Nat} {d':Drawn} {ch:List Addr} (I:Inv X pins σ H s) (u:Un (frs X.stack) ch H H' s.heap h') (hok:HOk X.prog X.w H' h') (hg:AllBare g')
  (hch:∀ b ∈ ch,(b ∈ X.ex\/X.s₀.heap.objs.size <= b)/\b ≠ X.env.locals/\(∀ x c,X.env.cells.lookup x = some c→c ≠ b)/\∀ p ∈ X.pn ++ pins,p.1 ≠ b) :
  Inv X pins σ H' { s with heap:=h',gens:=g',drawn:=d',toks:=t' }:=by
 obtain ⟨m,⟨o,es,ep,ho,r⟩,_⟩:=id I.loc
 obtain ⟨sl,hL⟩:=u.any ho I.free fun z=>(hch _ z).2.1 rfl
 exact I.step (ch:=ch) hch (fun b o hL hb hc e n=>u.keep b o e n (fun z=>(List.mem_cons.mp (I.stkSub b z)).elim hL hb) hc) (fun b o _ _ hc e n=>u.any e n hc) (fun b o hc e n=>u.free b o e n hc) (fun b o hc e=>u.there b o e hc) u.tups u.frzs u.tbls (fun m' hm=>by
  obtain ⟨o',es',ep',ho',r'⟩:=hm
  rw [ho] at ho'; cases ho'
  exact ⟨_,es',ep',hL,r'⟩) hok hg
theorem Inv.turned {t':Nat} {it:Addr} (I:Inv X pins σ H s) (k:∀ b o,b ≠ it→s.heap.get? b = some o→h'.get? b = some o) (hn:H it = none) (hL:it ≠ X.env.locals)
  (h1:it ∈ X.ex\/X.s₀.heap.objs.size <= it) (h2:∀ x c,X.env.cells.lookup x = some c→c ≠ it) (h3:∀ p ∈ X.pn ++ pins,p.1 ≠ it):Inv X pins σ H { s with heap:=h',toks:=t' }:=by
 have nit:∀ b u,H b = some u→b ≠ it:=fun b u e z=>by rw [z,hn] at e; cases e
 refine I.step (g':=s.gens) (d':=s.drawn) (ch:=[it]) (fun b hb=>?_) (fun b o _ _ hc e _=>k b o (fun z=>hc (by simp [z])) e) (fun b o _ _ hc e _=>⟨o.slots,k b o (fun z=>hc (by simp [z])) e⟩) (fun _ _ _ _ n=>n)
  (fun b o hc e=>⟨o,k b o (fun z=>hc (by simp [z])) e⟩) (fun _ _ e=>e) (fun _ _ _ e=>e) (fun b ps e=>⟨#[],by rw [e]; simp⟩) (fun m hm=>?_) (fun b u e=>?_) I.bare
 .have e:b = it:=by simpa using hb
  subst e
  exact ⟨h1,hL,h2,h3⟩
 .obtain ⟨o,es,ep,ho,r⟩:=hm
  exact ⟨o,es,ep,k _ o (Ne.symm hL) ho,r⟩
 .refine (I.hok b u e).stay (fun c v hc q=>k c v ?_ q) (fun _ q=>q) fun _ _ q=>q
  rcases hc with z | z
  .rw [z]; exact nit b u e
  .exact nit c _ z
theorem Inv.tok (I:Inv X pins σ H s) (t:Nat):Inv X pins σ H { s with toks:=t }:=I.un (h':=s.heap) (t':=t) Un.refl I.hok
theorem Inv.kept {t':Nat} (I:Inv X pins σ H s) (k:∀ b u,s.heap.get? b = some u→h'.get? b = some u):Inv X pins σ H { s with heap:=h',toks:=t' }:=I.un (Un.kept k) (I.hok.kept k)
theorem Inv.laid {a:Addr} {o:HO} {t':Nat} (I:Inv X pins σ H s) (k:∀ b u,s.heap.get? b = some u→h'.get? b = some u) (hp:s.heap.objs.size <= a) (new:ObjOk X.prog X.w (upd H a o) h' a o) :
  Inv X pins σ (upd H a o) { s with heap:=h',toks:=t' }:=I.un (Un.laid k hp (I.hok.fresh hp)) (I.hok.laid k hp new)
theorem Inv.write {x e:Addr} {o:HO} {t':Nat} (I:Inv X pins σ H s) (mu:Mut (H x)) (he:e = x\/H e = some (.own x)) (k:∀ b u,b ≠ e→s.heap.get? b = some u→h'.get? b = some u) (heo:∃ u,h'.get? e = some u)
  (new:ObjOk X.prog X.w (upd H x o) h' x o):Inv X pins σ (upd H x o) { s with heap:=h',toks:=t' }:=I.un (Un.write mu he k heo) (I.hok.write mu he k heo new)
theorem Inv.pins_of {pins':List (Addr × Obj)} (I:Inv X pins σ H s) (h:∀ p ∈ pins',s.heap.get? p.1 = some p.2/\H p.1 = none/\p.1 ≠ X.env.locals/\p.1 ∉ X.fs/\∀ v,p.2.data ≠ .cell v):Inv X pins' σ H s :=
 ⟨I.ok,I.os,I.bare,I.base,I.loc,I.cell,I.free,I.freeC,fun p hp=>(List.mem_append.mp hp).elim (fun z=>I.pin p (List.mem_append_left _ z)) (h p),I.hok,I.len⟩
theorem Zlb {N:List Str} (hN:N.Nodup) {i j:Nat} {x:Str} (a:N[i]? = some x) (b:N[j]? = some x):i = j:=by
 obtain ⟨h1,e1⟩:=List.getElem?_eq_some_iff.mp a
 obtain ⟨h2,e2⟩:=List.getElem?_eq_some_iff.mp b
 exact (List.getElem_inj hN).mp (e1.trans e2.symm)
theorem Zjd {M:Model} {A:Around} {E:Value→Shared→Prop} {i:Nat} {x:Str} {v:V} {u:Value} {Q:Unit→Shared→Prop} (I:Inv X pins σ H s) (hN:X.N.Nodup) (hi:X.N[i]? = some x) (hx:Loc X.env.scope x) (r:RelV v u)
  (h:∀ s',Inv X pins (σ.set i (some v)) H s'→(∃ a,Heap.SameBut a s.heap s'.heap/\(a = X.env.locals\/X.env.cells.lookup x = some a))→Q () s') (hf:X.fn x = true\/X.env.scope.names.lookup x = some .local:=by first | exact .inl rfl | exact .inr rfl | assumption):wpAny M A (storeName X.env x u) Q E s:=by
 obtain ⟨m,hn,hl⟩:=id I.loc
 have hcls:(X.env.scope.kind == .class || (X.env.scope.kind == .module && X.env.locals != X.env.globals)) = false:=by rw [I.ok.kind]; rfl
 have hiσ:i < σ.length:=by rw [I.len]; exact (List.getElem?_eq_some_iff.mp hi).1
 have cne:=I.cne
 have tracked:∀ {a:Addr} {h':Heap},(∃ o,s.heap.get? a = some o/\H a = none)→Heap.SameBut a s.heap h'→HOk X.prog X.w H h':=fun {a h'} ha hs b ob e=>by
  obtain ⟨_,_,hfree⟩:=ha
  refine (I.hok b ob e).stay (fun c w' hc q=>(hs.2 c ?_).trans q) (fun _ q=>q) fun _ _ q=>q
  rintro rfl
  rcases hc with rfl | hc
  .rw [hfree] at e; cases e
  .rw [hfree] at hc; cases hc
 rcases hx with hk | hk
 .refine wpAny_storeName_local hk hn (fun h' hn' hs=>?_) hcls
  obtain ⟨oL,_,_,hoL,_⟩:=id hn
  refine h _ ⟨I.ok,I.os,I.bare,⟨fun b o e n hb hx=>?_,fun b o e n hb hx=>?_,I.base.free,fun b o e hx=>?_,I.base.tups,I.base.frzs,I.base.tbls⟩,⟨_,hn',fun j y v' e1 e2 e3=>?_⟩,fun y c e=>?_,I.free,I.freeC,fun p hp=>?_,tracked ⟨oL,hoL,I.free⟩ hs,by simpa using I.len⟩ ⟨_,hs,.inl rfl⟩
  .exact (hs.2 b (Nat.ne_of_lt (Nat.lt_of_lt_of_le (Heap.lt_size e) I.ok.above))).trans (I.base.keep b o e n hb hx)
  .obtain ⟨sl,e1⟩:=I.base.slot b o e n hb hx
   exact ⟨sl,(hs.2 b (Nat.ne_of_lt (Nat.lt_of_lt_of_le (Heap.lt_size e) I.ok.above))).trans e1⟩
  .obtain ⟨o',e1⟩:=I.base.there b o e hx
   exact ⟨o',(hs.2 b (Nat.ne_of_lt (Nat.lt_of_lt_of_le (Heap.lt_size e) I.ok.above))).trans e1⟩
  .by_cases hj:j = i
   .subst hj
    rw [hi] at e1; cases e1
    rw [List.getElem?_set_self hiσ] at e2
    cases e2
    exact ⟨u,r,.inl ⟨hk,by simp⟩⟩
   .rw [List.getElem?_set_ne (Ne.symm hj)] at e2
    obtain ⟨u',r',q⟩:=hl j y v' e1 e2 e3
    refine ⟨u',r',?_⟩
    rcases q with ⟨k,e⟩ | ⟨k,c,e,z⟩
    .refine .inl ⟨k,?_⟩
     have:y ≠ x:=fun e=>hj (Zlb hN e1 (e ▸ hi))
     simp [this,e]
    .exact .inr ⟨k,c,e,z.sameBut hs (cne y c e)⟩
  .obtain ⟨w',z⟩:=I.cell y c e
   exact ⟨w',z.sameBut hs (cne y c e)⟩
  .obtain ⟨e,n,ne,nf,d⟩:=I.pin p hp
   exact ⟨(hs.2 p.1 ne).trans e,n,ne,nf,d⟩
 .have hfn:X.fn x = true:=by
   rcases hf with z | z
   .exact z
   .rw [z] at hk; cases hk
  obtain ⟨c,hc⟩:=I.ok.has x (.inl hk)
  obtain ⟨w',z⟩:=I.cell x c hc
  refine wpAny_storeName_cell I.ok.kind hk hc z (fun h' hc' hs=>?_)
  obtain ⟨oc,hoc,hocd⟩:=id z
  refine h { s with heap:=h' } ⟨I.ok,I.os,I.bare,⟨fun b o e n hb hx=>?_,fun b o e n hb hx=>?_,I.base.free,fun b o e hx=>?_,I.base.tups,I.base.frzs,I.base.tbls⟩,⟨m,hn.sameBut hs (Ne.symm (cne x c hc)),fun j y v' e1 e2 e3=>?_⟩,fun y c' e=>?_,I.free,I.freeC,fun p hp=>?_,tracked ⟨oc,hoc,I.freeC x c hc⟩ hs,by simpa using I.len⟩ ⟨c,hs,.inr hc⟩
  .exact (hs.2 b (Nat.ne_of_lt (Nat.lt_of_lt_of_le (Heap.lt_size e) (I.ok.cab x c hfn hc)))).trans (I.base.keep b o e n hb hx)
  .obtain ⟨sl,e1⟩:=I.base.slot b o e n hb hx
   exact ⟨sl,(hs.2 b (Nat.ne_of_lt (Nat.lt_of_lt_of_le (Heap.lt_size e) (I.ok.cab x c hfn hc)))).trans e1⟩
  .obtain ⟨o',e1⟩:=I.base.there b o e hx
   exact ⟨o',(hs.2 b (Nat.ne_of_lt (Nat.lt_of_lt_of_le (Heap.lt_size e) (I.ok.cab x c hfn hc)))).trans e1⟩
  .by_cases hj:j = i
   .subst hj
    rw [hi] at e1; cases e1
    rw [List.getElem?_set_self hiσ] at e2
    cases e2
    exact ⟨u,r,.inr ⟨.inl hk,c,hc,hc'⟩⟩
   .rw [List.getElem?_set_ne (Ne.symm hj)] at e2
    obtain ⟨u',r',q⟩:=hl j y v' e1 e2 e3
    refine ⟨u',r',?_⟩
    rcases q with q | ⟨k,c',e,z'⟩
    .exact .inl q
    .refine .inr ⟨k,c',e,z'.sameBut hs ?_⟩
     rintro rfl
     exact hj (Zlb hN e1 (I.ok.inj _ _ _ e hc ▸ hi))
  .by_cases hcc:c' = c
   .subst hcc; exact ⟨_,hc'⟩
   .obtain ⟨w2,z2⟩:=I.cell y c' e
    exact ⟨w2,z2.sameBut hs hcc⟩
  .obtain ⟨e,n,ne,nf,d⟩:=I.pin p hp
   refine ⟨(hs.2 p.1 ?_).trans e,n,ne,nf,d⟩
   intro q
   rw [q,hoc] at e
   have q':oc = p.2:=Option.some.inj e
   exact d w' (by rw [<- q']; exact hocd)
theorem Zei {M:Model} {A:Around} {E:Value→Shared→Prop} {i:Nat} {x:Str} {v:V} {u:Value} {Q:Unit→Shared→Prop} (I:Inv X pins σ H s) (hN:X.N.Nodup) (hi:X.N[i]? = some x) (hx:Loc X.env.scope x) (r:RelV v u)
  (h:∀ s',Inv X pins (σ.set i (some v)) H s'→Q () s') (hf:X.fn x = true\/X.env.scope.names.lookup x = some .local:=by first | exact .inl rfl | exact .inr rfl | assumption):wpAny M A (storeName X.env x u) Q E s :=
 Zjd I hN hi hx r (fun s' I' _=>h s' I') hf
theorem Inv.call' {s':Shared} {ch:List Addr} (I:Inv X pins σ H s) (ho:s'.os = s.os) (u:Un (frs X.stack) ch H H' s.heap s'.heap) (hok:HOk X.prog X.w H' s'.heap) (hg:AllBare s'.gens)
  (hch:∀ b ∈ ch,(b ∈ X.ex\/X.s₀.heap.objs.size <= b)/\b ≠ X.env.locals/\(∀ x c,X.env.cells.lookup x = some c→c ≠ b)/\∀ p ∈ X.pn ++ pins,p.1 ≠ b):Inv X pins σ H' s':=by
 obtain ⟨h',g',d',t',o'⟩:=s'
 have e:o' = s.os:=ho
 subst e
 exact I.call (g':=g') (t':=t') (d':=d') u hok hg hch
end
abbrev XK:=Value→Option Addr→Hp→Prop
abbrev St:=List (Option V)
abbrev VK:=V→Hp→Prop
abbrev TE:=St→Hp→VK→Prop
abbrev TT:=St→Hp→(Bool→Hp→Prop)→Prop
abbrev TA:=St→Hp→(List V→Hp→Prop)→Prop
set_option genInjectivity false in
structure Ends where
 nx:St→Hp→Prop
 rt:VK
 bk:St→Hp→Prop:=fun _ _=>False
 ct:St→Hp→Prop:=fun _ _=>False
abbrev TS:=Ends→St→Hp→Prop
def EP (X:Cx) (pins:List (Addr × Obj)) (σ:St) (Q:VK) (u:Value) (s':Shared):Prop:=∃ v H',Inv X pins σ H' s'/\RelV v u/\Q v H'
def TP (X:Cx) (pins:List (Addr × Obj)) (σ:St) (Q:Bool→Hp→Prop) (b:Bool) (s':Shared):Prop:=∃ H',Inv X pins σ H' s'/\Q b H'
def AP (X:Cx) (pins:List (Addr × Obj)) (σ:St) (Q:List V→Hp→Prop) (us:List Value) (s':Shared):Prop:=∃ vs H',Inv X pins σ H' s'/\Vals vs us/\Q vs H'
def SP (X:Cx) (pins:List (Addr × Obj)) (D:Ends) (f:Flow) (s':Shared):Prop :=
 match f with
 | .next=>∃ σ' H',Inv X pins σ' H' s'/\D.nx σ' H'
 | .brk=>∃ σ' H',Inv X pins σ' H' s'/\D.bk σ' H'
 | .cont=>∃ σ' H',Inv X pins σ' H' s'/\D.ct σ' H'
 | .ret u=>∃ v σ' H',Inv X pins σ' H' s'/\RelV v u/\D.rt v H'
def PE (X:Cx) (e:Expr) (t:TE):Prop :=
 ∀ (pins:List (Addr × Obj)) (s:Shared) (σ:St) (H:Hp) (Q:VK),Inv X pins σ H s→t σ H Q→wpAny (model X.prog X.w) X.A (eval e X.env) (EP X pins σ Q) X.xe s
def PT (X:Cx) (e:Expr) (t:TT):Prop :=
 ∀ (pins:List (Addr × Obj)) (s:Shared) (σ:St) (H:Hp) (Q:Bool→Hp→Prop),Inv X pins σ H s→t σ H Q→wpAny (model X.prog X.w) X.A (isTrue e X.env (eval e X.env)) (TP X pins σ Q) X.xe s
def PW (X:Cx) (e:Expr) (t:TT):Prop :=
 ∀ (whole:Sem Value) (pins:List (Addr × Obj)) (s:Shared) (σ:St) (H:Hp) (Q:Bool→Hp→Prop),Inv X pins σ H s→t σ H Q→wpAny (model X.prog X.w) X.A (isTrue e X.env whole) (TP X pins σ Q) X.xe s
theorem PW.pt {X:Cx} {e:Expr} {t:TT} (h:PW X e t):PT X e t:=h _
def PA (X:Cx) (es:List Expr) (t:TA):Prop :=
 ∀ (pos:Pos) (pins:List (Addr × Obj)) (s:Shared) (σ:St) (H:Hp) (Q:List V→Hp→Prop),Inv X pins σ H s→t σ H Q→wpAny (model X.prog X.w) X.A (spliced (backTo pos (starEach es X.env))) (AP X pins σ Q) X.xe s
def PS (X:Cx) (st:Stmt) (t:TS):Prop :=
 ∀ (pins:List (Addr × Obj)) (s:Shared) (σ:St) (H:Hp) (D:Ends),Inv X pins σ H s→t D σ H→wpAny (model X.prog X.w) X.A (exec st X.env) (SP X pins D) X.xe s
def PSs (X:Cx) (st:List Stmt) (t:TS):Prop :=
 ∀ (pins:List (Addr × Obj)) (s:Shared) (σ:St) (H:Hp) (D:Ends),Inv X pins σ H s→t D σ H→wpAny (model X.prog X.w) X.A (execs st X.env) (SP X pins D) X.xe s
theorem thn {α:Type} {t:Sem α} {Q Q':α→Shared→Prop} {M:Model} {A:Around} {E:Value→Shared→Prop} {s:Shared} (h:wpAny M A t Q E s) (hQ:∀ a s,Q a s→Q' a s):wpAny M A t Q' E s:=wpAny_mono h hQ fun _ _ x=>x
end L2
namespace L2
open PySem PySem.Spec PyProof.Rows
section
variable {X:Cx}
def Z8y (i:Nat):TE:=fun σ H Q=>∃ v,σ[i]? = some (some v)/\Q v H
def tC (v:V):TE:=fun _ H Q=>Q v H
theorem Zzw {i:Nat} {x:Str} {pos:Pos} (hN:X.N[i]? = some x) (hv:Vis X.env.scope x) (hd:(x == ("__debug__" : Str)) = false:=by decide) (hcd:(x == ("__classdict__" : Str)) = false:=by decide):PE X (.Name x pos) (Z8y i):=by
 intro pins s σ H Q I h
 obtain ⟨v,e,h⟩:=h
 obtain ⟨m,hn,hl⟩:=I.loc
 obtain ⟨u,r,l⟩:=hl i x v hN e hv
 have fin:EP X pins σ Q u s:=⟨v,H,I,r,h⟩
 rcases l with ⟨hk,hm⟩ | ⟨hk,c,hc,hcell⟩
 .exact wpAny_Name (wpAny_loadName_local I.ok.kind hk hn hm fin) hd
 .rcases hk with hk | hk
  .exact wpAny_Name (wpAny_loadName_cell I.ok.kind hk hc hcell fin) hd
  .exact wpAny_Name (wpAny_loadName_free I.ok.kind hk hc hcell fin hcd) hd
theorem Zvm {i j pos}:PE X (.Constant (.int i) j pos) (tC (.int i)):=fun _ _ _ H _ I h=>wpAny_Constant_int ⟨.int i,H,I.tok _,⟨_,rfl⟩,h⟩
theorem Z7w {b j pos}:PE X (.Constant (.bool b) j pos) (tC (.bl b)):=fun _ _ _ H _ I h=>Constant_bool ⟨.bl b,H,I,rfl,h⟩
theorem Z0n {j pos}:PE X (.Constant .none j pos) (tC .non):=fun _ _ _ H _ I h=>Constant_none ⟨.non,H,I,rfl,h⟩
theorem Z3m {x j pos}:PE X (.Constant (.str x) j pos) (tC (.str x)):=fun _ _ _ H _ I h=>Calls.Constant_str ⟨.str x,H,I.tok _,⟨_,rfl⟩,h⟩
def Gl (X:Cx) (x:Str):Prop:=X.env.kindOf x = some .globalImplicit
theorem Znj {E:Value→Shared→Prop} {pins:List (Addr × Obj)} {s:Shared} {σ:St} {H:Hp} {x:Str} {u:Value} {pos:Pos} {Q:Value→Shared→Prop} (I:Inv X pins σ H s) (hg:Gl X x) (hm:X.mg x = some u) (h:Q u s)
  (hd:(x == ("__debug__" : Str)) = false:=by decide):wpAny (model X.prog X.w) X.A (eval (.Name x pos) X.env) Q E s :=
 Calls.Name_function_global I.ok.kind hg (Calls.loadGlobal_global (by rw [I.ok.glob]; exact I.mod.glob.keeps I.bk) hm h) hd
theorem Zib {E:Value→Shared→Prop} {pins:List (Addr × Obj)} {s:Shared} {σ:St} {H:Hp} {x:Str} {u:Value} {pos:Pos} {Q:Value→Shared→Prop} (I:Inv X pins σ H s) (hg:Gl X x) (hm:X.mg x = none) (hv:bootBuiltins x = some u) (h:Q u s)
  (hn:x ≠ "__name__" := by decide) (hd:(x == ("__debug__" : Str)) = false:=by decide):wpAny (model X.prog X.w) X.A (eval (.Name x pos) X.env) Q E s:=by
 obtain ⟨mb,h1,h2⟩:=I.mod.blt
 exact Calls.Name_function_global I.ok.kind hg (Calls.loadGlobal_builtin (by rw [I.ok.glob]; exact I.mod.glob.keeps I.bk) hm (by rw [I.ok.blt]; exact h1.keeps I.bk) ((h2 x hn).trans hv) h) hd
theorem Zon {x:Str} {v:V} {u:Value} {pos:Pos} (hg:Gl X x) (hm:X.mg x = some u) (r:RelV v u) (hd:(x == ("__debug__" : Str)) = false:=by decide):PE X (.Name x pos) (tC v) :=
 fun _ _ _ H _ I h=>Znj I hg hm ⟨v,H,I,r,h⟩ hd
theorem Zy7 {x:Str} {v:V} {u:Value} {pos:Pos} (hg:Gl X x) (hm:X.mg x = none) (hv:bootBuiltins x = some u) (r:RelV v u) (hn:x ≠ "__name__" := by decide) (hd:(x == ("__debug__" : Str)) = false:=by decide):PE X (.Name x pos) (tC v) :=
 fun _ _ _ H _ I h=>Zib I hg hm hv ⟨v,H,I,r,h⟩ hn hd
def t2I (ta tb:TE) (k:Int→Int→Hp→Prop):St→Hp→Prop:=fun σ H=>ta σ H fun x H1=>tb σ H1 fun y H2=>∃ i j,x = .int i/\y = .int j/\k i j H2
variable {a b:Expr} {ta tb:TE} {pos:Pos}
def Zzi (p:Int→Int→Bool) (ta tb:TE):TE:=fun σ H Q=>t2I ta tb (fun i j H2=>Q (.bl (p i j)) H2) σ H
abbrev tLt:TE→TE→TE:=Zzi fun i j=>decide (i < j)
abbrev tLe:TE→TE→TE:=Zzi fun i j=>decide (i <= j)
abbrev tGt:TE→TE→TE:=Zzi fun i j=>decide (j < i)
abbrev tGe:TE→TE→TE:=Zzi fun i j=>decide (j <= i)
abbrev Ydc:TE→TE→TE:=Zzi fun i j=>decide (i = j)
abbrev Yde:TE→TE→TE:=Zzi fun i j=>!decide (i = j)
def tB (t:TE):TT:=fun σ H Q=>t σ H fun x H1=>∃ c,x = .bl c/\Q c H1
variable {tA tB':TT} {rest:List Expr}
def Ybh (t u:TT):TT:=fun σ H Q=>t σ H fun c H1=>if c = true then u σ H1 Q else Q false H1
def tOr (t u:TT):TT:=fun σ H Q=>t σ H fun c H1=>if c = true then Q true H1 else u σ H1 Q
def Ycy (t:TT):TT:=fun σ H Q=>t σ H fun c H1=>Q (!c) H1
theorem Zw1 (ha:PT X a tA):PW X (.BoolOp .And [a] pos) tA:=by
 intro wh pins s σ H Q I h
 refine isTrue_and (thn (ha pins s σ H Q I h) fun c s1 e=>?_)
 cases c with
 | true=>exact isTrue_and_nil e
 | false=>exact e
theorem Z31 (ha:PT X a tA):PW X (.BoolOp .Or [a] pos) tA:=by
 intro wh pins s σ H Q I h
 refine isTrue_or (thn (ha pins s σ H Q I h) fun c s1 e=>?_)
 cases c with
 | false=>exact isTrue_or_nil e
 | true=>exact e
theorem Z2z (ha:PT X a tA) (hb:PW X (.BoolOp .And (b :: rest) pos) tB'):PW X (.BoolOp .And (a :: b :: rest) pos) (Ybh tA tB'):=by
 intro wh pins s σ H Q I h
 refine isTrue_and (thn (ha pins s σ H _ I h) fun c s1 qz9=>?_)
 obtain ⟨H1,I1,q1⟩:=qz9
 cases c with
 | true=>exact hb wh pins s1 σ H1 Q I1 q1
 | false=>exact ⟨H1,I1,q1⟩
theorem Z76 (ha:PT X a tA) (hb:PW X (.BoolOp .Or (b :: rest) pos) tB'):PW X (.BoolOp .Or (a :: b :: rest) pos) (tOr tA tB'):=by
 intro wh pins s σ H Q I h
 refine isTrue_or (thn (ha pins s σ H _ I h) fun c s1 qz9=>?_)
 obtain ⟨H1,I1,q1⟩:=qz9
 cases c with
 | true=>exact ⟨H1,I1,q1⟩
 | false=>exact hb wh pins s1 σ H1 Q I1 q1
theorem Z0a (ha:PT X a tA):PT X (.UnaryOp .Not a pos) (Ycy tA):=by
 intro pins s σ H Q I h
 exact isTrue_not (ha pins s σ H (fun c H1=>Q (!c) H1) I h)
def Z5z (ta tb:TE):TE:=fun σ H Q=>ta σ H fun x H1=>∃ c,x = .bl c/\if c = true then tb σ H1 Q else Q (.bl false) H1
def Ybu (ta tb:TE):TE:=fun σ H Q=>ta σ H fun x H1=>∃ c,x = .bl c/\if c = true then Q (.bl true) H1 else tb σ H1 Q
def Z59 (ta:TE):TE:=fun σ H Q=>ta σ H fun x H1=>∃ c,x = .bl c/\Q (.bl (!c)) H1
theorem Z03 {op} {t:TE} (h:PE X a t):PE X (.BoolOp op [a] pos) t:=fun pins s σ H Q I hw=>BoolOp_one (h pins s σ H Q I hw)
theorem Z14 (ha:PE X a ta) (hb:PE X (.BoolOp .And (b :: rest) pos) tb):PE X (.BoolOp .And (a :: b :: rest) pos) (Z5z ta tb):=by
 intro pins s σ H Q I h
 refine BoolOp_and (thn (ha pins s σ H _ I h) fun v s1 qz9=>?_)
 obtain ⟨x,H1,I1,r1,q1⟩:=qz9
 obtain ⟨c,rfl,q1⟩:=q1
 cases r1
 refine wpAny_truthy_bool ?_
 cases c with
 | true=>exact hb pins s1 σ H1 Q I1 q1
 | false=>exact ⟨.bl false,H1,I1,rfl,q1⟩
theorem Z6j (ha:PE X a ta) (hb:PE X (.BoolOp .Or (b :: rest) pos) tb):PE X (.BoolOp .Or (a :: b :: rest) pos) (Ybu ta tb):=by
 intro pins s σ H Q I h
 refine BoolOp_or (thn (ha pins s σ H _ I h) fun v s1 qz9=>?_)
 obtain ⟨x,H1,I1,r1,q1⟩:=qz9
 obtain ⟨c,rfl,q1⟩:=q1
 cases r1
 refine wpAny_truthy_bool ?_
 cases c with
 | false=>exact hb pins s1 σ H1 Q I1 q1
 | true=>exact ⟨.bl true,H1,I1,rfl,q1⟩
theorem Z39 (ha:PE X a ta):PE X (.UnaryOp .Not a pos) (Z59 ta):=by
 intro pins s σ H Q I h
 refine UnaryOp_ (thn (ha pins s σ H _ I h) fun v s1 qz9=>?_)
 obtain ⟨x,H1,I1,r1,q1⟩:=qz9
 obtain ⟨c,rfl,q1⟩:=q1
 cases r1
 exact not_of (wpAny_truthy_bool ⟨.bl (!c),H1,I1,rfl,q1⟩)
def tIf (t:TT) (ta tb:TE):TE:=fun σ H Q=>t σ H fun c H1=>if c = true then ta σ H1 Q else tb σ H1 Q
theorem Ztj {c:Expr} (hc:PT X c tA) (ha:PE X a ta) (hb:PE X b tb):PE X (.IfExp c a b pos) (tIf tA ta tb):=by
 intro pins s σ H Q I h
 refine wpAny_IfExp (thn (hc pins s σ H _ I h) fun d s1 qz9=>?_)
 obtain ⟨H1,I1,q1⟩:=qz9
 cases d with
 | true=>exact ha pins s1 σ H1 Q I1 q1
 | false=>exact hb pins s1 σ H1 Q I1 q1
end
end L2
namespace L2
open PySem PySem.Spec PyProof.Rows
def SqL (K:PySem.W.Frag) (H:Hp) (a:Addr) (xs:List V):Prop :=
 Rd H a (.lst xs) \/
  ∃ (o:Obj) (its:Array Value) (n:Nat),K.lookup a = some o/\o.cls = .type "list" /\ o.dict = none/\o.data = .seq its n/\its.size <= sizeLine/\Vals xs its.toList
def SqT (K:PySem.W.Frag) (H:Hp) (a:Addr) (xs:List V):Prop :=
 Rd H a (.tup xs) \/
  ∃ (o:Obj) (its:Array Value) (n:Nat),K.lookup a = some o/\o.cls = .type "tuple" /\ o.data = .seq its n/\its.size <= sizeLine/\Vals xs its.toList
def Yb7:Value→Option V
 | .none=>some .non
 | .bool b=>some (.bl b)
 | .int i _=>some (.int i)
 | .str x _=>some (.str x)
 | .bytes b _=>some (.byt b)
 | .float b _=>some (.flt b)
 | .ref a=>some (.ref a)
 | .type n=>some (.ty n)
 | _=>none
theorem RelV.abs {x:V} {u:Value} (r:RelV x u):Yb7 u = some x:=by
 cases x with
 | non=>cases r; rfl
 | bl _=>cases r; rfl
 | int _=>obtain ⟨t,rfl⟩:=r; rfl
 | str _=>obtain ⟨t,rfl⟩:=r; rfl
 | byt _=>obtain ⟨t,rfl⟩:=r; rfl
 | flt _=>obtain ⟨t,rfl⟩:=r; rfl
 | ref _=>cases r; rfl
 | ty _=>cases r; rfl
theorem RelV.inj {x y:V} {u:Value} (r:RelV x u) (q:RelV y u):x = y:=Option.some.inj (r.abs.symm.trans q.abs)
theorem Vals.inj {xs ys:List V} {us:List Value} (h:Vals xs us) (k:Vals ys us):xs = ys:=by
 induction h generalizing ys with
 | nil=>cases k; rfl
 | cons r t ih =>
  cases k with
  | cons r' t'=>rw [r.inj r',ih t']
section
variable {X:Cx} {pins:List (Addr × Obj)} {σ:St} {H:Hp} {s:Shared} {a:Addr} {xs ys:List V}
theorem Inv.list (I:Inv X pins σ H s) (h:SqL X.K H a xs):∃ its:List Value,Vals xs its/\PlainL s.heap a its.toArray/\xs.length <= sizeLine:=by
 rcases h with h | ⟨o,its,n,hk,hc,hd,hs,hz,r⟩
 .obtain ⟨z,its,n,r,e⟩:=h.ok I.hok
  exact ⟨its,r,⟨_,n,e,rfl,rfl,rfl⟩,z⟩
 .refine ⟨its.toList,r,⟨o,n,I.kIn a o hk,hc,hd,by simpa using hs⟩,?_⟩
  have e:=r.length
  simp only [Array.length_toList] at e
  omega
theorem Inv.tuple (I:Inv X pins σ H s) (h:SqT X.K H a xs):∃ its:List Value,Vals xs its/\IsTup s.heap a its.toArray/\xs.length <= sizeLine:=by
 rcases h with h | ⟨o,its,n,hk,hc,hs,hz,r⟩
 .obtain ⟨z,its,r,p⟩:=h.ok I.hok
  exact ⟨its,r,p,z⟩
 .refine ⟨its.toList,r,⟨o,I.kIn a o hk,hc,n,by simpa using hs⟩,?_⟩
  have e:=r.length
  simp only [Array.length_toList] at e
  omega
theorem Inv.list_inj (I:Inv X pins σ H s) (h:SqL X.K H a xs) (h':SqL X.K H a ys):xs = ys:=by
 obtain ⟨its,r,⟨o,n,e,_,_,d⟩,_⟩:=I.list h
 obtain ⟨its',r',⟨o',n',e',_,_,d'⟩,_⟩:=I.list h'
 rw [e] at e'; cases e'
 rw [d] at d'
 injection d' with d1 _
 have:its = its':=by simpa using congrArg Array.toList d1
 subst this
 exact r.inj r'
end
abbrev Cx.wish (X:Cx) (E:Value→Shared→Prop):Cx:={ X with xe:=E }
abbrev Cx.nox (X:Cx):Cx:=X.wish fun _ _=>False
theorem Cx.Ok.wish {X:Cx} (ok:X.Ok) (E:Value→Shared→Prop):(X.wish E).Ok :=
 ⟨ok.mod,ok.kind,ok.glob,ok.blt,ok.above,ok.inj,ok.has,ok.cab,ok.hd,ok.frames,ok.stk,ok.exf,ok.bs,ok.bsz,ok.noex,ok.exfs,ok.funs,ok.frf⟩
theorem Cx.Ok.unwish {X:Cx} {E:Value→Shared→Prop} (ok:(X.wish E).Ok):X.Ok :=
 ⟨ok.mod,ok.kind,ok.glob,ok.blt,ok.above,ok.inj,ok.has,ok.cab,ok.hd,ok.frames,ok.stk,ok.exf,ok.bs,ok.bsz,ok.noex,ok.exfs,ok.funs,ok.frf⟩
section
variable {X:Cx} {pins:List (Addr × Obj)} {σ:St} {H:Hp} {s:Shared} {E:Value→Shared→Prop}
theorem Inv.wish (I:Inv X pins σ H s) (E:Value→Shared→Prop):Inv (X.wish E) pins σ H s:=⟨I.ok.wish E,I.os,I.bare,I.base,I.loc,I.cell,I.free,I.freeC,I.pin,I.hok,I.len⟩
theorem Inv.unwish (I:Inv (X.wish E) pins σ H s):Inv X pins σ H s:=⟨I.ok.unwish,I.os,I.bare,I.base,I.loc,I.cell,I.free,I.freeC,I.pin,I.hok,I.len⟩
theorem SP.unwish {D:Ends} {f:Flow} {s':Shared} (h:SP (X.wish E) pins D f s'):SP X pins D f s':=by
 cases f with
 | next=>obtain ⟨σ',H',I,q⟩:=h; exact ⟨σ',H',I.unwish,q⟩
 | brk=>obtain ⟨σ',H',I,q⟩:=h; exact ⟨σ',H',I.unwish,q⟩
 | cont=>obtain ⟨σ',H',I,q⟩:=h; exact ⟨σ',H',I.unwish,q⟩
 | ret u=>obtain ⟨v,σ',H',I,r,q⟩:=h; exact ⟨v,σ',H',I.unwish,r,q⟩
theorem PSs.nox {st:List Stmt} {t:TS} (h:PSs X.nox st t):PSs X st t:=fun pins s σ H D I hw =>
 wpAny_mono (h pins s σ H D (I.wish _) hw) (fun _ _ q=>q.unwish) fun _ _ z=>False.elim z
end
section
variable {X:Cx} {st:Stmt} {rest:List Stmt} {t u:TS} {e:Expr} {te:TE} {pos:Pos}
def Z7o:TS:=fun D σ H=>D.nx σ H
def Ybm (t u:TS):TS:=fun D σ H=>t { D with nx:=u D } σ H
theorem Zza:PSs X [] Z7o:=fun _ _ σ H _ I h=>wpAny_execs_nil ⟨σ,H,I,h⟩
theorem Zs0 (h1:PS X st t) (h2:PSs X rest u):PSs X (st :: rest) (Ybm t u):=by
 intro pins s σ H D I h
 refine wpAny_execs_cons (thn (h1 pins s σ H { D with nx:=u D } I h) fun f s1 q=>?_)
 cases f with
 | next =>
  obtain ⟨σ',H',I',q⟩:=q
  exact h2 pins s1 σ' H' D I' q
 | ret v=>exact q
 | brk=>exact q
 | cont=>exact q
theorem Zqa (h1:PS X st t):PSs X [st] t:=by
 intro pins s σ H D I h
 refine wpAny_execs_cons (thn (h1 pins s σ H D I h) fun f s1 q=>?_)
 cases f with
 | next=>exact wpAny_execs_nil q
 | ret v=>exact q
 | brk=>exact q
 | cont=>exact q
theorem Inv.quiet {pins:List (Addr × Obj)} {σ:St} {H:Hp} {s:Shared} (I:Inv X pins σ H s):interactive X.env = false:=by simp [interactive,I.ok.kind]
def Z62 (te:TE):TS:=fun D σ H=>te σ H fun _ H1=>D.nx σ H1
theorem Zke (he:PE X e te) (hs:swapsWith e none pos.line X.env = pure false:=by rfl):PS X (.Expr e pos) (Z62 te):=by
 intro pins s σ H D I h
 refine wpAny_Expr_any (thn (he pins s σ H _ I h) fun v s1 qz9=>?_) I.quiet hs
 obtain ⟨x,H1,I1,r1,q1⟩:=qz9
 exact ⟨σ,H1,I1,q1⟩
def Ycj (te:TE):TS:=fun D σ H=>te σ H D.rt
theorem Zuq (he:PE X e te):PS X (.Return (some e) pos) (Ycj te):=by
 intro pins s σ H D I h
 refine wpAny_Return_some (thn (he pins s σ H _ I h) fun v s1 qz9=>?_)
 obtain ⟨x,H1,I1,r1,q1⟩:=qz9
 exact ⟨x,σ,H1,I1,r1,q1⟩
def Yc4 (c:TT) (t u:TS):TS:=fun D σ H=>c σ H fun b H1=>if b = true then t D σ H1 else u D σ H1
theorem Z79 {c:Expr} {a b:List Stmt} {tc:TT} (hc:PT X c tc) (ha:PSs X a t) (hb:PSs X b u):PS X (.If c a b pos) (Yc4 tc t u):=by
 intro pins s σ H D I h
 refine wpAny_If (thn (hc pins s σ H _ I h) fun d s1 qz9=>?_)
 obtain ⟨H1,I1,q1⟩:=qz9
 cases d with
 | true=>exact ha pins s1 σ H1 D I1 q1
 | false=>exact hb pins s1 σ H1 D I1 q1
def Z4i:TS:=fun _ _ _=>False
theorem Ztq:PS X st Z4i:=fun _ _ _ _ _ _ h=>h.elim
end
abbrev TG:=V→St→Hp→(St→Hp→Prop)→Prop
abbrev TGs:=List V→St→Hp→(St→Hp→Prop)→Prop
def PG (X:Cx) (target:Expr) (t:TG):Prop :=
 ∀ (pins:List (Addr × Obj)) (s:Shared) (σ:St) (H:Hp) (v:V) (u:Value) (Q:St→Hp→Prop),Inv X pins σ H s→RelV v u→t v σ H Q →
  wpAny (model X.prog X.w) X.A (assign target X.env u) (fun _ s'=>∃ σ' H',Inv X pins σ' H' s'/\Q σ' H') X.xe s
def PGs (X:Cx) (ts:List Expr) (t:TGs):Prop :=
 ∀ (pins:List (Addr × Obj)) (s:Shared) (σ:St) (H:Hp) (vs:List V) (us:List Value) (Q:St→Hp→Prop),Inv X pins σ H s→Vals vs us→t vs σ H Q →
  wpAny (model X.prog X.w) X.A (assignInOrder ((assignEach ts X.env).map (·.2)) us) (fun _ s'=>∃ σ' H',Inv X pins σ' H' s'/\Q σ' H') X.xe s
abbrev Ydb:=V→V→V→Hp→(Hp→Prop)→Prop
abbrev TIp:=V→V→Hp→VK→Prop
section
variable {X:Cx} {pos:Pos}
def Zlx (i:Nat):TG:=fun v σ H Q=>Q (σ.set i (some v)) H
theorem Zjz {i:Nat} {x:Str} (hN:X.N.Nodup) (hi:X.N[i]? = some x) (hx:Loc X.env.scope x) (hf:X.fn x = true\/X.env.scope.names.lookup x = some .local:=by first | exact .inl rfl | exact .inr rfl | assumption):PG X (.Name x pos) (Zlx i):=by
 intro pins s σ H v u Q I r h
 exact wpAny_assign_Name (Zei I hN hi hx r (fun s' I'=>⟨_,H,I',h⟩) hf)
def Yc9:TGs:=fun vs σ H Q=>vs = []/\Q σ H
def Z7u (t:TG) (u:TGs):TGs:=fun vs σ H Q=>∃ v r,vs = v :: r/\t v σ H fun σ' H'=>u r σ' H' Q
theorem Zqf:PGs X [] Yc9:=by
 intro pins s σ H vs us Q I r h
 obtain ⟨e,h⟩:=h
 subst e
 cases r
 exact assignInOrder_nil ⟨σ,H,I,h⟩
theorem Zgz {e:Expr} {es:List Expr} {t:TG} {u:TGs} (h1:PG X e t) (h2:PGs X es u)
  (hs:(assignEach (e :: es) X.env).map (·.2) = assign e X.env :: (assignEach es X.env).map (·.2):=by rfl):PGs X (e :: es) (Z7u t u):=by
 intro pins s σ H vs us Q I r h
 obtain ⟨v,vr,e1,h⟩:=h
 subst e1
 cases r with
 | cons r rr =>
  rw [hs]
  refine assignInOrder_cons (thn (h1 pins s σ H _ _ _ I r h) fun _ s1 qz9=>?_)
  obtain ⟨σ1,H1,I1,q1⟩:=qz9
  exact h2 pins s1 σ1 H1 _ _ Q I1 rr q1
def Ycx (K:PySem.W.Frag) (n:Nat) (t:TGs):TG:=fun v σ H Q=>∃ a xs,v = .ref a/\SqT K H a xs/\xs.length = n/\t xs σ H Q
theorem Zu1 {es:List Expr} {k:Nat} {t:TGs} {n:Nat} (hc:X.calm = true) (h:PGs X es t)
  (hn:(assignEach es X.env).length = n:=by rfl) (hst:(assignEach es X.env).findIdx? (·.1) = none:=by rfl):PG X (.Tuple es k pos) (Ycx X.K n t):=by
 intro pins s σ H v u Q I r hw
 obtain ⟨a,xs,e1,hq,hl,hw⟩:=hw
 subst e1
 cases r
 obtain ⟨its,rv,ht,hz⟩:=I.tuple hq
 refine assign_Tuple_tuple (I.ok.hd hc) ht (by simp [hn,<- hl,rv.length]) hst fun h' hx=>?_
 have I1:Inv X pins σ H { s with heap:=h' }:=I.kept (t':=s.toks) fun b o e=>hx b o (Nat.ne_of_lt (Heap.lt_size e)) e
 exact h pins _ σ H xs _ Q I1 (by simpa using rv) hw
def Z1k (te:TE) (g:TG):TS:=fun D σ H=>te σ H fun x H1=>g x σ H1 D.nx
theorem Zn1 {i:Nat} {x:Str} {e:Expr} {te:TE} {pos':Pos} (hN:X.N.Nodup) (hi:X.N[i]? = some x) (hx:Loc X.env.scope x) (he:PE X e te) (hs:swapsWith e (some (.Name x pos')) pos.line X.env = pure false:=by rfl) (hf:X.fn x = true\/X.env.scope.names.lookup x = some .local:=by first | exact .inl rfl | exact .inr rfl | assumption) :
  PS X (.Assign [.Name x pos'] e pos) (Z1k te (Zlx i)):=by
 intro pins s σ H D I h
 refine wpAny_Assign_Name (thn (he pins s σ H _ I h) fun v s1 qz9=>?_) hs
 obtain ⟨y,H1,I1,r1,q1⟩:=qz9
 exact Zei I1 hN hi hx r1 (fun s2 I2=>⟨_,H1,I2,q1⟩) hf
def Ycz (i j:Nat) (ta:TA):TS:=fun D σ H=>ta σ H fun vs H1=>∃ v w,vs = [v,w]/\D.nx ((σ.set i (some v)).set j (some w)) H1
theorem Z1z {i j:Nat} {x y:Str} {a b:Expr} {ta:TA} {px py pt:Pos} {kt k2 pt2} (hc:X.calm = true) (hN:X.N.Nodup) (hi:X.N[i]? = some x) (hj:X.N[j]? = some y) (hij:i ≠ j)
  (hx:X.env.scope.names.lookup x = some .local) (hy:X.env.scope.names.lookup y = some .local) (ha:PA X [a,b] ta)
  (hw:swappedStores [.Tuple [.Name x px,.Name y py] kt pt] (.Tuple [a,b] k2 pt2) X.env = pure (some [x,y]))
  (hs:swapsWithSole [.Tuple [.Name x px,.Name y py] kt pt] (.Tuple [a,b] k2 pt2) pos.line X.env = pure false:=by rfl) :
  PS X (.Assign [.Tuple [.Name x px,.Name y py] kt pt] (.Tuple [a,b] k2 pt2) pos) (Ycz i j ta):=by
 intro pins s σ H D I h
 rw [exec_Assign_arm]
 refine wpAny_bind (wpAny_standAt ?_)
 rw [hs]
 refine wpAny_bind (wpAny_pure ?_)
 rw [if_neg (by decide)]
 refine wpAny_bind (Tuple_ (thn (ha _ pins s σ H _ I h) fun us s1 qz9=>?_))
 obtain ⟨vs,H1,I1,r1,q1⟩:=qz9
 obtain ⟨v,w,e1,q1⟩:=q1
 subst e1
 obtain ⟨u1,u2,rfl,rv,rw'⟩:∃ u1 u2,us = [u1,u2]/\RelV v u1/\RelV w u2:=by
  cases r1 with
  | cons p q =>
   cases q with
   | cons p' q' =>
    cases q'
    exact ⟨_,_,rfl,p,p'⟩
 refine wpAny_newObj_type ?_ (by show 2 <= sizeLine; decide)
 have I2:Inv X pins σ H1 { s1 with heap:=s1.heap.push { cls:=.type "tuple", data:=.seq [u1,u2].toArray } }:=I1.kept (t':=s1.toks) fun b o e=>Heap.get?_push_of_some _ e
 rw [hw]
 refine wpAny_bind (wpAny_pure ?_)
 show wpAny (model X.prog X.w) X.A (do rule "assign.swapped-stores"; let items <- unpackItems (.ref s1.heap.objs.size) 2 none; assignInOrder [fun v=>bindName X.env y v,fun v=>bindName X.env x v] items.reverse; pure Flow.next) _ _ _
 refine wpAny_bind (wpAny_rule (wpAny_bind (unpackItems_tuple (items:=#[u1,u2]) (I.ok.hd hc) (IsTup.new s1.heap _) fun h' hx'=>?_)))
 have I3:=I2.kept (h':=h') (t':=s1.toks) fun b o e=>hx' b o (Nat.ne_of_lt (Heap.lt_size e)) e
 show wpAny _ _ (assignInOrder [fun v=>bindName X.env y v,fun v=>bindName X.env x v] [u2,u1] >>= fun _=>pure Flow.next) _ _ _
 refine wpAny_bind (assignInOrder_cons (wpAny_bindName (Zei I3 hN hj (.inl hy) rw' (fun s2 I4=>?_) (.inr hy))))
 refine assignInOrder_cons (wpAny_bindName (Zei I4 hN hi (.inl hx) rv (fun s3 I5=>assignInOrder_nil (wpAny_pure ?_)) (.inr hx)))
 rw [List.set_comm _ _ (Ne.symm hij)] at I5
 exact ⟨_,H1,I5,q1⟩
end
section
variable {X:Cx} {pos:Pos}
def Z0c (c:TT) (tb:TS):TS:=fun D σ H=>∃ W:Nat→St→Hp→Prop,(∃ m,W m σ H)/\∀ m σ H,W m σ H →
 c σ H fun b H1=>if b = true then ∃ N:St→Hp→Prop,(∀ σ' H',N σ' H'→∃ m',m' < m/\W m' σ' H')/\tb { D with nx:=N,ct:=N,bk:=D.nx } σ H1 else D.nx σ H1
theorem Zti {c:Expr} {body:List Stmt} {tc:TT} {tb:TS} (hp:PassesOwn (model X.prog X.w) X.A X.env X.xe) (hc:PT X c tc) (hb:PSs X body tb):PS X (.While c body [] pos) (Z0c tc tb):=by
 intro pins s σ H D I h
 obtain ⟨W,⟨m0,w0⟩,turn⟩:=h
 refine wpAny_While (codeAny_whileLoop (fun n s'=>∃ σ' H',Inv X pins σ' H' s'/\W n σ' H') ?_ m0 ⟨σ,H,I,w0⟩)
 rintro n s1 ⟨σ1,H1,I1,w1⟩
 refine wpAny_passesOwn hp (thn (hc pins s1 σ1 H1 _ I1 (turn n σ1 H1 w1)) fun b s2 qz9=>?_)
 obtain ⟨H2,I2,q2⟩:=qz9
 cases b with
 | true =>
  obtain ⟨N,hN,q2⟩:=q2
  rw [if_pos rfl]
  refine wpAny_passesOwn hp (thn (hb pins s2 σ1 H2 _ I2 q2) fun f s3 q3=>?_)
  cases f with
  | next =>
   obtain ⟨σ3,H3,I3,n3⟩:=q3
   obtain ⟨m',hm,w3⟩:=hN σ3 H3 n3
   exact ⟨m',hm,σ3,H3,I3,w3⟩
  | cont =>
   obtain ⟨σ3,H3,I3,n3⟩:=q3
   obtain ⟨m',hm,w3⟩:=hN σ3 H3 n3
   exact ⟨m',hm,σ3,H3,I3,w3⟩
  | brk=>exact q3
  | ret v=>exact q3
 | false =>
  rw [if_neg Bool.false_ne_true]
  exact wpAny_execs_nil ⟨σ1,H2,I2,q2⟩
end
set_option genInjectivity false in
structure It where
 go:Nat→Hp→Prop
 yld:Nat→Hp→V→Hp→Prop
 stop:Nat→Hp→Prop
def Zgn (X:Cx) (pins:List (Addr × Obj)) (H:Hp) (b:Addr):Prop :=
 H b = none/\b ≠ X.env.locals/\b ∉ X.fs/\(b ∈ X.ex\/X.s₀.heap.objs.size <= b)/\(∀ x c,X.env.cells.lookup x = some c→c ≠ b)/\∀ p ∈ X.pn ++ pins,p.1 ≠ b
theorem Inv.fpOk {X:Cx} {pins:List (Addr × Obj)} {σ:St} {H H':Hp} {s:Shared} {b:Addr} (I:Inv X pins σ H s) (hb:s.heap.objs.size <= b) (hn:H' b = none):Zgn X pins H' b:=by
 refine ⟨hn,Nat.ne_of_gt (Nat.lt_of_lt_of_le I.lt hb),I.nofs hb,.inr (Nat.le_trans I.sz hb),fun x c e z=>?_,fun p hp z=>?_⟩
 .obtain ⟨v,q⟩:=I.cell x c e
  exact absurd (Nat.lt_of_lt_of_le q.lt (by rw [z]; exact hb)) (Nat.lt_irrefl _)
 .exact absurd (Nat.lt_of_lt_of_le (Heap.lt_size (I.pin p hp).1) (by rw [z]; exact hb)) (Nat.lt_irrefl _)
structure Turn (P:Program) (w:World) (K:PySem.W.Frag) (tg:Expr) (J:It) (fp:List Addr) (it:Addr) (tn:Nat→Heap→Prop):Prop where
 mem:it ∈ fp
 obj:∀ i h,tn i h→∀ b ∈ fp,∃ o,h.get? b = some o/\∀ v,o.data ≠ .cell v
 keep:∀ i h h',tn i h→(∀ b ∈ fp,∀ o,h.get? b = some o→h'.get? b = some o)→tn i h'
 item:∀ (X:Cx),X.prog = P→X.w = w→X.K = K→X.calm = true→∀ (i:Nat) (pins:List (Addr × Obj)) (s:Shared) (σ:St) (H:Hp) (E:Value→Shared→Prop),Inv X pins σ H s→(∀ b ∈ fp,Zgn X pins H b)→tn i s.heap→J.go i H →
  wpAny (model P w) X.A (pyNext (.ref it)) (fun r s1=>∃ u,r = some u /\
   wpAny (model P w) X.A (letOwnedTupleGo tg (.ref it) u) (fun _ s2=>∃ x H',Inv X pins σ H' s2/\RelV x u/\J.yld i H x H'/\tn (i + 1) s2.heap/\∀ b ∈ fp,H' b = none) E s1) E s
 done:∀ (X:Cx),X.prog = P→X.w = w→X.K = K→X.calm = true→∀ (i:Nat) (pins:List (Addr × Obj)) (s:Shared) (σ:St) (H:Hp) (E:Value→Shared→Prop),Inv X pins σ H s→(∀ b ∈ fp,Zgn X pins H b)→tn i s.heap→J.stop i H →
  wpAny (model P w) X.A (pyNext (.ref it)) (fun r s1=>r = none/\Inv X pins σ H s1) E s
 self:∀ (A:Around) (i:Nat) (s:Shared) (Q:Value→Shared→Prop) (E:Value→Shared→Prop),tn i s.heap→Q (.ref it) s→wpAny (model P w) A (pyIter (.ref it)) Q E s
abbrev TI:=St→Hp→(It→Hp→Prop)→Prop
def PIE (X:Cx) (pins:List (Addr × Obj)) (σ:St) (tg:Expr) (R:It→Hp→Prop) (itv:Value) (s2:Shared):Prop :=
 ∃ (it:Addr) (fp:List Addr) (tn:Nat→Heap→Prop) (J:It) (H':Hp),itv = .ref it/\Inv X pins σ H' s2/\Turn X.prog X.w X.K tg J fp it tn/\tn 0 s2.heap/\(∀ b ∈ fp,Zgn X pins H' b)/\R J H'
def PI (X:Cx) (tg iter:Expr) (wi:TI):Prop :=
 ∀ (pins:List (Addr × Obj)) (s:Shared) (σ:St) (H:Hp) (R:It→Hp→Prop),Inv X pins σ H s→wi σ H R →
  wpAny (model X.prog X.w) X.A (eval iter X.env) (fun v s1=>wpAny (model X.prog X.w) X.A (pyIter v) (PIE X pins σ tg R) X.xe s1) X.xe s
theorem Zs4 {M:Model} {A:Around} {E:Value→Shared→Prop} {s:Shared} {tg:Expr} {it:Addr} {u:Value} {o:Obj} {n:String} {vs:Array Value} {Q:Unit→Shared→Prop} (ho:s.heap.get? it = some o) (hc:o.cls = .type n) (hd:o.data = .fields vs)
  (hn:["enumerate", "zip", "dict_itemiterator", "dict_reverseitemiterator", "odict_iterator", "itertools.zip_longest", "itertools.pairwise"].contains n = false) (hQ:Q () s):wpAny M A (letOwnedTupleGo tg (.ref it) u) Q E s:=by
 unfold letOwnedTupleGo
 cases tg <;> first
  | exact wpAny_pure hQ
  | (cases u <;> first
    | exact wpAny_pure hQ
    | (refine wpAny_bind (wpAny_load ho ?_)
       rw [hc,hd]
       show wpAny M A (if (["enumerate", "zip", "dict_itemiterator", "dict_reverseitemiterator", "odict_iterator", "itertools.zip_longest", "itertools.pairwise"].contains n && vs[0]? == some (rawInt _)) = true then _ else _) Q E s
       rw [if_neg (by intro h; rw [hn,Bool.false_and] at h; cases h)]
       exact wpAny_pure hQ))
def Itl (K:PySem.W.Frag) (a:Addr):It :=
 ⟨fun i H=>∃ xs x,SqL K H a xs/\xs[i]? = some x,fun i H x H'=>H' = H/\∀ xs,SqL K H a xs→xs[i]? = some x,fun i H=>∃ xs,SqL K H a xs/\xs.length <= i⟩
def Itr (lo:Int) (n:Nat):It:=⟨fun i _=>i < n,fun i H x H'=>H' = H/\x = .int (lo + i),fun i _=>n <= i⟩
theorem Znz {P:Program} {w:World} {K:PySem.W.Frag} {tg:Expr} (a it:Addr):Turn P w K tg (Itl K a) [it] it (fun i h=>h.IsListIter it a i) where
 mem:=by simp
 obj:=fun i h st b hb=>by
  have e:b = it:=by simpa using hb
  subst e
  obtain ⟨o,e,c,d⟩:=st
  exact ⟨o,e,fun v z=>by rw [d] at z; cases z⟩
 keep:=fun i h h' st k=>st.at fun o e=>k it (by simp) o e
 item:=by
  intro X hP hw hK hc i pins s σ H E I hf st hg
  subst hP hw hK
  obtain ⟨xs,x,hq,hx⟩:=hg
  obtain ⟨its,rv,p,hz⟩:=I.list hq
  obtain ⟨u,hu,ru⟩:=rv.get hx
  obtain ⟨f0,f1,f2,f3,f4,f5⟩:=hf it (by simp)
  refine wpAny_pyNext_list_item st p.isList (x:=u) (by simpa using hu) fun h' st' sb=>?_
  have I1:Inv X pins σ H { s with heap:=h' }:=I.turned (t':=s.toks) (fun b o hb e=>(sb.2 b hb).trans e) f0 f1 f3 f4 f5
  obtain ⟨o,e,c,d⟩:=id st'
  exact ⟨u,rfl,Zs4 (s:={ s with heap:=h' }) e c d (by decide) ⟨x,H,I1,ru,⟨rfl,fun ys hy=>by rw [I.list_inj hy hq]; exact hx⟩,st',fun b hb=>(hf b hb).1⟩⟩
 done:=by
  intro X hP hw hK hc i pins s σ H E I hf st hg
  subst hP hw hK
  obtain ⟨xs,hq,hx⟩:=hg
  obtain ⟨its,rv,p,hz⟩:=I.list hq
  obtain ⟨f0,f1,f2,f3,f4,f5⟩:=hf it (by simp)
  have hl:=rv.length
  exact wpAny_pyNext_list_end (I.ok.hd hc) st p.isList (by simp; omega) fun h' eb=>⟨rfl,I.turned (t':=s.toks) (fun b o hb e=>eb b o hb e) f0 f1 f3 f4 f5⟩
 self:=fun _ _ _ _ _ st h=>wpAny_pyIter_listiter st h
theorem Zm0 {P:Program} {w:World} {K:PySem.W.Frag} {tg:Expr} (it:Addr) (lo:Int) (n:Nat):Turn P w K tg (Itr lo n) [it] it (fun i h=>IsRangeIter h it (lo + (i:Nat) * 1) ((n:Int) - (i:Nat)) 1) where
 mem:=by simp
 obj:=fun i h st b hb=>by
  have e:b = it:=by simpa using hb
  subst e
  exact ⟨_,st,fun v z=>by
   have z':Data.fields _ = Data.cell v:=z
   cases z'⟩
 keep:=fun i h h' st k=>k it (by simp) _ st
 item:=by
  intro X hP hw hK hc i pins s σ H E I hf st hg
  subst hP hw hK
  obtain ⟨f0,f1,f2,f3,f4,f5⟩:=hf it (by simp)
  have W:=Walks.range (prog:=X.prog) (w:=X.w) (I.ok.hd hc) it lo 1 n
  refine W.item i s _ _ hg st fun v h' tk hv st' kk=>?_
  obtain ⟨t,rfl⟩:=hv
  have I1:Inv X pins σ H { s with heap:=h',toks:=tk }:=I.turned (fun b o hb e=>kk b o (by simpa using hb) e) f0 f1 f3 f4 f5
  refine ⟨_,rfl,Zs4 (s:={ s with heap:=h',toks:=tk }) (n := "range_iterator") st' rfl rfl (by decide) ⟨.int (lo + i),H,I1,⟨t,?_⟩,⟨rfl,rfl⟩,st',fun b hb=>(hf b hb).1⟩⟩
  rw [Int.mul_one]
 done:=by
  intro X hP hw hK hc i pins s σ H E I hf st hg
  subst hP hw hK
  obtain ⟨f0,f1,f2,f3,f4,f5⟩:=hf it (by simp)
  exact wpAny_pyNext_range_end (I.ok.hd hc) st (by have:n <= i:=hg; omega) fun h' eb=>⟨rfl,I.turned (t':=s.toks) (fun b o hb e=>eb b o hb e) f0 f1 f3 f4 f5⟩
 self:=fun _ _ _ _ _ st h=>wpAny_pyIter_rangeiter st h
end L2
namespace L2
open PySem PySem.Spec PyProof.Rows
end L2
open PySem PySem.Spec L2
variable {a:Addr}{A:Around}{X:Cx}{e b tg iter:Expr}{h h':Heap}{H H' H1 H2:Hp}{pins:List (Addr × Obj)}{ch:List Addr}{es:List Expr}{body:List Stmt}{N:List Str}{xs ys:List V}{us:List Value}{M:Model}{i t' j:Nat}{pos pos' px py:Pos}{P:Program}{K:PySem.W.Frag}{s s':Shared}{st:Stmt}{x y:Str}{ta tb te tl:TE}{α β:Type}{v:V}{u:Value}{E Q:Value→Shared→Prop}{w:World}
namespace L2
open PySem PySem.Spec PyProof.Rows
def Z2v (K:PySem.W.Frag) (tl:TE):TI:=fun σ H R=>tl σ H fun x H1=>∃ a,x = .ref a/\(∃ xs,SqL K H1 a xs)/\R (Itl K a) H1
theorem Zm8 {l:Expr}  (hl:PE X l tl):PI X tg l (Z2v X.K tl):=by
 intro pins s σ H R I h
 refine thn (hl pins s σ H _ I h) fun v s1 qz9=>?_
 obtain ⟨x,H1,I1,r1,q1⟩:=qz9
 obtain ⟨a,e,⟨xs,hq⟩,q⟩:=q1
 subst e
 cases r1
 obtain ⟨its,rv,p,hz⟩:=I1.list hq
 refine wpAny_pyIter_list p.isList ?_
 refine ⟨s1.heap.objs.size,[s1.heap.objs.size],_,_,H1,rfl,I1.kept (t':=s1.toks) fun b o e=>Heap.get?_push_of_some _ e,Znz a _,⟨_,Heap.get?_push_size _ rfl,rfl,rfl⟩,fun b hb=>?_,q⟩
 have e:b = s1.heap.objs.size:=by simpa using hb
 subst e
 exact I1.fpOk (Nat.le_refl _) (I1.hok.fresh (Nat.le_refl _))
theorem Ztg  {σ:St}   {R:It→Hp→Prop}  {lo hi:Int} {t u v:Tok} {tk:Nat} (I:Inv X pins σ H s) (h1:-(2 ^ 62) <= lo) (h2:lo < 2 ^ 62) (h3:-(2 ^ 62) <= hi) (h4:hi < 2 ^ 62)
  (q:R (Itr lo (hi - lo).toNat) H):wpAny (model X.prog X.w) X.A (pyIter (.ref s.heap.objs.size)) (PIE X pins σ tg R) E { s with heap:=s.heap.push { cls:=.type "range", data:=.fields #[.int lo t,.int hi u,.int 1 v] },toks:=tk }:=by
 refine wpAny_pyIter_range (IsRange.new ..) (small_one h1 h2 h3 h4) ?_
 have I1:Inv X pins σ H { s with heap:=s.heap.push { cls:=.type "range", data:=.fields #[.int lo t,.int hi u,.int 1 v] },toks:=tk }:=I.kept fun b o e=>Heap.get?_push_of_some _ e
 refine ⟨(s.heap.push { cls:=.type "range", data:=.fields #[.int lo t,.int hi u,.int 1 v] }).objs.size,[(s.heap.push { cls:=.type "range", data:=.fields #[.int lo t,.int hi u,.int 1 v] }).objs.size],_,_,H,rfl,
  I1.kept (t':=tk) fun b o e=>Heap.get?_push_of_some _ e,Zm0 _ lo (hi - lo).toNat,?_,fun b hb=>?_,q⟩
 .have e1:lo + ((0:Nat):Int) * 1 = lo:=by simp
  have e2:(((hi - lo).toNat:Nat):Int) - ((0:Nat):Int) = Builtin.Range.rangeSize lo hi 1:=by rw [rangeSize_one]; split <;> omega
  show IsRangeIter _ _ (lo + ((0:Nat):Int) * 1) ((((hi - lo).toNat:Nat):Int) - ((0:Nat):Int)) 1
  rw [e1,e2]
  exact Heap.get?_push_size _ rfl
 .have e:b = (s.heap.push { cls:=.type "range", data:=.fields #[.int lo t,.int hi u,.int 1 v] }).objs.size:=by simpa using hb
  subst e
  exact I1.fpOk (Nat.le_refl _) (I1.hok.fresh (Nat.le_refl _))
def Z6x (ta:TA):TI:=fun σ H R=>ta σ H fun vs H1=>∃ j:Int,vs = [.int j]/\-(2 ^ 62) <= j/\j < 2 ^ 62/\R (Itr 0 j.toNat) H1
theorem Zqc {a:Expr} {ta:TA} {p:Pos} (hg:Gl X "range") (hm:X.mg "range" = none) (ha:PA X [a] ta) (hs:starEach [a] X.env = [(false,eval a X.env)]:=by rfl):PI X tg (.Call (.Name "range" p) [a] [] pos) (Z6x ta):=by
 intro pins s σ H R I h
 refine Call_ (Zib I hg hm boot_range (PyProof.Rows.callWith_type1 (thn (ha pos pins s σ H _ I h) fun us s1 qz9=>?_) hs rfl))
 obtain ⟨vs,H1,I1,r1,q1⟩:=qz9
 obtain ⟨j,e,q1,q2,q⟩:=q1
 subst e
 cases r1 with
 | cons r rr =>
  cases rr
  obtain ⟨t,rfl⟩:=r
  exact call_range_1 (Ztg I1 (by omega) (by omega) q1 q2 (by simpa using q))
def Ybl (wi:TI) (g:TG) (tb:TS):TS:=fun D σ H=>wi σ H fun J H1=>∃ W:Nat→Nat→St→Hp→Prop,(∃ m,W 0 m σ H1)/\∀ i m σ H,W i m σ H →
 (J.stop i H/\D.nx σ H)\/(J.go i H/\∃ N:St→Hp→Prop,(∀ σ' H',N σ' H'→∃ m',m' < m/\W (i + 1) m' σ' H')/\∀ x H',J.yld i H x H'→g x σ H' fun σ2 H2=>tb { D with nx:=N,ct:=N,bk:=D.nx } σ2 H2)
def Zh2 (fp:List Addr) (h:Heap):List (Addr × Obj):=fp.filterMap fun b=>(h.get? b).map fun o=>(b,o)
theorem Zbl {fp:List Addr}  {b:Addr} {o:Obj} (hb:b ∈ fp) (e:h.get? b = some o):(b,o) ∈ Zh2 fp h:=List.mem_filterMap.mpr ⟨b,hb,by rw [e]; rfl⟩
theorem Zqr {fp:List Addr}  {p:Addr × Obj} (hp:p ∈ Zh2 fp h):p.1 ∈ fp/\h.get? p.1 = some p.2:=by
 obtain ⟨b,hb,e⟩:=List.mem_filterMap.mp hp
 cases q:h.get? b with
 | none=>rw [q] at e; cases e
 | some o =>
  rw [q] at e
  have e':(b,o) = p:=Option.some.inj e
  subst e'
  exact ⟨hb,q⟩
theorem Inv.pinned  {σ:St}   {fp:List Addr} (I:Inv X pins σ H s) (hf:∀ b ∈ fp,Zgn X pins H b) (ho:∀ b ∈ fp,∃ o,s.heap.get? b = some o/\∀ v,o.data ≠ .cell v):Inv X (pins ++ Zh2 fp s.heap) σ H s :=
 I.pins_of fun p hp=>(List.mem_append.mp hp).elim (fun z=>I.pin p (List.mem_append_right _ z)) fun z=>by
  obtain ⟨hb,e⟩:=Zqr z
  obtain ⟨f0,f1,f2,_⟩:=hf p.1 hb
  obtain ⟨o,e',d⟩:=ho p.1 hb
  rw [e] at e'; cases e'
  exact ⟨e,f0,f1,f2,d⟩
theorem Inv.unpinned {pl:List (Addr × Obj)} {σ:St}   (I:Inv X (pins ++ pl) σ H s):Inv X pins σ H s:=I.pins_of fun p hp=>I.pin p (List.mem_append_right _ (List.mem_append_left _ hp))
theorem Zvq   {wi:TI} {g:TG} {tb:TS}  (hp:PassesOwn (model X.prog X.w) X.A X.env X.xe) (hc:X.calm = true) (hi:PI X tg iter wi) (hg:PG X tg g) (hb:PSs X body tb)
  (hs:∀ x,foldedSetIterable iter X.env x = pure x:=by intro _; rfl):PS X (.For tg iter body [] pos) (Ybl wi g tb):=by
 intro pins s σ H D I h
 refine wpAny_For (thn (hi pins s σ H _ I h) fun v s1 h1=>thn h1 fun itv s2 h2=>?_) hs
 obtain ⟨it,fp,tn,J,H2,e,I2,T,st2,f2,W,⟨m0,w0⟩,turn⟩:=h2
 subst e
 -- what stays true of the iterator's objects through the loop
 have stat:∀ {H':Hp},(∀ b ∈ fp,H' b = none)→∀ b ∈ fp,Zgn X pins H' b:=fun hn b hb=>⟨hn b hb,(f2 b hb).2⟩
 refine codeAny_forLoop_any (fun n s'=>∃ i σ' H',Inv X pins σ' H' s'/\tn i s'.heap/\(∀ b ∈ fp,H' b = none)/\W i n σ' H') ?_ m0 ⟨0,σ,H2,I2,st2,fun b hb=>(f2 b hb).1,w0⟩
 rintro n s3 ⟨i,σ3,H3,I3,st3,fr3,w3⟩
 rcases turn i n σ3 H3 w3 with ⟨stop,qn⟩ | ⟨go,N,hN,step⟩
 .refine wpAny_passesOwn hp (thn (T.done X rfl rfl rfl hc i pins s3 σ3 H3 X.xe I3 (stat fr3) st3 stop) fun r s4 qz9=>?_)
  obtain ⟨hr,I4⟩:=qz9
  subst hr
  exact wpAny_execs_nil ⟨σ3,H3,I4,qn⟩
 .refine wpAny_passesOwn hp (thn (T.item X rfl rfl rfl hc i pins s3 σ3 H3 X.xe I3 (stat fr3) st3 go) fun r s4 qz9=>?_)
  obtain ⟨u,hr,h4⟩:=qz9
  subst hr
  refine wpAny_passesOwn hp (thn h4 fun _ s5 qz9=>?_)
  obtain ⟨x,H5,I5,r5,y5,st5,fr5⟩:=qz9
  have I5':=I5.pinned (stat fr5) (T.obj _ _ st5)
  refine wpAny_passesOwn hp (thn (hg _ s5 σ3 H5 x u _ I5' r5 (step x H5 y5)) fun _ s6 qz9=>?_)
  obtain ⟨σ6,H6,I6,q6⟩:=qz9
  refine wpAny_passesOwn hp (thn (hb _ s6 σ6 H6 _ I6 q6) fun f s7 q7=>?_)
  have again:∀ {σ7:St} {H7:Hp},Inv X (pins ++ Zh2 fp s5.heap) σ7 H7 s7→N σ7 H7→∃ m,m < n/\∃ i σ' H',Inv X pins σ' H' s7/\tn i s7.heap/\(∀ b ∈ fp,H' b = none)/\W i m σ' H':=fun {σ7 H7} I7 n7=>by
   obtain ⟨m',hm,w7⟩:=hN σ7 H7 n7
   refine ⟨m',hm,i + 1,σ7,H7,I7.unpinned,T.keep _ _ _ st5 fun b hb o e=>(I7.pin (b,o) (List.mem_append_right _ (List.mem_append_right _ (Zbl hb e)))).1,fun b hb=>?_,w7⟩
   obtain ⟨o,e,d⟩:=T.obj _ _ st5 b hb
   exact (I7.pin (b,o) (List.mem_append_right _ (List.mem_append_right _ (Zbl hb e)))).2.1
  cases f with
  | next=>obtain ⟨σ7,H7,I7,n7⟩:=q7; exact again I7 n7
  | cont=>obtain ⟨σ7,H7,I7,n7⟩:=q7; exact again I7 n7
  | brk=>obtain ⟨σ7,H7,I7,q7⟩:=q7; exact ⟨σ7,H7,I7.unpinned,q7⟩
  | ret v=>obtain ⟨x7,σ7,H7,I7,r7,q7⟩:=q7; exact ⟨x7,σ7,H7,I7.unpinned,r7,q7⟩
theorem Zrd    {g:TG} {tb:TS} {D:Ends} {σ:St}  (Pv:Nat→St→Hp→Prop) (h0:Pv 0 σ H) (hl:∀ i σ H,i <= xs.length→Pv i σ H→SqL K H a xs)
  (hs:∀ i x σ H,xs[i]? = some x→Pv i σ H→g x σ H fun σ2 H2=>tb { D with nx:=Pv (i + 1),ct:=Pv (i + 1),bk:=D.nx } σ2 H2) (hd:∀ σ H,Pv xs.length σ H→D.nx σ H) :
  ∃ W:Nat→Nat→St→Hp→Prop,(∃ m,W 0 m σ H)/\∀ i m σ H,W i m σ H →
   ((Itl K a).stop i H/\D.nx σ H)\/((Itl K a).go i H/\∃ N:St→Hp→Prop,(∀ σ' H',N σ' H'→∃ m',m' < m/\W (i + 1) m' σ' H')/\∀ x H',(Itl K a).yld i H x H'→g x σ H' fun σ2 H2=>tb { D with nx:=N,ct:=N,bk:=D.nx } σ2 H2):=by
 refine ⟨fun i m σ H=>m = xs.length - i/\i <= xs.length/\Pv i σ H,⟨xs.length,by simp,Nat.zero_le _,h0⟩,?_⟩
 rintro i m σ H ⟨rfl,hi,p⟩
 have q:=hl i σ H hi p
 by_cases hlt:i < xs.length
 .refine .inr ⟨⟨xs,xs[i],q,by simp [hlt]⟩,Pv (i + 1),fun σ' H' p'=>⟨xs.length - (i + 1),by omega,rfl,hlt,p'⟩,fun x H' y=>?_⟩
  obtain ⟨e,y⟩:=y
  subst e
  exact hs i x σ _ (y xs q) p
 .have e:i = xs.length:=by omega
  subst e
  exact .inl ⟨⟨xs,q,Nat.le_refl _⟩,hd σ H p⟩
end L2
namespace L2
open PySem PySem.Spec PyProof.Rows
abbrev R2:=V→V→Hp→VK→Prop
def OpR (X:Cx) (f:Value→Value→Sem Value) (r:R2):Prop :=
 ∀ (pins:List (Addr × Obj)) (s:Shared) (σ:St) (H:Hp) (x y:V) (v u:Value) (Q:VK),Inv X pins σ H s→RelV x v→RelV y u→r x y H Q →
  wpAny (model X.prog X.w) X.A (f v u) (EP X pins σ Q) X.xe s
def UnR (X:Cx) (f:Value→Sem Value) (r:V→Hp→VK→Prop):Prop :=
 ∀ (pins:List (Addr × Obj)) (s:Shared) (σ:St) (H:Hp) (x:V) (v:Value) (Q:VK),Inv X pins σ H s→RelV x v→r x H Q →
  wpAny (model X.prog X.w) X.A (f v) (EP X pins σ Q) X.xe s
def Zac (X:Cx) (f:Value) (r:List V→Hp→VK→Prop):Prop :=
 ∀ (pins:List (Addr × Obj)) (s:Shared) (σ:St) (H:Hp) (xs:List V) (us:List Value) (Q:VK),Inv X pins σ H s→Vals xs us→r xs H Q →
  wpAny (model X.prog X.w) X.A (call f us) (EP X pins σ Q) X.xe s
def Ybq (X:Cx) (r:V→Hp→(Bool→Hp→Prop)→Prop):Prop :=
 ∀ (pins:List (Addr × Obj)) (s:Shared) (σ:St) (H:Hp) (x:V) (v:Value) (Q:Bool→Hp→Prop),Inv X pins σ H s→RelV x v→r x H Q →
  wpAny (model X.prog X.w) X.A (truthy v) (TP X pins σ Q) X.xe s
def tOp (r:R2) (ta tb:TE):TE:=fun σ H Q=>ta σ H fun x H1=>tb σ H1 fun y H2=>r x y H2 Q
def tUn (r:V→Hp→VK→Prop) (ta:TE):TE:=fun σ H Q=>ta σ H fun x H1=>r x H1 Q
def rI (C:Int→Int→Prop) (g:Int→Int→V):R2:=fun x y H Q=>∃ i j,x = .int i/\y = .int j/\C i j/\Q (g i j) H
def rI0 (g:Int→Int→V):R2:=fun x y H Q=>∃ i j,x = .int i/\y = .int j/\Q (g i j) H
def rU (g:Int→V):V→Hp→VK→Prop:=fun x H Q=>∃ i,x = .int i/\Q (g i) H
section
variable  {a c:Expr} {tc:TE} 
theorem Z5m (ha:PE X a ta) (hb:PE X b tb)   {σ:St}  {R:V→V→Hp→Prop} (I:Inv X pins σ H s)
  (h:ta σ H fun x H1=>tb σ H1 fun y H2=>R x y H2)  {f:Value→Value→Sem Value}
  (hf:∀ v u s2 x y H2,Inv X pins σ H2 s2→RelV x v→RelV y u→R x y H2→wpAny (model X.prog X.w) X.A (f v u) Q X.xe s2) :
  wpAny (model X.prog X.w) X.A (eval a X.env) (fun v s₁=>wpAny (model X.prog X.w) X.A (eval b X.env) (fun u s₂=>wpAny (model X.prog X.w) X.A (f v u) Q X.xe s₂) X.xe s₁) X.xe s:=by
 refine thn (ha pins s σ H _ I h) fun v s1 qz9=>?_
 obtain ⟨x,H1,I1,r1,q1⟩:=qz9
 refine thn (hb pins s1 σ H1 _ I1 q1) fun u s2 qz9=>?_
 obtain ⟨y,H2,I2,r2,q2⟩:=qz9
 exact hf v u s2 x y H2 I2 r1 r2 q2
theorem Z7c {op:Operator} {r:R2} (ho:OpR X (binaryOp op) r) (ha:PE X a ta) (hb:PE X b tb):PE X (.BinOp a op b pos) (tOp r ta tb):=by
 intro pins s σ H Q I h
 exact wpAny_BinOp (Z5m ha hb I h fun v u s2 x y H2 I2 rx ry q=>ho pins s2 σ H2 x y v u Q I2 rx ry q)
theorem Z60 {op:UnaryOp} {r:V→Hp→VK→Prop} (ho:UnR X (unaryOp op) r) (ha:PE X a ta):PE X (.UnaryOp op a pos) (tUn r ta):=by
 intro pins s σ H Q I h
 refine UnaryOp_ (thn (ha pins s σ H _ I h) fun v s1 qz9=>?_)
 obtain ⟨x,H1,I1,r1,q1⟩:=qz9
 exact ho pins s1 σ H1 x v Q I1 r1 q1
theorem opI {f:Value→Value→Sem Value} {C:Int→Int→Prop} {g:Int→Int→Int}
  (rule:∀ (i j:Int) (t u:Tok) (s:Shared) (Q:Value→Shared→Prop) (E:Value→Shared→Prop),C i j→Q (.int (g i j) s.toks) { s with toks:=s.toks + 1 }→wpAny (model X.prog X.w) X.A (f (.int i t) (.int j u)) Q E s) :
  OpR X f (rI C fun i j=>.int (g i j)):=by
 intro pins s σ H x y v u Q I rx ry h
 obtain ⟨i,j,rfl,rfl,hc,q⟩:=h
 obtain ⟨t,rfl⟩:=rx
 obtain ⟨t',rfl⟩:=ry
 exact rule i j t t' s _ _ hc ⟨.int (g i j),H,I.tok _,⟨_,rfl⟩,q⟩
theorem Yaa {f:Value→Value→Sem Value} {g:Int→Int→Int}
  (rule:∀ (i j:Int) (t u:Tok) (s:Shared) (Q:Value→Shared→Prop) (E:Value→Shared→Prop),Q (.int (g i j) s.toks) { s with toks:=s.toks + 1 }→wpAny (model X.prog X.w) X.A (f (.int i t) (.int j u)) Q E s) :
  OpR X f (rI0 fun i j=>.int (g i j)):=by
 intro pins s σ H x y v u Q I rx ry h
 obtain ⟨i,j,rfl,rfl,q⟩:=h
 obtain ⟨t,rfl⟩:=rx
 obtain ⟨t',rfl⟩:=ry
 exact rule i j t t' s _ _ ⟨.int (g i j),H,I.tok _,⟨_,rfl⟩,q⟩
theorem Z5c {f:Value→Value→Sem Value} {g:Int→Int→Bool}
  (rule:∀ (i j:Int) (t u:Tok) (s:Shared) (Q:Value→Shared→Prop) (E:Value→Shared→Prop),Q (.bool (g i j)) s→wpAny (model X.prog X.w) X.A (f (.int i t) (.int j u)) Q E s) :
  OpR X f (rI0 fun i j=>.bl (g i j)):=by
 intro pins s σ H x y v u Q I rx ry h
 obtain ⟨i,j,rfl,rfl,q⟩:=h
 obtain ⟨t,rfl⟩:=rx
 obtain ⟨t',rfl⟩:=ry
 exact rule i j t t' s _ _ ⟨.bl (g i j),H,I,rfl,q⟩
def Z47 (i j:Int):Prop:=0 <= j/\j <= 1000000/\i.natAbs < 2 ^ 64
def CMul (i j:Int):Prop:=(-(2 ^ 64) < i/\i < 2 ^ 64)\/(-(2 ^ 64) < j/\j < 2 ^ 64)
theorem CMul.ok {i j:Int} (h:CMul i j):IntMulOk i j:=by
 rcases h with ⟨h1,h2⟩ | ⟨h1,h2⟩
 .exact .of_left (intBits_le_64 h1 h2)
 .exact .of_right (intBits_le_64 h1 h2)
theorem Z4c:OpR X (binaryOp .Add) (rI0 fun i j=>.int (i + j)):=Yaa fun _ _ _ _ _ _ _ q=>add_int q
theorem Zzu:OpR X (binaryOp .Sub) (rI0 fun i j=>.int (i - j)):=Yaa fun _ _ _ _ _ _ _ q=>sub_int q
theorem Zyl:OpR X (binaryOp .Mod) (rI (fun _ j=>j ≠ 0) fun i j=>.int (i.fmod j)):=opI fun _ _ _ _ _ _ _ hc q=>mod_int' hc q
theorem Z05:OpR X (binaryOp .Pow) (rI Z47 fun i j=>.int (i ^ j.toNat)):=opI fun _ _ _ _ _ _ _ hc q=>pow_int_small hc.1 hc.2.1 hc.2.2 q
theorem unI {f:Value→Sem Value} {g:Int→Int}
  (rule:∀ (i:Int) (t:Tok) (s:Shared) (Q:Value→Shared→Prop) (E:Value→Shared→Prop),Q (.int (g i) s.toks) { s with toks:=s.toks + 1 }→wpAny (model X.prog X.w) X.A (f (.int i t)) Q E s) :
  UnR X f (rU fun i=>.int (g i)):=by
 intro pins s σ H x v Q I rx h
 obtain ⟨i,rfl,q⟩:=h
 obtain ⟨t,rfl⟩:=rx
 exact rule i t s _ _ ⟨.int (g i),H,I.tok _,⟨_,rfl⟩,q⟩
theorem Z0v:UnR X (unaryOp .USub) (rU fun i=>.int (-i)):=unI fun _ _ _ _ _ q=>neg_int q
end
section
variable  {a c:Expr} {tc:TE} 
theorem Z4k  {σ:St}   {Q:VK} {k k':Bool} (I:Inv X pins σ H s) (q:Q (.bl k) H) (e:k = k'):EP X pins σ Q (.bool k') s:=by
 subst e
 exact ⟨.bl k,H,I,rfl,q⟩
theorem Zyi:OpR X (compareOp .Lt) (rI0 fun i j=>.bl (decide (i < j))):=Z5c fun _ _ _ _ _ _ _ q=>lt_int q
theorem Zq8:OpR X (compareOp .LtE) (rI0 fun i j=>.bl (decide (i <= j))):=Z5c fun _ _ _ _ _ _ _ q=>le_int q
theorem Z2u:OpR X (compareOp .Gt) (rI0 fun i j=>.bl (decide (j < i))):=Z5c fun _ _ _ _ _ _ _ q=>gt_int q
theorem Z1x:OpR X (compareOp .GtE) (rI0 fun i j=>.bl (decide (j <= i))):=Z5c fun _ _ _ _ _ _ _ q=>ge_int q
theorem Zuk:OpR X (compareOp .Is) (fun x y H Q=>y = .non/\Q (.bl (decide (x = .non))) H):=by
 intro pins s σ H x y v u Q I rx ry h
 obtain ⟨rfl,q⟩:=h
 cases ry
 refine is_none_gen (Z4k I q ?_)
 cases x <;> first
  | (cases rx; rfl)
  | (obtain ⟨t,rfl⟩:=rx; rfl)
theorem Yy (b:Expr) {op:CmpOp} (h:op ≠ .In:=by decide) (h2:op ≠ .NotIn:=by decide):behindInMarks op b = false:=by
 have e1:(op == CmpOp.In) = false:=by cases op <;> first | rfl | exact absurd rfl h
 have e2:(op == CmpOp.NotIn) = false:=by cases op <;> first | rfl | exact absurd rfl h2
 cases b <;> simp [behindInMarks,e1,e2]
theorem Zyb {op:CmpOp} {r:R2} (ho:OpR X (compareOp op) r) (ha:PE X a ta) (hb:PE X b tb) (hm:behindInMarks op b = false):PE X (.Compare a [op] [b] pos) (tOp r ta tb):=by
 intro pins s σ H Q I h
 exact wpAny_Compare1 (Z5m ha hb I h fun v u s2 x y H2 I2 rx ry q=>ho pins s2 σ H2 x y v u Q I2 rx ry q) hm
def Zvx (t:TE):TT:=fun σ H Q=>t σ H fun x H'=>∃ k,x = .bl k/\Q k H'
theorem Zxp {op:CmpOp} {r:R2} (ho:OpR X (compareOp op) r) (ha:PE X a ta) (hb:PE X b tb) (hm:behindInMarks op b = false):PT X (.Compare a [op] [b] pos) (Zvx (tOp r ta tb)):=by
 intro pins s σ H Q I h
 refine wpAny_isTrue_Compare1 (thn (ha pins s σ H _ I h) fun v s1 ⟨x,H1,I1,r1,q1⟩=>thn (hb pins s1 σ H1 _ I1 q1) fun u s2 ⟨y,H2,I2,r2,q2⟩ =>
  thn (ho pins s2 σ H2 x y v u _ I2 r1 r2 q2) fun c s3 ⟨z,H3,I3,r3,k,e,q3⟩=>?_) hm
 subst e
 cases r3
 exact wpAny_truthy_bool ⟨H3,I3,q3⟩
def Zpx (r r':R2) (ta tb tc:TE):TE:=fun σ H Q=>ta σ H fun x H1=>tb σ H1 fun y H2=>r x y H2 fun z H3=>∃ k,z = .bl k /\
 (if k = true then tc σ H3 fun w' H4=>r' y w' H4 Q else Q (.bl false) H3)
theorem Zrq {op op':CmpOp} {r r':R2} (ho:OpR X (compareOp op) r) (ho':OpR X (compareOp op') r') (ha:PE X a ta) (hb:PE X b tb) (hc:PE X c tc)
  (hm:lastMarks [op,op'] [b,c] = false:=by with_unfolding_all rfl):PE X (.Compare a [op,op'] [b,c] pos) (Zpx r r' ta tb tc):=by
 intro pins s σ H Q I h
 refine Compare_chain (thn (ha pins s σ H _ I h) fun v s1 ⟨x,H1,I1,r1,q1⟩=>chain_link (thn (hb pins s1 σ H1 _ I1 q1) fun u s2 ⟨y,H2,I2,r2,q2⟩ =>
  thn (ho pins s2 σ H2 x y v u _ I2 r1 r2 q2) fun d s3 ⟨z,H3,I3,r3,k,e,q3⟩=>?_)) hm
 subst e
 cases r3
 refine wpAny_truthy_bool ?_
 cases k with
 | false=>exact ite_ff ⟨.bl false,H3,I3,rfl,q3⟩
 | true=>exact ite_tt (chain_last (thn (hc pins s3 σ H3 _ I3 q3) fun w' s4 ⟨z',H4,I4,r4,q4⟩=>ho' pins s4 σ H4 y z' u w' Q I4 r2 r4 q4))
theorem Zr3 {op op':CmpOp} {r r':R2} (ho:OpR X (compareOp op) r) (ho':OpR X (compareOp op') r') (ha:PE X a ta) (hb:PE X b tb) (hc:PE X c tc)
  (hm:lastMarks [op,op'] [b,c] = false:=by with_unfolding_all rfl):PT X (.Compare a [op,op'] [b,c] pos) (Zvx (Zpx r r' ta tb tc)):=by
 intro pins s σ H Q I h
 refine isTrue_chain (thn (ha pins s σ H _ I h) fun v s1 ⟨x,H1,I1,r1,q1⟩=>test_link (thn (hb pins s1 σ H1 _ I1 q1) fun u s2 ⟨y,H2,I2,r2,q2⟩ =>
  thn (ho pins s2 σ H2 x y v u _ I2 r1 r2 q2) fun d s3 ⟨z,H3,I3,r3,k,e,q3⟩=>?_)) hm
 subst e
 cases r3
 refine wpAny_truthy_bool ?_
 cases k with
 | false =>
  obtain ⟨k',e',q'⟩:=q3
  cases e'
  exact ite_ff ⟨H3,I3,q'⟩
 | true =>
  refine ite_tt (test_last (thn (hc pins s3 σ H3 _ I3 q3) fun w' s4 qz9=>?_))
  obtain ⟨z',H4,I4,r4,q4⟩:=qz9
  refine thn (ho' pins s4 σ H4 y z' u w' _ I4 r2 r4 q4) fun d' s5 qz9=>?_
  obtain ⟨z2,H5,I5,r5,k2,e2,q5⟩:=qz9
  subst e2
  cases r5
  exact wpAny_truthy_bool ⟨H5,I5,q5⟩
def Z5n (K:PySem.W.Frag) (x:V) (H:Hp) (k:Bool):Prop :=
 match x with
 | .non=>k = false
 | .bl b=>k = b
 | .int i=>k = (i != 0)
 | .str y=>y.length <= sizeLine/\k = ((y.length:Int) != 0)
 | .byt y=>y.size <= sizeLine/\k = ((y.size:Int) != 0)
 | .ref p=>(∃ xs,SqL K H p xs/\k = !xs.isEmpty)\/(∃ xs,SqT K H p xs/\k = !xs.isEmpty)\/∃ kvs,H p = some (.dK kvs)/\k = !kvs.isEmpty
 | _=>False
theorem Zly {κ:Type} {kvs:List (κ × V)} {vs:List (κ × Value)} (r:KV kvs vs):(!vs.isEmpty) = !kvs.isEmpty:=by
 cases r <;> rfl
theorem Zgk  {its:List Value} (r:Vals xs its):(!its.toArray.isEmpty) = !xs.isEmpty:=by
 cases r <;> simp
theorem Zgj:(sizeLine:Nat) < 2 ^ 63:=by rw [sizeLine_eq]; decide
theorem Z0r:Ybq X (fun x H Q=>∃ k,Z5n X.K x H k/\Q k H):=by
 intro pins s σ H x v Q I rx h
 obtain ⟨k,e,q⟩:=h
 have hl:=Zgj
 have hs:sizeLine = 16777216:=sizeLine_eq
 cases x with
 | non =>
  cases rx
  have e':k = false:=e
  subst e'
  exact truthy_none ⟨H,I,q⟩
 | bl b =>
  cases rx
  have e':k = b:=e
  subst e'
  exact wpAny_truthy_bool ⟨H,I,q⟩
 | int i =>
  obtain ⟨t,rfl⟩:=rx
  have e':k = (i != 0):=e
  subst e'
  exact PySem.P.truthy_int ⟨H,I,q⟩
 | str y =>
  obtain ⟨t,rfl⟩:=rx
  obtain ⟨hy,e'⟩:y.length <= sizeLine/\k = ((y.length:Int) != 0):=e
  subst e'
  exact PySem.P.truthy_str (by omega) ⟨H,I.tok _,q⟩
 | byt y =>
  obtain ⟨t,rfl⟩:=rx
  obtain ⟨hy,e'⟩:y.size <= sizeLine/\k = ((y.size:Int) != 0):=e
  subst e'
  exact PySem.W.truthy_bytes (by omega) ⟨H,I.tok _,q⟩
 | ref p =>
  cases rx
  have e':(∃ xs,SqL X.K H p xs/\k = !xs.isEmpty)\/(∃ xs,SqT X.K H p xs/\k = !xs.isEmpty)\/∃ kvs,H p = some (.dK kvs)/\k = !kvs.isEmpty:=e
  rcases e' with ⟨xs,hx,e'⟩ | ⟨xs,hx,e'⟩ | ⟨kvs,hx,e'⟩
  .subst e'
   obtain ⟨its,r,pl,hz⟩:=I.list hx
   have hlen:=r.length
   exact wpAny_truthy_list pl.isList (by simp only [List.size_toArray]; omega) ⟨H,I.tok _,by rw [Zgk r]; exact q⟩
  .subst e'
   obtain ⟨its,r,pl,hz⟩:=I.tuple hx
   have hlen:=r.length
   exact truthy_tuple pl (by simp only [List.size_toArray]; omega) ⟨H,I.tok _,by rw [Zgk r]; exact q⟩
  .subst e'
   obtain ⟨hz,hS,vs,r,m⟩:kvs.length <= sizeLine/\(p == sysModules) = false/\∃ vs,KV kvs vs/\s.heap.DictOf (Wi X.prog X.w) p vs:=I.hok p _ hx
   have hlen:kvs.length = vs.length:=Paired.length r
   exact wpAny_truthy_dict hS m (by omega) ⟨H,I.tok _,by rw [Zly r]; exact q⟩
 | _=>exact (show False from e).elim
theorem Zts (ha:PE X a ta) (he:∀ whole,isTrue a X.env whole = (do let v <- whole; standAt a.pos; holding [v] (truthy v))) :
  PT X a (fun σ H Q=>ta σ H fun x H'=>∃ k,Z5n X.K x H' k/\Q k H'):=by
 intro pins s σ H Q I h
 refine isTrue_plain (thn (ha pins s σ H _ I h) fun v s1 qz9=>?_) (he _)
 obtain ⟨x,H1,I1,r1,q1⟩:=qz9
 exact Z0r pins s1 σ H1 x v Q I1 r1 q1
theorem Y7:OpR X (binaryOp .Add) (fun x y H Q=>∃ i j,x = .str i/\y = .str j/\i.length + j.length <= sizeLine/\Q (.str (i ++ j)) H):=by
 intro pins s σ H x y v u Q I rx ry h
 obtain ⟨i,j,rfl,rfl,hz,q⟩:=h
 obtain ⟨t,rfl⟩:=rx
 obtain ⟨t',rfl⟩:=ry
 exact add_str (fun t' tk=>⟨.str (i ++ j),H,I.tok _,⟨_,rfl⟩,q⟩) hz
theorem vals1 {x:V}  (r:Vals [x] us):∃ u,us = [u]/\RelV x u:=by
 cases r with
 | cons r1 r2=>cases r2; exact ⟨_,rfl,r1⟩
theorem vals2 {x y:V}  (r:Vals [x,y] us):∃ u w',us = [u,w']/\RelV x u/\RelV y w':=by
 cases r with
 | cons r1 r2 =>
  cases r2 with
  | cons r3 r4=>cases r4; exact ⟨_,_,rfl,r1,r3⟩
theorem Zha:Zac X (.builtin "abs") (fun xs H Q=>∃ i,xs = [.int i]/\Q (.int (if i < 0 then -i else i)) H):=by
 intro pins s σ H xs us Q I r h
 obtain ⟨i,rfl,q⟩:=h
 obtain ⟨u,rfl,t,rfl⟩:=vals1 r
 exact call_abs_int fun u tk=>⟨.int (if i < 0 then -i else i),H,I.tok _,⟨_,rfl⟩,q⟩
theorem Yv:Zac X (.type "str") (fun xs H Q=>∃ i,xs = [.int i]/\i.natAbs.log2 < 1920/\Q (.str (toString i)) H):=by
 intro pins s σ H xs us Q I r h
 obtain ⟨i,rfl,hz,q⟩:=h
 obtain ⟨u,rfl,t,rfl⟩:=vals1 r
 exact PySem.P.str_of_int hz ⟨.str _,H,I.tok _,⟨_,rfl⟩,q⟩
end
end L2
namespace L2
open PySem PySem.Spec PyProof.Rows
structure ObjM (h:Heap) (x dx C:Addr) (mA:Str→Option Value):Prop where
 obj:h.get? x = some (PySem.W.instObj C dx)
 ns:h.Ns1 dx mA
 ne:dx ≠ x
theorem Znn  {dx:Addr} {mA:Str→Option Value} (n:h.Ns1 dx mA):∃ od,h.get? dx = some od/\∀ name,PySem.W.lookIn name od = some (mA name):=by
 obtain ⟨o,es,ep,ho,hd,hk,_,hm⟩:=n
 refine ⟨o,ho,fun name=>?_⟩
 have e:=hm name
 unfold nsFind findBy at e
 rw [<- Array.find?_toList] at e
 unfold PySem.W.lookIn
 rw [hd]
 dsimp only
 split
 .rename_i y q
  rw [q] at e
  exact congrArg some e
 .rename_i q
  rw [q] at e
  have a:es.toList.any (·.refKey) = false:=by
   rw [List.any_eq_false]
   intro y hy
   obtain ⟨z,t,hkey⟩:=hk y (Array.mem_toList_iff.mp hy)
   simp [DictEntry.refKey,hkey]
  have a':¬ es.toList.any (·.refKey) = true:=by rw [a]; exact Bool.false_ne_true
  rw [if_neg a']
  exact congrArg some e
theorem ObjM.look  {x dx C:Addr} {mA:Str→Option Value} (I:ObjM h x dx C mA):∃ od,PySem.W.InstAt h x (PySem.W.instObj C dx) C (some od)/\∀ name,PySem.W.lookIn name od = some (mA name) :=
 let ⟨od,ho,hl⟩:=Znn I.ns
 ⟨od,⟨I.obj,rfl,rfl,ho⟩,hl⟩
section
variable {prog:Program}      {x dx C f:Addr} {mA:Str→Option Value} {name:Str} {v:Value}
end
theorem RelO.some_of  {o:Option Value} (r:RelO (some v) o):∃ u,o = some u/\RelV v u:=by
 cases o with
 | none=>exact (show False from r).elim
 | some u=>exact ⟨u,rfl,r⟩
section
variable     {C dx:Addr} {fs fs':List (Str × V)}
theorem Zx1 (hok:HOk P w H h) (e:H a = some (.ins C dx fs)):∃ mA,ObjM h a dx C mA/\(∀ f,RelO (fs.lookup f) (mA f))/\PySem.Within mA (fs.map (·.1))/\fs.length <= 1000/\H dx = some (.own a):=by
 obtain ⟨d,z,ne,ob,mA,n,r,q⟩:=(show ObjOk P w H h a (.ins C dx fs) from hok a _ e)
 exact ⟨mA,⟨ob,n,ne⟩,r,q,z,d⟩
end
structure Cls (K:PySem.W.Frag) (C:Addr):Prop where
 pg:PySem.W.plainGet K C Str.empty = true
 hd:PySem.W.hasDictIn K C = true
 po:PySem.W.plainOver K C = true
 sa:PySem.W.findIn K (.ref C) "__setattr__" = some (some (.builtin "object.__setattr__"))
theorem Cls.get  {C:Addr} (c:Cls K C) (f:Str):PySem.W.plainGet K C f = true:=c.pg
structure Con (K:PySem.W.Frag) (C:Addr) (f:Str) (v:V) (u:Value):Prop where
 at_:PySem.W.findIn K (.ref C) f = some (some u)
 rel:RelV v u
 get:PySem.W.specialIn K u "__get__" = some none
 cp:PySem.W.copiedNames.contains f = false
structure Meth (K:PySem.W.Frag) (C:Addr) (m:Str) (f:Addr):Prop where
 at_:PySem.W.findIn K (.ref C) m = some (some (.ref f))
 fn:PySem.W.isFn K (.ref f) = true
 kp:PySem.W.keepIn K (.ref f) = true
section
variable   {σ:St}   {C dx:Addr} {fs:List (Str × V)} {f:Str}   
end
section
variable  {o value:Expr} {f:Str} {tpos:Pos} {tv:TE}
end
section
variable   {σ:St}      {c:Value} {b:Bool}
inductive Zm2 (K:PySem.W.Frag) (H:Hp):V→Value→Prop where
 | non:Zm2 K H .non (.type "NoneType")
 | bl (x:Bool):Zm2 K H (.bl x) (.type "bool")
 | int (i:Int):Zm2 K H (.int i) (.type "int")
 | str (x:Str):Zm2 K H (.str x) (.type "str")
 | flt (x:UInt64):Zm2 K H (.flt x) (.type "float")
 | lst {a:Addr} {xs:List V} (e:H a = some (.lst xs)):Zm2 K H (.ref a) (.type "list")
 | frz {a:Addr} {o:Obj} {xs:List V} (e:H a = some (.frz o (.lst xs))):Zm2 K H (.ref a) (.type "list")
 | tup {a:Addr} {xs:List V} (e:H a = some (.tup xs)):Zm2 K H (.ref a) (.type "tuple")
 | dK {a:Addr} {kvs:List (Key × V)} (e:H a = some (.dK kvs)):Zm2 K H (.ref a) (.type "dict")
 | dT {a:Addr} {kvs:List (List Key × V)} (e:H a = some (.dT kvs)):Zm2 K H (.ref a) (.type "dict")
 | ins {a C dx:Addr} {fs:List (Str × V)} (e:H a = some (.ins C dx fs)) (cl:Cls K C) (ha:PySem.W.findIn K (.ref C) "__class__" = some (some (.builtin "object.__class__")))
   (hn:PySem.W.specialIn K (.builtin "object.__class__") "__get__" = some (some (.builtin "getset_descriptor.__get__"))) (htk:PySem.W.takesIn K (.builtin "object.__class__") = some true)
   (hm:PySem.W.mroIn K C (.type "object") = some true):Zm2 K H (.ref a) (.ref C)
theorem Jh {x:V} {t:Value} (I:Inv X pins σ H s) (rx:RelV x u) (ty:Zm2 X.K H x t) (e:PySem.W.kitOne X.K t c = some b) (h:∀ tk,Q (.bool b) { s with toks:=tk }) :
  wpAny (model X.prog X.w) A (call (.builtin "isinstance") [u,c]) Q E s:=by
 cases ty with
 | non=>cases (show u = Value.none from rx); exact PySem.W.kia_one PySem.W.kitx_none I.kIn True.intro e (fun z=>nomatch z) h
 | bl y=>cases (show u = Value.bool y from rx); exact PySem.W.kia_one PySem.W.kitx_bool I.kIn True.intro e (fun z=>nomatch z) h
 | int i=>obtain ⟨t,q⟩:=(show ∃ t,u = Value.int i t from rx); cases q; exact PySem.W.kia_one PySem.W.kitx_int I.kIn True.intro e (fun z=>nomatch z) h
 | str y=>obtain ⟨t,q⟩:=(show ∃ t,u = Value.str y t from rx); cases q; exact PySem.W.kia_one PySem.W.kitx_str I.kIn True.intro e (fun z=>nomatch z) h
 | flt y=>obtain ⟨t,q⟩:=(show ∃ t,u = Value.float y t from rx); cases q; exact PySem.W.kia_one PySem.W.kitx_float I.kIn True.intro e (fun z=>nomatch z) h
 | @lst a xs ea =>
  cases (show u = Value.ref a from rx)
  obtain ⟨_,_,n,_,h1⟩:=(show ObjOk X.prog X.w H s.heap a (.lst xs) from I.hok a _ ea)
  exact PySem.W.kia_one PySem.W.kitx_list I.kIn ⟨_,h1,rfl⟩ e (fun z=>nomatch z) h
 | @frz a ob xs ea =>
  cases (show u = Value.ref a from rx)
  obtain ⟨_,_,_,n,_,h1⟩:=(show ObjOk X.prog X.w H s.heap a (.frz ob (.lst xs)) from I.hok a _ ea)
  exact PySem.W.kia_one PySem.W.kitx_list I.kIn ⟨_,h1,rfl⟩ e (fun z=>nomatch z) h
 | @tup a xs ea =>
  cases (show u = Value.ref a from rx)
  obtain ⟨_,_,_,p⟩:=(show ObjOk X.prog X.w H s.heap a (.tup xs) from I.hok a _ ea)
  obtain ⟨o,h1,h2,_⟩:=p
  exact PySem.W.kia_one PySem.W.kitx_tuple I.kIn ⟨o,h1,h2⟩ e (fun z=>nomatch z) h
 | @dK a kvs ea =>
  cases (show u = Value.ref a from rx)
  obtain ⟨_,_,vs,_,p⟩:=(show ObjOk X.prog X.w H s.heap a (.dK kvs) from I.hok a _ ea)
  obtain ⟨o,es,ep,h1,h2,_⟩:=p
  exact PySem.W.kia_one PySem.W.kitx_dict I.kIn ⟨o,h1,h2.1⟩ e (fun z=>nomatch z) h
 | @dT a kvs ea =>
  cases (show u = Value.ref a from rx)
  obtain ⟨_,_,xs,_,o,es,ep,h1,h2,_⟩:=(show ObjOk X.prog X.w H s.heap a (.dT kvs) from I.hok a _ ea)
  exact PySem.W.kia_one PySem.W.kitx_dict I.kIn ⟨o,h1,h2.1⟩ e (fun z=>nomatch z) h
 | @ins a C dx fs ea cl ha hn htk hm =>
  cases (show u = Value.ref a from rx)
  obtain ⟨mA,O,_⟩:=Zx1 I.hok ea
  obtain ⟨od,J,_⟩:=O.look
  exact PySem.W.kia_one (PySem.W.kitx_own (cl.get _) cl.hd ha hn htk hm) I.kIn J e (fun z=>nomatch z) h
end
end L2
namespace L2
open PySem PySem.Spec PyProof.Rows
structure Room (k:Nat) (A:Around):Prop where
 hd:A.handled = none
 dp:A.depth + 3 * k + 5 < recursionLimit
 un:A.units + 16 * k + 200 < cLine
theorem Room.mono {k:Nat}  (r:Room k A) (h:j <= k):Room j A:=⟨r.hd,by have:=r.dp; omega,by have:=r.un; omega⟩
theorem Room.deeper {k:Nat}  (r:Room (k + 1) A) (env:Env):Room k (A.deeper env) :=
 ⟨r.hd,by have:=r.dp; show A.depth + 1 + 3 * k + 5 < _; omega,by have:=r.un; show A.units + 3 + 16 * k + 200 < _; omega⟩
theorem Room.depth {k:Nat}  (r:Room k A):A.depth < recursionLimit:=by have:=r.dp; omega
theorem Room.units {k:Nat}  (r:Room k A):A.units + 64 < cLine:=by have:=r.un; omega
def Yc8:TA:=fun _ H Q=>Q [] H
def Z69 (ta:TE) (tr:TA):TA:=fun σ H Q=>ta σ H fun x H1=>tr σ H1 fun xs H2=>Q (x :: xs) H2
section
variable     {t:TA} 
theorem Zky:PA X [] Yc8:=fun _ _ _ _ H Q I h=>Calls.spliced_nil ⟨[],H,I,.nil,h⟩
theorem Ze7 (ha:PE X e te) (hr:PA X es t) (hs:starEach (e :: es) X.env = (false,eval e X.env) :: starEach es X.env:=by rfl):PA X (e :: es) (Z69 te t):=by
 intro pos pins s σ H Q I h
 rw [hs]
 show wpAny _ _ (spliced ((false,eval e X.env) :: backTo pos (starEach es X.env))) _ _ s
 refine Calls.spliced_cons (thn (ha pins s σ H _ I h) fun u s1 qz9=>?_)
 obtain ⟨x,H1,I1,r1,q1⟩:=qz9
 refine thn (hr pos pins s1 σ H1 _ I1 q1) fun us s2 qz9=>?_
 obtain ⟨xs,H2,I2,r2,q2⟩:=qz9
 exact ⟨x :: xs,H2,I2,.cons r1 r2,q2⟩
def Yb6 (t:TA):TE:=fun σ H Q=>t σ H fun xs H1=>xs.length <= sizeLine/\∀ p,H1 p = none→Q (.ref p) (upd H1 p (.tup xs))
def Yc5 (t:TA):TE:=fun σ H Q=>t σ H fun xs H1=>xs.length <= sizeLine/\∀ p,H1 p = none→Q (.ref p) (upd H1 p (.lst xs))
theorem Zt1 {x1} (h:PA X es t):PE X (.Tuple es x1 pos) (Yb6 t):=by
 intro pins s σ H Q I hq
 refine wpAny_Tuple_spliced (thn (h pos pins s σ H _ I hq) fun us s1 ⟨xs,H1,I1,r,z,q⟩=>⟨by rw [<- r.length]; exact z,?_⟩)
 have hf:H1 s1.heap.objs.size = none:=I1.hok.fresh (Nat.le_refl _)
 refine ⟨.ref s1.heap.objs.size,upd H1 s1.heap.objs.size (.tup xs),I1.laid (t':=s1.toks) (fun b u e=>Heap.get?_push_of_some _ e) (Nat.le_refl _) ?_,rfl,q _ hf⟩
 exact ⟨z,us,r,⟨_,Heap.get?_push_size _ rfl,rfl,_,rfl⟩⟩
theorem Z0s (h:PA X es t):PE X (.List es pos) (Yc5 t):=by
 intro pins s σ H Q I hq
 refine wpAny_List_spliced (thn (h pos pins s σ H _ I hq) fun us s1 ⟨xs,H1,I1,r,z,q⟩=>⟨by rw [<- r.length]; exact z,?_⟩)
 have hf:H1 s1.heap.objs.size = none:=I1.hok.fresh (Nat.le_refl _)
 refine ⟨.ref s1.heap.objs.size,upd H1 s1.heap.objs.size (.lst xs),I1.laid (t':=s1.toks) (fun b u e=>Heap.get?_push_of_some _ e) (Nat.le_refl _) ?_,rfl,q _ hf⟩
 exact ⟨z,us,0,r,Heap.get?_push_size _ rfl⟩
end
abbrev Sp:=List V→Hp→VK→XK→Prop
abbrev CXT:=List Env→Hp→Shared→XK→Value→Shared→Prop
structure Z5k (P:Program) (w:World) (K:PySem.W.Frag) (mg:Str→Option Value) (base:Heap) (A:Around) (outer:List Env) (s:Shared) (H:Hp):Prop where
 frames:A.frames = some outer
 mod:Mod K mg base
 bs:∀ b o,base.get? b = some o→s.heap.get? b = some o/\H b = none
 bsz:base.objs.size <= s.heap.objs.size
 funs:s.heap.FunFrames base outer
 frf:∀ b ∈ frs outer,H b = none
 hok:HOk P w H s.heap
 bare:AllBare s.gens
def CE (outer:List Env) (P:Program) (w:World) (H:Hp) (s:Shared) (Q:VK) (u:Value) (s':Shared):Prop :=
 ∃ v H',s'.os = s.os/\AllBare s'.gens/\Un (frs outer) [] H H' s.heap s'.heap/\HOk P w H' s'.heap/\RelV v u/\Q v H'
def CR (CX:CXT) (outer:List Env) (P:Program) (w:World) (H:Hp) (s:Shared) (Q:VK) (E:XK) (r:Result) (s':Shared):Prop :=
 match r with
 | .ok (.ret u)=>CE outer P w H s Q u s'
 | .ok _=>False
 | .error e=>CX outer H s E e s'
structure FnOk (P:Program) (w:World) (K:PySem.W.Frag) (mg:Str→Option Value) (base:Heap) (CX:CXT) (k:Nat) (f:Addr) (fd:FuncData) (ps:List Str) (sp:Sp):Prop where
 len:∀ vs H Q E,sp vs H Q E→vs.length = ps.length
 run:∀ (A:Around) (outer:List Env) (s:Shared) (H:Hp) (args:Args) (us:List Value) (vs:List V) (Q:VK) (E:XK),Room k A→Z5k P w K mg base A outer s H→BindsTo s fd args (ps.zip us)→Vals vs us→sp vs H Q E →
  codeAny (model P w) A (.call (.ref f) args) (CR CX outer P w H s Q E) s
theorem FnOk.imp    {mg:Str→Option Value} {base:Heap} {CX:CXT} {k:Nat} {f:Addr} {fd:FuncData} {ps:List Str} {sp sp':Sp} (F:FnOk P w K mg base CX k f fd ps sp)
  (h:∀ vs H Q E,sp' vs H Q E→sp vs H Q E):FnOk P w K mg base CX k f fd ps sp' :=
 ⟨fun vs H Q E q=>F.len vs H Q E (h _ _ _ _ q),fun A outer s H args us vs Q E hr he hb hv hs=>F.run A outer s H args us vs Q E hr he hb hv (h _ _ _ _ hs)⟩
section
variable   {σ:St}  
theorem Inv.env0 (I:Inv X pins σ H s):Z5k X.prog X.w X.K X.mg X.base X.A X.stack s H :=
 ⟨I.ok.frames,I.ok.mod,I.bs,Nat.le_trans I.ok.bsz I.sz,I.stack,I.stkFree,I.hok,I.bare⟩
theorem Inv.after {Q:VK}  (I:Inv X pins σ H s) (h:CE X.stack X.prog X.w H s Q u s'):EP X pins σ Q u s':=by
 obtain ⟨v,H',os,bare,un,hok,r,q⟩:=h
 obtain ⟨hh,g,d,t,os'⟩:=s'
 obtain rfl:os' = s.os:=os
 exact ⟨v,H',I.call (h':=hh) (g':=g) (d':=d) (t':=t) (ch:=[]) un hok bare (fun b z=>absurd z (by simp)),r,q⟩
end
def Z08 (sp:Sp) (dvs:List V) (E:XK) (t:TA):TE:=fun σ H Q=>t σ H fun vs H1=>sp (vs ++ dvs) H1 Q E
def Binds (K:PySem.W.Frag) (fd:FuncData) (ps:List Str) (ds:List Value):Prop :=
 ∀ (s:Shared) (us:List Value),K.In s.heap→(us ++ ds).length = ps.length→BindsTo s fd ⟨us,[]⟩ (ps.zip (us ++ ds))
theorem Binds.all  {fd:FuncData} {ps:List Str} (h:∀ us:List Value,us.length = ps.length→bindArgs fd ⟨us,[]⟩ = pure (ps.zip us)):Binds K fd ps []:=fun s us _ hl=>by
 rw [List.append_nil] at hl |-
 exact .of_eq (h us hl)
def Zk9 (CX:CXT) (X:Cx) (E:XK):Prop:=∀ (pins:List (Addr × Obj)) (σ:St) (H:Hp) (s:Shared) (e:Value) (s':Shared),Inv X pins σ H s→CX X.stack H s E e s'→X.xe e s'
section
variable  {CX:CXT} {k:Nat} {f C:Addr} {fd:FuncData} {ps:List Str} {sp:Sp} {dvs:List V} {ds:List Value} {E:XK} {m:Str} {p apos:Pos} {o:Expr}   {t:TA}
theorem Z06  {σ:St}   {Q:VK}  {vs:List V} (F:FnOk X.prog X.w X.K X.mg X.base CX k f fd ps sp) (hr:Room k X.A) (hb:Binds X.K fd ps ds) (hd:Vals dvs ds) (hx:Zk9 CX X E)
  (I:Inv X pins σ H s) (r:Vals vs us) (h:sp (vs ++ dvs) H Q E):wpAny (model X.prog X.w) X.A (call (.ref f) us) (EP X pins σ Q) X.xe s:=by
 have r2:Vals (vs ++ dvs) (us ++ ds):=r.append hd
 have hl:(us ++ ds).length = ps.length:=by rw [<- r2.length]; exact F.len _ _ _ _ h
 refine wpAny_call (codeAny_mono (F.run X.A X.stack s H ⟨us,[]⟩ (us ++ ds) (vs ++ dvs) Q E hr I.env0 (hb s us I.kIn hl) r2 h) fun r s' hq=>?_)
 cases r with
 | error e=>exact hx pins σ H s e s' I hq
 | ok fl =>
  cases fl with
  | ret u=>exact I.after hq
  | next=>exact False.elim hq
  | brk=>exact False.elim hq
  | cont=>exact False.elim hq
theorem Zv7 (F:FnOk X.prog X.w X.K X.mg X.base CX k f fd ps sp) (hr:Room k X.A) (hg:Gl X x) (hm:X.mg x = some (.ref f)) (hk:PySem.W.keepIn X.K (.ref f) = true) (hb:Binds X.K fd ps ds) (hd:Vals dvs ds) (hx:Zk9 CX X E)
  (ha:PA X (e :: es) t) (hdb:(x == ("__debug__" : Str)) = false:=by decide) (he:starEach (e :: es) X.env = (false,eval e X.env) :: starEach es X.env:=by rfl) (hpl:(backTo pos (starEach es X.env)).any (·.1) = false:=by rfl) :
  PE X (.Call (.Name x p) (e :: es) [] pos) (Z08 sp dvs E t):=by
 intro pins s σ H Q I h
 refine wpAny_Call_Name_kw (Znj I hg hm ?_ hdb)
 refine PySem.W.callWith_K (h₀:=X.base) I.ok.mod.kin hk (thn (ha pos pins s σ H _ I h) fun us s1 qz9=>?_) he hpl
 obtain ⟨vs,H1,I1,r,q⟩:=qz9
 refine ⟨I1.kIn,?_⟩
 exact Z06 F hr hb hd hx I1 r q
structure Mk (K:PySem.W.Frag) (C f:Addr):Prop where
 makes:PySem.W.makesIn K C = true
 init:PySem.W.findIn K (.ref C) "__init__" = some (some (.ref f))
 fn:PySem.W.isFn K (.ref f) = true
 kp:PySem.W.keepIn K (.ref C) = true
end
section
variable  {CX:CXT} {k:Nat} {f C:Addr} {fd:FuncData} {ps ks:List Str} {sp:Sp} {E:XK} {m:Str} {p apos kpos:Pos} {o:Expr}  {kws:List Keyword}  {t tk:TA} {nm:Option Str}
structure Z94 (K:PySem.W.Frag) (fd:FuncData) (ps ks:List Str) (g:List Value→List Value→List Value) (gV:List V→List V→List V):Prop where
 to:∀ (s:Shared) (us ws:List Value),K.In s.heap→(g us ws).length = ps.length→BindsTo s fd ⟨us,ks.zip ws⟩ (ps.zip (g us ws))
 rel:∀ {vs:List V} {us:List Value} {zs:List V} {ws:List Value},Vals vs us→Vals zs ws→Vals (gV vs zs) (g us ws)
variable {g:List Value→List Value→List Value} {gV:List V→List V→List V}
end
structure Zr (N P:List Str) (sc:Scope):Prop where
 kind:sc.kind = .function
 co:sc.isCoroutine = false
 gen:sc.isGenerator = false
 nd:N.Nodup
 pre:N.take P.length = P
 par:∀ x ∈ P,sc.names.lookup x = some .local\/sc.names.lookup x = some .cell
 nofree:∀ y ∈ sc.names,y.2 ≠ .free
theorem Zik {kindOf:Str→Option NameKind} :∀ {binds:List (Str × Value)} {m:Str→Option Value},(∀ v,(x,v) ∉ binds)→bindL kindOf binds m x = m x
 | [],_,_=>rfl
 | (n,v) :: r,m,h=>by
  unfold bindL
  rw [Zik fun w hw=>h w (List.mem_cons_of_mem _ hw)]
  split
  .have:x ≠ n:=by rintro rfl; exact h v List.mem_cons_self
   simp [this]
  .rfl
theorem Zid {kindOf:Str→Option NameKind} :∀ {binds:List (Str × Value)} {m:Str→Option Value},(∀ v,(x,v) ∉ binds)→bindC kindOf binds m x = m x
 | [],_,_=>rfl
 | (n,v) :: r,m,h=>by
  unfold bindC
  rw [Zid fun w hw=>h w (List.mem_cons_of_mem _ hw)]
  split
  .rfl
  .have:x ≠ n:=by rintro rfl; exact h v List.mem_cons_self
   simp [this]
theorem Zic {kindOf:Str→Option NameKind}  {v:Value}:∀ {P:List Str} {vs:List Value} {i:Nat} {m:Str→Option Value},P.Nodup→P[i]? = some x→vs[i]? = some v→kindOf x = some .local →
  bindL kindOf (P.zip vs) m x = some v
 | [],_,_,_,_,h,_,_=>by simp at h
 | _ :: _,[],_,_,_,_,h,_=>by simp at h
 | p :: P,w :: vs,0,m,nd,h1,h2,hk=>by
  simp at h1 h2; subst h1; subst h2
  show bindL kindOf ((p,w) :: P.zip vs) m p = _
  unfold bindL
  rw [Zik fun v hv=>(List.nodup_cons.mp nd).1 (List.of_mem_zip hv).1,if_pos hk]
  simp
 | p :: P,w :: vs,i + 1,m,nd,h1,h2,hk=>by
  show bindL kindOf ((p,w) :: P.zip vs) m x = _
  unfold bindL
  exact Zic (i:=i) (List.nodup_cons.mp nd).2 (by simpa using h1) (by simpa using h2) hk
theorem Zin {kindOf:Str→Option NameKind}  {v:Value}:∀ {P:List Str} {vs:List Value} {i:Nat} {m:Str→Option Value},P.Nodup→P[i]? = some x→vs[i]? = some v→kindOf x ≠ some .local →
  bindC kindOf (P.zip vs) m x = some v
 | [],_,_,_,_,h,_,_=>by simp at h
 | _ :: _,[],_,_,_,_,h,_=>by simp at h
 | p :: P,w :: vs,0,m,nd,h1,h2,hk=>by
  simp at h1 h2; subst h1; subst h2
  show bindC kindOf ((p,w) :: P.zip vs) m p = _
  unfold bindC
  rw [Zid fun v hv=>(List.nodup_cons.mp nd).1 (List.of_mem_zip hv).1,if_neg hk]
  simp
 | p :: P,w :: vs,i + 1,m,nd,h1,h2,hk=>by
  show bindC kindOf ((p,w) :: P.zip vs) m x = _
  unfold bindC
  exact Zin (i:=i) (List.nodup_cons.mp nd).2 (by simpa using h1) (by simpa using h2) hk
def start (N:List Str) (vs:List V):St:=vs.map some ++ List.replicate (N.length - vs.length) none
def Zvp (CX:CXT) (P:Program) (w:World) (K:PySem.W.Frag) (mg:Str→Option Value) (base:Heap) (N:List Str) (qual:Str) (scope:Scope) (f:Addr) (cd:Value) (A:Around) (outer:List Env) (s:Shared) (H:Hp) (E:XK):Cx where
 prog:=P
 w:=w
 K:=K
 mg:=mg
 base:=base
 A:=A.deeper (envOfC qual scope s.heap.objs.size f cd)
 N:=N
 s₀:=s
 H₀:=H
 env:=envOfC qual scope s.heap.objs.size f cd
 outer:=outer
 stack:=envOfC qual scope s.heap.objs.size f cd :: outer
 ex:=[]
 calm:=true
 fn:=fun _=>true
 pn:=[]
 xe:=fun e s'=>wpAny (model P w) (A.deeper (envOfC qual scope s.heap.objs.size f cd)) (leaving (envOfC qual scope s.heap.objs.size f cd) e) (fun _ s''=>CX outer H s E e s'') (fun e' s''=>CX outer H s E e' s'') s'
theorem Zlk {sc:Scope} {n:Nat}  (h:sc.names.lookup x = some .cell):∃ c,(cellsFrom n sc.names []).lookup x = some c:=by
 have q:=PySem.W.cellsFrom_some sc.names n [] (.inl h)
 exact Option.isSome_iff_exists.mp q
theorem Zns {CX:CXT}    {mg:Str→Option Value} {base:Heap} {ps:List Str} {qual:Str} {scope:Scope} {f:Addr} {cd:Value}  {outer:List Env} {s1:Shared}  {E:XK}  {vs:List V}
  (S:Zr N ps scope) (hd:A.handled = none) (e0:Z5k P w K mg base A outer s H) (hl:vs.length = ps.length) (r:Vals vs us)
  (x:InCallC s s.heap.objs.size (bindL (envOfC qual scope s.heap.objs.size f cd).kindOf (ps.zip us) fun _=>none) (cellsFrom (s.heap.objs.size + 1) scope.names []) (bindC (envOfC qual scope s.heap.objs.size f cd).kindOf (ps.zip us) fun _=>none) s1) :
  Inv (Zvp CX P w K mg base N qual scope f cd A outer s H E) [] (start N vs) H s1:=by
 have hpl:ps.length <= N.length:=by have:=congrArg List.length S.pre; rw [List.length_take] at this; omega
 obtain ⟨h1,tk,rfl,hk⟩:=x.done
 have noA:∀ b:Addr,b ∉ (Zvp CX P w K mg base N qual scope f cd A outer s H E).ex:=fun b z=>absurd (show b ∈ ([]:List Addr) from z) (by simp)
 refine ⟨⟨e0.mod,S.kind,rfl,rfl,Nat.le_refl _,fun y z c h1 h2=>?_,fun y hy=>?_,fun y c _ h=>?_,fun _=>hd,Around.frames_deeper e0.frames,.inr ⟨rfl,rfl⟩,fun b z=>absurd z (noA b),e0.bs,e0.bsz,fun b _ _=>noA b,fun b z=>absurd z (noA b),e0.funs,e0.frf⟩,
  rfl,e0.bare,Un.kept hk,⟨_,x.toInCall.ns,fun i y v h1 h2 h3=>?_⟩,fun y c h=>⟨_,x.cell y c h⟩,e0.hok.fresh (Nat.le_refl _),fun y c h=>?_,fun p hp=>absurd (show p ∈ ([]:List (Addr × Obj)) from hp) (by simp),e0.hok.kept hk,?_⟩
 .exact name_of_addr x.apart (PySem.mem_of_lookup h1) (PySem.mem_of_lookup h2)
 .have hy:scope.names.lookup y = some .cell\/scope.names.lookup y = some .free:=hy
  rcases hy with hy | hy
  .exact Zlk hy
  .exact absurd rfl (S.nofree _ (PySem.mem_of_lookup hy))
 .exact Nat.le_of_lt (x.above y c (PySem.mem_of_lookup h))
 .have hi:i < vs.length:=by
   unfold start at h2
   by_cases hi:i < vs.length
   .exact hi
   .rw [List.getElem?_append_right (by simpa using hi)] at h2
    rw [List.getElem?_replicate] at h2
    split at h2 <;> cases h2
  have ha:vs[i]? = some v:=by
   unfold start at h2
   rw [List.getElem?_append_left (by simpa using hi),List.getElem?_map] at h2
   cases e:vs[i]? with
   | none=>rw [e] at h2; cases h2
   | some a=>rw [e] at h2; cases h2; rfl
  obtain ⟨u,hu,rv⟩:=r.get ha
  have hp:ps[i]? = some y:=by
   rw [<- S.pre,List.getElem?_take_of_lt (by omega)]; exact h1
  have ndP:ps.Nodup:=by rw [<- S.pre]; exact S.nd.sublist (List.take_sublist _ _)
  refine ⟨u,rv,?_⟩
  rcases S.par y (List.mem_of_getElem? hp) with k | k
  .exact .inl ⟨k,Zic ndP hp hu k⟩
  .obtain ⟨c,e⟩:=Zlk (n:=s.heap.objs.size + 1) k
   refine .inr ⟨.inl k,c,e,?_⟩
   have q:=x.cell y c e
   rw [Zin ndP hp hu (by show scope.names.lookup y ≠ _; rw [k]; decide)] at q
   exact q
 .exact e0.hok.fresh (Nat.le_of_lt (x.above y c (PySem.mem_of_lookup h)))
 .unfold start
  show _ = N.length
  rw [List.length_append,List.length_map,List.length_replicate]
  omega
theorem Z7z {CX:CXT}    {mg:Str→Option Value} {base:Heap} {k:Nat} {f:Addr} {name qual:Str} {params:Arguments}  {scope:Scope} {dV kV doc pm cdv ct oc:Value} {an od:Option Addr}
  {osl:Array (Option Value)} {ps:List Str} {sp:Sp} (lk:K.lookup f = some ⟨oc,od,.func (PySem.W.fnOf name qual params body scope dV kV doc pm an cdv ct),osl⟩) (hcd:PySem.W.codeIn K cdv qual = true) (S:Zr N ps scope)
  (len:∀ vs H Q E,sp vs H Q E→vs.length = ps.length)
  (hbody:∀ (A:Around) (outer:List Env) (s:Shared) (H:Hp) (vs:List V) (Q:VK) (E:XK),Room k (A.deeper (envOfC qual scope s.heap.objs.size f cdv))→sp vs H Q E →
   ∃ t,PSs (Zvp CX P w K mg base N qual scope f cdv A outer s H E) body t/\t { nx:=fun _ H'=>Q .non H',rt:=Q } (start N vs) H) :
  FnOk P w K mg base CX (k + 1) f (PySem.W.fnOf name qual params body scope dV kV doc pm an cdv ct) ps sp:=by
 refine ⟨len,fun A outer s H args us vs Q E hr e0 hb r hsp=>?_⟩
 have hl:=len _ _ _ _ hsp
 have KX:K.In s.heap:=e0.mod.kin.keeps fun b o e=>(e0.bs b o e).1
 have lim:s.heap.NoLimit:=e0.mod.nolimit.keeps fun b o e=>(e0.bs b o e).1
 have hkind:∀ y ∈ ps.zip us,scope.names.lookup y.1 = some .local\/(scope.names.lookup y.1 = some .cell/\((cellsFrom (s.heap.objs.size + 1) scope.names []).lookup y.1).isSome = true):=fun ⟨n,v⟩ hy=>by
  rcases S.par n (List.of_mem_zip hy).1 with q | q
  .exact .inl q
  .exact .inr ⟨q,PySem.W.cellsFrom_some _ _ _ (.inl q)⟩
 refine codeAny_call_function hr.depth (KX _ _ lk) rfl S.co S.gen rfl (PySem.W.codeRec_of KX hcd) (hb _ _ _ _ ?_)
 refine wpAny_newFunctionEnv_cells S.kind hkind fun env he s1 x=>?_
 subst he
 refine ⟨lim.keeps x.toInCall.keep,codeAny_func ?_⟩
 obtain ⟨t,ht,hq⟩:=hbody A outer s H vs Q E (hr.deeper _) hsp
 have I:Inv (Zvp CX P w K mg base N qual scope f cdv A outer s H E) [] (start N vs) H s1:=Zns S hr.hd e0 hl r x
 refine wpAny_mono (ht [] s1 (start N vs) H _ I hq) (fun fl s' hs=>?_) fun e s' hs=>hs
 have fin:∀ {σ':St} {H':Hp} {v:V} {u:Value},Inv (Zvp CX P w K mg base N qual scope f cdv A outer s H E) [] σ' H' s'→RelV v u→Q v H'→CE outer P w H s Q u s' :=
  fun {σ' H' v u} J rv q=>⟨v,H',J.os,J.bare,J.base,J.hok,rv,q⟩
 cases fl with
 | ret u =>
  obtain ⟨v,σ',H',J,rv,q⟩:=hs
  exact fin J rv q
 | next =>
  obtain ⟨σ',H',J,q⟩:=hs
  exact fin (v:=V.non) (u:=Value.none) J rfl q
 | brk =>
  obtain ⟨_,_,_,q⟩:=hs
  exact False.elim q
 | cont =>
  obtain ⟨_,_,_,q⟩:=hs
  exact False.elim q
end L2
namespace L2
open PySem PySem.Spec PyProof.Rows
section
variable   {p:Pos}   {t:TA} {id T:String} {r:List V→Hp→VK→Prop}
def tCB (r:List V→Hp→VK→Prop) (t:TA):TE:=fun σ H Q=>t σ H fun vs H1=>r vs H1 Q
theorem Zhm (hc:Zac X (.builtin id) r) (hg:Gl X x) (hm:X.mg x = none) (hv:bootBuiltins x = some (.builtin id)) (ha:PA X (e :: es) t) (hn:x ≠ "__name__" := by decide) (hdb:(x == ("__debug__" : Str)) = false:=by decide)
  (he:starEach (e :: es) X.env = (false,eval e X.env) :: starEach es X.env:=by rfl) (hpl:(backTo pos (starEach es X.env)).any (·.1) = false:=by rfl):PE X (.Call (.Name x p) (e :: es) [] pos) (tCB r t):=by
 intro pins s σ H Q I h
 refine wpAny_Call_Name_kw (Zib I hg hm hv ?_ hn hdb)
 refine PyProof.Rows.callWith_builtin1 (thn (ha pos pins s σ H _ I h) fun us s1 qz9=>?_) he hpl
 obtain ⟨vs,H1,I1,r1,q1⟩:=qz9
 exact hc pins s1 σ H1 vs us Q I1 r1 q1
theorem Zip (hc:Zac X (.type T) r) (hg:Gl X x) (hm:X.mg x = none) (hv:bootBuiltins x = some (.type T)) (ha:PA X (e :: es) t) (hn:x ≠ "__name__" := by decide) (hdb:(x == ("__debug__" : Str)) = false:=by decide)
  (he:starEach (e :: es) X.env = (false,eval e X.env) :: starEach es X.env:=by rfl) (hpl:(backTo pos (starEach es X.env)).any (·.1) = false:=by rfl):PE X (.Call (.Name x p) (e :: es) [] pos) (tCB r t):=by
 intro pins s σ H Q I h
 refine wpAny_Call_Name_kw (Zib I hg hm hv ?_ hn hdb)
 refine PyProof.Rows.callWith_type1 (thn (ha pos pins s σ H _ I h) fun us s1 qz9=>?_) he hpl
 obtain ⟨vs,H1,I1,r1,q1⟩:=qz9
 exact hc pins s1 σ H1 vs us Q I1 r1 q1
end
end L2
namespace HT
open PySem PyProof.Rows
section
open PySem.SeqAt
open PySem.AutoSeq1 (wpAny_loadPart')
open PySem.MeetsSeq PySem.MeetsSeq2 PySem.MeetsSeq3
end
section
variable {prog:Program}    
def sIx (n d:Nat):Option Int→Nat
 | none=>d
 | some v=>if v < 0 then (v + (n:Int)).toNat else min v.toNat n
theorem sIx_nat (n d k:Nat):sIx n d (some (k:Int)) = min k n:=by
 show (if (k:Int) < 0 then ((k:Int) + (n:Int)).toNat else min (k:Int).toNat n) = min k n
 rw [if_neg (by omega),Int.toNat_natCast]
end
end HT
namespace L2
open PySem PySem.Spec PyProof.Rows
abbrev TO:=St→Hp→(Option Int→Hp→Prop)→Prop
def PO (X:Cx) (e:Option Expr) (t:TO):Prop :=
 ∀ (pins:List (Addr × Obj)) (s:Shared) (σ:St) (H:Hp) (Q:Option Int→Hp→Prop),Inv X pins σ H s→t σ H Q →
  wpAny (model X.prog X.w) X.A (evalPart e X.env) (fun u s'=>∃ o H',Inv X pins σ H' s'/\IsPart u o/\Q o H') X.xe s
def Zwc:TO:=fun _ H Q=>Q none H
def Z7t (t:TE):TO:=fun σ H Q=>t σ H fun x H1=>∃ i,x = .int i/\Q (some i) H1
section
variable    {lo hi:Option Expr} {tl th:TO} {p2:Pos}
theorem Zxu:PO X none Zwc:=by
 intro pins s σ H Q I h
 rw [evalPart_none]
 exact wpAny_pure ⟨none,H,I,.none,h⟩
theorem Zwy (h:PE X e te):PO X (some e) (Z7t te):=by
 intro pins s σ H Q I hw
 rw [evalPart_some]
 refine thn (h pins s σ H _ I hw) fun u s1 qz9=>?_
 obtain ⟨x,H1,I1,r1,q1⟩:=qz9
 obtain ⟨i,rfl,q⟩:=q1
 obtain ⟨t,rfl⟩:=r1
 exact ⟨some i,H1,I1,.int i t,q⟩
def SlR (X:Cx) (r:V→Option Int→Option Int→Hp→VK→Prop):Prop :=
 ∀ (pins:List (Addr × Obj)) (s:Shared) (σ:St) (H:Hp) (x:V) (v vl vu:Value) (lo hi:Option Int) (sl:Addr) (Q:VK),Inv X pins σ H s→RelV x v→s.heap.IsSliceOf sl vl vu .none→IsPart vl lo→IsPart vu hi→r x lo hi H Q →
  ∃ T id,typeLookup (.type T) "__getitem__" = pure (some (.builtin id))/\s.TypeIs v T/\wpAny (model X.prog X.w) X.A (getItem v (.ref sl)) (EP X pins σ Q) X.xe s
def tSl (r:V→Option Int→Option Int→Hp→VK→Prop) (te:TE) (tl th:TO):TE:=fun σ H Q=>te σ H fun x H1=>tl σ H1 fun l H2=>th σ H2 fun u H3=>r x l u H3 Q
theorem Zq4 {r:V→Option Int→Option Int→Hp→VK→Prop} (hr:SlR X r) (he:PE X e te) (hl:PO X lo tl) (hu:PO X hi th):PE X (.Subscript e (.Slice lo hi none p2) pos) (tSl r te tl th):=by
 intro pins s σ H Q I h
 refine Subscript_ (thn (he pins s σ H _ I h) fun v s1 qz9=>?_)
 obtain ⟨x,H1,I1,r1,q1⟩:=qz9
 refine wpAny_Slice (thn (hl pins s1 σ H1 _ I1 q1) fun vl s2 qz9=>?_)
 obtain ⟨l,H2,I2,pl,q2⟩:=qz9
 refine thn (hu pins s2 σ H2 _ I2 q2) fun vu s3 qz9=>?_
 obtain ⟨u,H3,I3,pu,q3⟩:=qz9
 rw [evalPart_none]
 refine wpAny_pure ?_
 have I4:Inv X pins σ H3 { s3 with heap:=s3.heap.push { cls:=.type "slice", data:=.fields #[vl,vu,.none] } }:=I3.kept (t':=s3.toks) fun b ob q=>Heap.get?_push_of_some _ q
 obtain ⟨T,id,hT,ht,hg⟩:=hr pins { s3 with heap:=s3.heap.push { cls:=.type "slice", data:=.fields #[vl,vu,.none] } } σ H3 x v vl vu l u s3.heap.objs.size Q I4 r1 (Heap.IsSliceOf.new ..) pl pu q3
 show wpAny (model X.prog X.w) X.A (subscriptTail e (.Slice lo hi none p2) v (.ref s3.heap.objs.size)) (EP X pins σ Q) X.xe { s3 with heap:=s3.heap.push { cls:=.type "slice", data:=.fields #[vl,vu,.none] } }
 exact tail_any (ops:=[.ref s3.heap.objs.size,v]) ht hT hg (by with_unfolding_all rfl)
def Zzm (xs:List V) (lo hi:Option Int):List V:=(xs.drop (HT.sIx xs.length 0 lo)).take (HT.sIx xs.length xs.length hi - HT.sIx xs.length 0 lo)
theorem Zj6 (xs:List V) (lo hi:Option Int):(Zzm xs lo hi).length <= xs.length:=by
 unfold Zzm
 rw [List.length_take,List.length_drop]
 omega
end
end L2
namespace L2
open PySem PySem.Spec PyProof.Rows
def ixN (n:Nat) (i:Int):Option Nat:=if 0 <= i then (if i < n then some i.toNat else none) else if -(n:Int) <= i then some (i + n).toNat else none
def atI  (xs:List α) (i:Int):Option α:=(ixN xs.length i).bind fun j=>xs[j]?
theorem Zyk {n:Nat} {i:Int}  (h:ixN n i = some j):seqIndex? i n = some j/\j < n/\-(n:Int) <= i/\i < n:=by
 unfold ixN at h
 by_cases h0:0 <= i
 .rw [if_pos h0] at h
  by_cases h1:i < n
  .rw [if_pos h1] at h
   have e:i.toNat = j:=Option.some.inj h
   exact ⟨by rw [seqIndex_of h0 h1,e],by omega,by omega,h1⟩
  .rw [if_neg h1] at h; cases h
 .rw [if_neg h0] at h
  by_cases h1:-(n:Int) <= i
  .rw [if_pos h1] at h
   have e:(i + n).toNat = j:=Option.some.inj h
   exact ⟨by rw [seqIndex_neg (by omega) h1,e],by omega,h1,by omega⟩
  .rw [if_neg h1] at h; cases h
theorem Zjp  {xs:List α} {i:Int} {v:α} (h:atI xs i = some v):∃ j,seqIndex? i xs.length = some j/\xs[j]? = some v/\j < xs.length/\-(xs.length:Int) <= i/\i < xs.length:=by
 unfold atI at h
 cases e:ixN xs.length i with
 | none=>rw [e] at h; cases h
 | some j =>
  rw [e] at h
  obtain ⟨h1,h2,h3,h4⟩:=Zyk e
  exact ⟨j,h1,h,h2,h3,h4⟩
theorem Ztl  (xs:List α) (v:α):atI (xs ++ [v]) (-1) = some v:=by
 have hl:(xs ++ [v]).length = xs.length + 1:=by simp
 have e:ixN (xs ++ [v]).length (-1) = some xs.length:=by
  unfold ixN
  rw [hl,if_neg (by decide),if_pos (by omega)]
  congr 1
  omega
 unfold atI
 rw [e]
 show (xs ++ [v])[xs.length]? = some v
 simp
def Zj9 (b:Expr):Prop:=∀ o i,subscripted b false o i = operate [o,i] (getItem o i)
def IxR (X:Cx) (r:R2):Prop :=
 ∀ (value slice:Expr) (pins:List (Addr × Obj)) (s:Shared) (σ:St) (H:Hp) (x y:V) (v u:Value) (Q:VK),Inv X pins σ H s→RelV x v→RelV y u→r x y H Q →
  subscripted slice false v u = operate [v,u] (getItem v u)→wpAny (model X.prog X.w) X.A (subscriptTail value slice v u) (EP X pins σ Q) X.xe s
def MtR (X:Cx) (id:String) (r:V→List V→Hp→VK→Prop):Prop :=
 ∀ (pins:List (Addr × Obj)) (s:Shared) (σ:St) (H:Hp) (x:V) (xs:List V) (v:Value) (us:List Value) (Q:VK),Inv X pins σ H s→RelV x v→Vals xs us→r x xs H Q →
  wpAny (model X.prog X.w) X.A (call (.builtin id) (v :: us)) (EP X pins σ Q) X.xe s
section
variable  {a:Expr}  
theorem IxR.or {r r':R2} (h:IxR X r) (h':IxR X r'):IxR X (fun x y H Q=>r x y H Q\/r' x y H Q):=by
 intro value slice pins s σ H x y v u Q I rx ry q hs
 rcases q with q | q
 .exact h value slice pins s σ H x y v u Q I rx ry q hs
 .exact h' value slice pins s σ H x y v u Q I rx ry q hs
theorem Z6p {r:R2} (hr:IxR X r) (ha:PE X a ta) (hb:PE X b tb) (hs:Zj9 b):PE X (.Subscript a b pos) (tOp r ta tb):=by
 intro pins s σ H Q I h
 exact Subscript_ (Z5m ha hb I h fun v u s2 x y H2 I2 rx ry q=>hr a b pins s2 σ H2 x y v u Q I2 rx ry q (hs _ _))
def Yah (K:PySem.W.Frag):R2:=fun x y H Q=>∃ p xs i v,x = .ref p/\y = .int i/\SqL K H p xs/\atI xs i = some v/\Q v H
def Yaz (K:PySem.W.Frag):R2:=fun x y H Q=>∃ p xs i v,x = .ref p/\y = .int i/\SqT K H p xs/\atI xs i = some v/\Q v H
def Ybb:R2:=fun x y H Q=>∃ z i c,x = .str z/\y = .int i/\z.length <= sizeLine/\atI z.cps.toList i = some c/\Q (.str ⟨#[c]⟩) H
theorem Zyq:IxR X (Yah X.K):=by
 intro value slice pins s σ H x y v u Q I rx ry h hs
 obtain ⟨p,xs,i,z,rfl,rfl,hq,he,q⟩:=h
 cases rx
 obtain ⟨t,rfl⟩:=ry
 obtain ⟨its,r,pl,hz⟩:=I.list hq
 obtain ⟨j,h1,h2,h3,h4,h5⟩:=Zjp he
 obtain ⟨w,ew,rw'⟩:=r.get h2
 have hl:=r.length
 have hn:=Zgj
 have fin:EP X pins σ Q w s:=⟨z,H,I,rw',q⟩
 by_cases h0:0 <= i
 .have hj:i.toNat = j:=by
   rw [seqIndex_of h0 h5] at h1
   exact Option.some.inj h1
  exact item_listR pl.isList h0 (by omega) (by rw [hj]; simpa using ew) fin hs
 .have hj:(i + (its.toArray.size:Int)).toNat = j:=by
   rw [seqIndex_neg (by omega) h4] at h1
   rw [List.size_toArray,<- hl]
   exact Option.some.inj h1
  exact subscriptTail_builtinR (x:=w) pl.isList.typeIs slot_list_getitem.lookup
   (wpAny_getItem_list_neg (Q:=fun r s'=>r = w/\EP X pins σ Q r s') pl.isList (by omega) (by rw [List.size_toArray] <;> omega) (by omega) (by rw [hj]; simpa using ew) ⟨rfl,fin⟩) hs
theorem Zz0:IxR X (Yaz X.K):=by
 intro value slice pins s σ H x y v u Q I rx ry h hs
 obtain ⟨p,xs,i,z,rfl,rfl,hq,he,q⟩:=h
 cases rx
 obtain ⟨t,rfl⟩:=ry
 obtain ⟨its,r,pl,hz⟩:=I.tuple hq
 obtain ⟨j,h1,h2,h3,h4,h5⟩:=Zjp he
 obtain ⟨w,ew,rw'⟩:=r.get h2
 have hl:=r.length
 have hn:=Zgj
 have fin:EP X pins σ Q w s:=⟨z,H,I,rw',q⟩
 exact subscriptTail_builtinR (x:=w) pl.typeIs slot_tuple_getitem.lookup
  (getItem_tuple (j:=j) (Q:=fun r s'=>r = w/\EP X pins σ Q r s') pl (by omega) (by omega) (by rw [List.size_toArray,<- hl]; exact h1) (by simpa using ew) ⟨rfl,fin⟩) hs
theorem Z12:IxR X Ybb:=by
 intro value slice pins s σ H x y v u Q I rx ry h hs
 obtain ⟨z,i,c,rfl,rfl,hz,he,q⟩:=h
 obtain ⟨t,rfl⟩:=rx
 obtain ⟨t',rfl⟩:=ry
 obtain ⟨j,h1,h2,h3,h4,h5⟩:=Zjp he
 have hl:z.cps.toList.length = z.length:=by simp [Str.length]
 rw [hl] at h1 h4 h5
 have hn:=Zgj
 exact tail_any (typeIs_str s z t) slot_str_getitem.lookup (getItem_str (c:=c) (by
  have e1:decide (i < -(2 ^ 63:Int)) = false:=decide_eq_false (by omega)
  have e2:decide (i >= 2 ^ 63) = false:=decide_eq_false (by omega)
  rw [e1,e2,Bool.or_false]) (by rw [h1]; simpa using h2) ⟨.str ⟨#[c]⟩,H,I.tok _,⟨_,rfl⟩,q⟩) hs
def rIx (K:PySem.W.Frag):R2:=fun x y H Q=>Yah K x y H Q\/Yaz K x y H Q\/Ybb x y H Q
theorem Z4g:IxR X (rIx X.K):=Zyq.or (Zz0.or Z12)
theorem Inv.lst  {σ:St}   {p:Addr}  (I:Inv X pins σ H s) (h:H p = some (.lst xs)) :
  ∃ (its:List Value) (n:Nat),Vals xs its/\s.heap.get? p = some { cls:=.type "list", data:=.seq its.toArray n }/\xs.length <= sizeLine:=by
 obtain ⟨z,its,n,r,e⟩:=I.hok p _ h
 exact ⟨its,n,r,e,z⟩
theorem Ziv (lo hi:Option Int) (n:Nat):(sliceBounds lo hi none n).1 = ((HT.sIx n 0 lo:Nat):Int)/\(sliceBounds lo hi none n).2.1 = ((HT.sIx n n hi:Nat):Int)/\(sliceBounds lo hi none n).2.2 = 1:=by
 refine ⟨?_,?_,rfl⟩
 .cases lo with
  | none=>simp [sliceBounds,HT.sIx]
  | some i =>
   simp only [sliceBounds,HT.sIx,Option.getD_none,show (1:Int) > 0 by decide,if_true]
   by_cases h:i < 0
   .simp only [h,if_true] <;> omega
   .simp only [h,if_false] <;> omega
 .cases hi with
  | none=>simp [sliceBounds,HT.sIx]
  | some i =>
   simp only [sliceBounds,HT.sIx,Option.getD_none,show (1:Int) > 0 by decide,if_true]
   by_cases h:i < 0
   .simp only [h,if_true] <;> omega
   .simp only [h,if_false] <;> omega
theorem Zhh (its:List Value) (lo hi:Option Int):slicePick its.toArray lo hi none = ((its.drop (HT.sIx its.length 0 lo)).take (HT.sIx its.length its.length hi - HT.sIx its.length 0 lo)).toArray:=by
 obtain ⟨h1,h2,h3⟩:=Ziv lo hi its.toArray.size
 unfold slicePick
 rw [h1,h2,h3]
 simp only [sliceRange_one,pick_run,List.size_toArray] <;> rfl
def Z9i (K:PySem.W.Frag):V→Option Int→Option Int→Hp→VK→Prop:=fun x lo hi H Q=>∃ a xs,x = .ref a/\SqL K H a xs/\∀ p,H p = none→Q (.ref p) (upd H p (.lst (Zzm xs lo hi)))
theorem Zyv:SlR X (Z9i X.K):=by
 intro pins s σ H x v vl vu lo hi sl Q I rx hs pl pu h
 obtain ⟨a,xs,rfl,hx,q⟩:=h
 cases rx
 obtain ⟨its,r,ht,hz⟩:=I.list hx
 have hlen:=r.length
 refine ⟨"list", _,slot_list_getitem.lookup,ht.isList.typeIs,?_⟩
 refine wpAny_getItem_list_slice ht.isList hs pl pu .none (by simp) ?_ (by rw [List.size_toArray] <;> omega)
 rw [Zhh,<- hlen]
 refine ⟨.ref s.heap.objs.size,_,I.laid (t':=s.toks) (o:=.lst (Zzm xs lo hi)) (fun b ob q=>Heap.get?_push_of_some _ q) (Nat.le_refl _) ?_,rfl,q _ (I.hok.fresh (Nat.le_refl _))⟩
 exact ⟨Nat.le_trans (Zj6 xs lo hi) hz,_,0,(r.drop (HT.sIx xs.length 0 lo)).take (HT.sIx xs.length xs.length hi - HT.sIx xs.length 0 lo),Heap.get?_push_size _ rfl⟩
theorem Zi3:OpR X (compareOp .NotIn) (fun x y H Q=>∃ i j,x = .str i/\y = .str j/\Q (.bl (!(!(Builtin.Str.occurrences j i 0 j.length 1).isEmpty))) H):=by
 intro pins s σ H x y v u Q I rx ry h
 obtain ⟨i,j,rfl,rfl,q⟩:=h
 obtain ⟨t,rfl⟩:=rx
 obtain ⟨t',rfl⟩:=ry
 exact notIn_str ⟨.bl _,H,I,rfl,q⟩
theorem Zja:Zac X (.builtin "len") (fun xs H Q=>∃ p ys,xs = [.ref p]/\(SqL X.K H p ys\/SqT X.K H p ys)/\Q (.int ys.length) H):=by
 intro pins s σ H xs us Q I r h
 obtain ⟨p,ys,rfl,hq,q⟩:=h
 obtain ⟨u,rfl,rx⟩:=vals1 r
 cases rx
 have hn:=Zgj
 rcases hq with hq | hq
 .obtain ⟨its,r',pl,hz⟩:=I.list hq
  have hlen:=r'.length
  exact Calls.call_len_list pl.isList (by simp only [List.size_toArray] <;> omega) ⟨.int ys.length,H,I.tok _,⟨s.toks + 1,by rw [List.size_toArray,hlen]⟩,q⟩
 .obtain ⟨its,r',pl,hz⟩:=I.tuple hq
  have hlen:=r'.length
  exact len_tuple pl (by simp only [List.size_toArray] <;> omega) ⟨.int ys.length,H,I.tok _,⟨s.toks + 1,by rw [List.size_toArray,hlen]⟩,q⟩
theorem Zh3:Zac X (.builtin "len") (fun xs H Q=>∃ z,xs = [.str z]/\z.length <= sizeLine/\Q (.int z.length) H):=by
 intro pins s σ H xs us Q I r h
 obtain ⟨z,rfl,hz,q⟩:=h
 obtain ⟨u,rfl,t,rfl⟩:=vals1 r
 have hn:=Zgj
 exact len_str (by omega) ⟨.int z.length,H,I.tok _,⟨_,rfl⟩,q⟩
theorem Zh6:Zac X (.type "list") (fun xs H Q=>∃ p ys,xs = [.ref p]/\(SqL X.K H p ys\/SqT X.K H p ys)/\∀ l,H l = none→Q (.ref l) (upd H l (.lst ys))):=by
 intro pins s σ H xs us Q I r h
 obtain ⟨p,ys,rfl,hq,q⟩:=h
 obtain ⟨u,rfl,rx⟩:=vals1 r
 cases rx
 have fin:∀ (its:List Value),Vals ys its→ys.length <= sizeLine→∀ (h':Heap) (c':Nat),(∀ b o',s.heap.get? b = some o'→h'.get? b = some o') →
   h'.get? s.heap.objs.size = some { cls:=.type "list", dict:=none,data:=.seq its.toArray c',slots:=#[] }→EP X pins σ Q (.ref s.heap.objs.size) { s with heap:=h' }:=fun its r' hz h' c' kp e =>
  ⟨.ref s.heap.objs.size,_,I.laid (t':=s.toks) kp (Nat.le_refl _) (show ObjOk X.prog X.w _ h' _ (.lst ys) from ⟨hz,its,c',r',e⟩),rfl,q _ (I.hok.fresh (Nat.le_refl _))⟩
 rcases hq with hq | hq
 .obtain ⟨its,r',pl,hz⟩:=I.list hq
  have hlen:=r'.length
  obtain ⟨o,ho,hc,n,hd⟩:=pl.isList
  exact call_list_seq p (.inl rfl) ho hc hd (fun h' c' kp e=>fin its r' hz h' c' kp e) (by simp only [List.size_toArray] <;> omega)
 .obtain ⟨its,r',pl,hz⟩:=I.tuple hq
  have hlen:=r'.length
  obtain ⟨o,ho,hc,n,hd⟩:=pl
  exact call_list_seq p (.inr rfl) ho hc hd (fun h' c' kp e=>fin its r' hz h' c' kp e) (by simp only [List.size_toArray] <;> omega)
theorem Zhf:Zac X (.type "tuple") (fun xs H Q=>∃ p ys,xs = [.ref p]/\((SqL X.K H p ys/\∀ l,H l = none→Q (.ref l) (upd H l (.tup ys)))\/(SqT X.K H p ys/\Q (.ref p) H))):=by
 intro pins s σ H xs us Q I r h
 obtain ⟨p,ys,rfl,h⟩:=h
 obtain ⟨u,rfl,rx⟩:=vals1 r
 cases rx
 rcases h with ⟨hq,q⟩ | ⟨hq,q⟩
 .obtain ⟨its,r',pl,hz⟩:=I.list hq
  have hlen:=r'.length
  refine call_tuple_list pl.isList (fun h' kp=>?_) (by simp only [List.size_toArray] <;> omega)
  have I1:Inv X pins σ H { s with heap:=h' }:=I.kept (t':=s.toks) kp
  have I2:Inv X pins σ (upd H h'.objs.size (.tup ys)) { s with heap:=h'.push { cls:=.type "tuple", data:=.seq its.toArray } } :=
   I1.laid (t':=s.toks) (fun b o e=>Heap.get?_push_of_some _ e) (Nat.le_refl _) (show ObjOk X.prog X.w _ _ _ (.tup ys) from ⟨hz,its,r',IsTup.new _ _⟩)
  exact ⟨.ref h'.objs.size,_,I2,rfl,q _ (I1.hok.fresh (Nat.le_refl _))⟩
 .obtain ⟨its,r',pl,hz⟩:=I.tuple hq
  exact call_tuple_same pl ⟨.ref p,H,I,rfl,q⟩
def tyV (K:PySem.W.Frag) (T:String) (x:V) (H:Hp):Prop:=match x with
 | .str _=>T = "str"
 | .int _=>T = "int"
 | .ref p=>(T = "list" /\ ∃ xs,SqL K H p xs)\/(T = "tuple" /\ ∃ o,K.lookup p = some o/\o.cls = .type "tuple" /\ o.dict = none) \/
   (T = "dict" /\ ((∃ kvs,H p = some (.dK kvs))\/∃ kvs,H p = some (.dT kvs)))\/(T = "set" /\ ∃ S n,H p = some (.set S n))
 | _=>False
theorem Z3t  {σ:St}   {T:String} {x:V} {v:Value} (I:Inv X pins σ H s) (r:RelV x v) (ty:tyV X.K T x H) :
  s.TypeIs v T/\∀ a,v = .ref a→∃ ob,s.heap.get? a = some ob/\ob.dict = none:=by
 cases x with
 | str z =>
  obtain ⟨t,rfl⟩:=r
  cases (show T = "str" from ty)
  exact ⟨typeIs_str s z t,fun _ e=>nomatch e⟩
 | int i =>
  obtain ⟨t,rfl⟩:=r
  cases (show T = "int" from ty)
  exact ⟨typeIs_int s i t,fun _ e=>nomatch e⟩
 | ref p =>
  cases r
  rcases ty with ⟨rfl,xs,hq⟩ | ⟨rfl,o,hk,hc,hd⟩ | ⟨rfl,hk⟩ | ⟨rfl,S,n,hk⟩
  .obtain ⟨its,_,pl,_⟩:=I.list hq
   refine ⟨pl.isList.typeIs,fun a e=>?_⟩
   cases e
   obtain ⟨o,n,e,c,hd,_⟩:=pl
   exact ⟨o,e,hd⟩
  .refine ⟨⟨o,I.kIn p o hk,hc⟩,fun a e=>?_⟩
   cases e
   exact ⟨o,I.kIn _ o hk,hd⟩
  .have z:∃ o,s.heap.get? p = some o/\o.ExactDict:=by
    rcases hk with ⟨kvs,hk⟩ | ⟨kvs,hk⟩
    .obtain ⟨_,_,_,_,o,_,_,e,ex,_⟩:=I.hok p _ hk
     exact ⟨o,e,ex⟩
    .obtain ⟨_,_,_,_,o,_,_,e,ex,_⟩:=I.hok p _ hk
     exact ⟨o,e,ex⟩
   obtain ⟨o,e,ex⟩:=z
   refine ⟨⟨o,e,ex.1⟩,fun a e2=>?_⟩
   cases e2
   exact ⟨o,e,ex.2.1⟩
  .obtain ⟨o,_,_,_,e,ex,_⟩:=I.hok p _ hk
   refine ⟨⟨o,e,ex.1⟩,fun a e2=>?_⟩
   cases e2
   exact ⟨o,e,ex.2.1⟩
 | _=>exact False.elim ty
def tBM (K:PySem.W.Frag) (T:String) (r:V→List V→Hp→VK→Prop) (to:TE) (t:TA):TE:=fun σ H Q=>to σ H fun x H1=>tyV K T x H1/\t σ H1 fun xs H2=>r x xs H2 Q
variable {o:Expr}  {to:TE} {t:TA} {name:Str} {apos cpos:Pos} {T id:String} {r:V→List V→Hp→VK→Prop}
theorem Zsq (pa:PlainAttrs T) (slot:Slot T name id) (hty:typeOf (.builtin id) = pure (.type "method_descriptor")) (hm:MtR X id r) (ho:PE X o to) (ha:PA X (e :: es) t)
  (hbase:attributeBase o name X.env (eval o X.env) = eval o X.env:=by rfl)
  (hfew:((backTo cpos (starEach (e :: es) X.env)).all (fun x=>!x.1) && (backToKw cpos (keywordEach [] X.env)).all (fun x=>x.1.isSome)
   && decide ((e :: es).length + ([]:List Keyword).length + (if ([]:List Keyword).isEmpty then 0 else 1) < 30)) = true:=by rfl)
  (hline:(apos.endLine == cpos.line) = true:=by rfl) (hs:starEach (e :: es) X.env = (false,eval e X.env) :: starEach es X.env:=by rfl) (hplain:(backTo cpos (starEach es X.env)).any (·.1) = false:=by rfl) :
  PE X (.Call (.Attribute o name apos) (e :: es) [] cpos) (tBM X.K T r to t):=by
 intro pins s σ H Q I h
 refine wpAny_Call_method_late hbase hfew hline rfl (thn (ho pins s σ H _ I h) fun v s1 qz9=>?_)
 obtain ⟨x,H1,I1,r1,ty,q1⟩:=qz9
 obtain ⟨h1,h2⟩:=Z3t I1 r1 ty
 refine ⟨T,id,pa,slot,hty,h1,h2,?_⟩
 have hA:=ha cpos pins s1 σ H1 _ I1 q1
 rw [hs] at hA |-
 refine Calls.callWith_builtin (by show (false || (backTo cpos (starEach es X.env)).any (·.1)) = false; rw [hplain] <;> rfl) (Calls.evalArgs_plain ?_)
 refine thn hA fun us s2 qz9=>?_
 obtain ⟨vs,H2,I2,r2,q2⟩:=qz9
 exact hm pins s2 σ H2 x vs v us Q I2 r1 r2 q2
end
end L2
namespace L2
open PySem PySem.Spec PyProof.Rows
def MtM (X:Cx) (id:String) (r:V→List V→Hp→VK→Prop):Prop :=
 ∀ (pins:List (Addr × Obj)) (s:Shared) (σ:St) (H:Hp) (x:V) (xs:List V) (v:Value) (us:List Value) (Q:VK),Inv X pins σ H s→RelV x v→Vals xs us→r x xs H Q →
  wpAny (model X.prog X.w) X.A (call (.builtin id) (v :: us)) (EP X pins σ Q) X.xe s
theorem Vals.one {x:V}  (h:Vals [x] us):∃ u,us = [u]/\RelV x u:=by
 cases h with
 | cons r t=>cases t; exact ⟨_,rfl,r⟩
theorem Vals.zero:∀ {us:List Value},Vals [] us→us = []
 | _,.nil=>rfl
section
variable   {σ:St}   {l b:Addr} {zs:List V}
theorem Inv.lset {its its':List Value} {n:Nat} {f:Array Value→Array Value}  (I:Inv X pins σ H s) (hH:H l = some (.lst xs))
  (e:s.heap.get? l = some { cls:=.type "list", data:=.seq its.toArray n }) (hf:f its.toArray = its'.toArray) (hv:Vals ys its') (hz:ys.length <= sizeLine) :
  Inv X pins σ (upd H l (.lst ys)) { s with heap:=s.heap.update l (Obj.mapSeq f),toks:=t' }:=by
 have q:=PySem.IsL.update e f
 rw [hf] at q
 refine I.write (x:=l) (e:=l) (by rw [hH]; exact trivial) (.inl rfl) (fun b' u hb hu=>(Heap.get?_update_other s.heap (Obj.mapSeq f) (Ne.symm hb)).trans hu) ⟨_,q⟩ ?_
 exact ⟨hz,its',_,hv,q⟩
theorem Inv.fresh (I:Inv X pins σ H s):H s.heap.objs.size = none:=I.hok.fresh (Nat.le_refl _)
theorem Inv.lstM (I:Inv X pins σ H s) (hH:H l = some (.lst xs)):xs.length <= sizeLine/\∃ (its:List Value) (n:Nat),Vals xs its/\xs.length = its.length/\s.heap.get? l = some { cls:=.type "list", data:=.seq its.toArray n }:=by
 obtain ⟨z,its,n,r,e⟩:=I.hok l _ hH
 exact ⟨z,its,n,r,r.length,e⟩
end
def Zy6:V→List V→Hp→VK→Prop:=fun x vs H Q=>∃ l xs y,x = .ref l/\vs = [y]/\H l = some (.lst xs)/\xs.length < sizeLine/\Q .non (upd H l (.lst (xs ++ [y])))
theorem Zfj:MtM X "list.append" Zy6:=by
 intro pins s σ H x vs v us Q I rx rv h
 obtain ⟨l,xs,y,rfl,rfl,hH,hz,q⟩:=h
 cases rx
 obtain ⟨u,rfl,ru⟩:=rv.one
 obtain ⟨z,its,n,r,hl,e⟩:=I.lstM hH
 refine call_meets F.slot_list_append ⟨_,e,rfl⟩ F.entry_list_append (F.args_list_append_2 _ _) (PySem.list_append l its.toArray n u (by rw [List.size_toArray]; omega)) ⟨e,?_⟩
 refine ⟨.non,_,I.lset (its':=its ++ [u]) hH e (by simp) (r.append (.cons ru .nil)) ?_,rfl,q⟩
 rw [List.length_append,List.length_singleton]
 omega
section
variable {prog:Program}    
end
end L2
namespace Att
open PySem PySem.W PySem.Calls PyProof.Rows
theorem Zel {P:Params} :∀ (ns:List Int) (vs:List Value),WellAll P h vs (ns.map WData.int)→IntsAre vs ns:=by
 intro ns
 induction ns with
 | nil =>
  intro vs w
  rw [List.map_nil] at w
  cases w
  exact .nil
 | cons n ns ih =>
  intro vs w
  rw [List.map_cons] at w
  cases w with
  | cons a b =>
   cases a
   exact .cons _ _ (ih _ b)
theorem Zng {l:OpenLaw} {n:Nat} (hn:l.most = some n) {P:Params}  {args:List WData} {vals:List Value}
  (hpre:l.row.toRowW.claim.pre args = true) (hwl:WellAll P h vals args) :
  ∃ a vs ns,vals = [Value.ref a]/\args = [WData.list (ns.map WData.int)]/\h.get? a = some { cls:=.type "list", data:=.seq vs.toArray }/\IntsAre vs ns/\ns.length <= n:=by
 have hsh:WShape.hasAll [] args [.list .int] = true:=(pre_splitW hpre).1
 have hc:l.pre.holds [] { args:=args } = true:=(pre_splitW hpre).2
 obtain ⟨d,r,rfl,h1,h2⟩:=hasAllW_cons hsh
 obtain rfl:=hasAllW_nil h2
 obtain ⟨xs,rfl,h3⟩:=hasW_list h1
 obtain ⟨ns,rfl⟩:=items_int h3
 have hlen:ns.length <= n:=by
  unfold OpenLaw.pre at hc
  have h4:(WTm.not (.lt (.lit (.int (n:Int))) (.len (.arg 0)))).holds [] { args:=[.list (ns.map .int)] } = true:=by
   have h4:=(holds_andW hc).1
   rw [hn] at h4
   exact h4
  have h5:=condW_of h4 (w_not (w_lt w_lit (w_len_list (w_arg rfl))))
  rw [List.length_map] at h5
  refine Nat.le_of_not_lt fun q=>?_
  have q':(n:Int) < ((ns.length:Nat):Int):=by omega
  first
   | (rw [decide_eq_true q'] at h5; exact absurd h5 (by decide))
   | (simp at h5; omega)
 cases hwl with
 | cons w1 w2 =>
  cases w2
  cases w1 with
  | list ho hall=>exact ⟨_,_,ns,rfl,rfl,ho,Zel ns _ hall,hlen⟩
theorem Zpe (l:OpenLaw) (args:List WData):l.row.toRowW.claim.post args (.bool true) args = true :=
 postW_of (r:=l.row.toRowW) (X:=(true == true))
  (show WShape.has [] (.bool true) .bool = true by first | rfl | decide | simp [WShape.has,WShape.arms,WShape.armsAll])
  (show (WTm.eq .res (.lit (.bool true))).value [] { args:=args,res:=some (.bool true),after:=args } = some (.bool (true == true)) from w_eq_bool (w_res rfl) w_lit) rfl
theorem attach_call {l:OpenLaw} {n:Nat} {q:Program} {loose:List Str} {XP:(Str→Option Value)→Heap→Prop} {YP:World→Heap→Prop} {d:DefRec}
  (hn:l.most = some n) (hdf:d.params.defaults = [])
  (call:∀ (w:World) (s₀ s₁:Shared) (mg mb:Str→Option Value) (fa:Addr) (o:Obj) (pm cd doc:Value) (a:Addr) (vs:List Value) (ns:List Int),
   Ground q loose [] XP w s₀ mg mb s₁.heap→YP w s₁.heap →
   s₁.heap.get? fa = some o→o.data = .func (docDef d.name d.params d.body d.scope pm cd doc)→s₁.heap.CodeRec cd d.name→mg d.name = some (.ref fa) →
   s₁.heap.get? a = some { cls:=.type "list", data:=.seq vs.toArray }→IntsAre vs ns→ns.length <= n→s₁.gens = #[] →
   codeAny (model l.prog w) callerA (.call (.ref fa) ⟨[.ref a],[]⟩) (fun r s'=>r = .ok (.ret (.bool true))/\OldK s₁.heap s'.heap/\s'.os = s₁.os/\AllBare s'.gens) s₁) :
  WalkO q loose XP YP l.row.toRowW d [] (fun f vs=>PySem.call f vs):=by
 intro w s₀ s₁ mg mb G Y fa o pm cd doc dV kV ho hd hcd hD hmg hg args vals as hpre hlay hrd hwl hlo
 obtain rfl:dV = .none:=Dflts.none hD hdf
 obtain rfl:kV = .none:=Dflts.noKw hD
 obtain ⟨a,vs,ns,rfl,rfl,hobj,hints,hlen⟩:=Zng hn hpre hwl
 refine enter_call (codeAny_mono (call w s₀ s₁ mg mb fa o pm cd doc a vs ns G Y ho (fd_plain hd) hcd hmg hobj hints hlen hg) fun r s' hq=>?_)
 obtain ⟨rfl,h2,h3,h4⟩:=hq
 exact ⟨.inl ⟨.bool true,.bool true,[],rfl,fun _=>rfl,.bool true,Zpe l _,fun _=>⟨List.Pairwise.nil,fun _ hm=>(nomatch hm)⟩⟩,h2,h3,h4⟩
section
variable {prog:Program}     {K:Frag}
end
end Att
namespace L2
open PySem PySem.Spec PyProof.Rows
theorem Znx {vs:List Value} {ns:List Int} (h:IntsAre vs ns):Vals (ns.map V.int) vs:=by
 induction h with
 | nil=>exact .nil
 | cons n t h ih=>exact .cons ⟨t,rfl⟩ ih
def Only (H:Hp):Prop:=∀ b,H b = none\/∃ o xs,H b = some (.frz o (.lst xs))
theorem Zrj    {mg mb:Str→Option Value} {CX:CXT} {k:Nat} {fa:Addr} {fd:FuncData}  {sp:Sp} {s₁:Shared} {vs:List Value} {ns:List Int}
  (KX:K.In s₁.heap) (hns:s₁.heap.Ns mainGlobals mg) (hb:s₁.heap.Ns builtinsNs mb) (hbb:∀ x:Str,x ≠ "__name__" → mb x = bootBuiltins x) (hlim:s₁.heap.NoLimit) (hg:s₁.gens = #[])
  (ha:s₁.heap.get? a = some { cls:=.type "list", data:=.seq vs.toArray }) (hi:IntsAre vs ns) (hl:ns.length <= sizeLine) (hr:Room k callerA)
  (F:∀ base:Heap,K.In base→base.Ns mainGlobals mg→FnOk P w K mg base CX k fa fd [x] sp) (hbind:∀ (s:Shared) (u:Value),BindsTo s fd ⟨[u],[]⟩ [(x,u)])
  (hsp:∀ H:Hp,Only H→SqL K H a (ns.map V.int)→sp [.ref a] H (fun v _=>v = .bl true) fun _ _ _=>False)
  (hCX:∀ H e s',CX [] H s₁ (fun _ _ _=>False) e s'→False) :
  codeAny (model P w) callerA (.call (.ref fa) ⟨[.ref a],[]⟩) (fun r s'=>r = .ok (.ret (.bool true))/\OldK s₁.heap s'.heap/\s'.os = s₁.os/\AllBare s'.gens) s₁:=by
 have rv:=Znx hi
 have lenV:=hi.length
 -- from an abstract heap in which nothing but the script may be tracked
 have core:∀ H:Hp,Only H→SqL K H a (ns.map V.int)→HOk P w H s₁.heap→(∀ b,H b ≠ none→b = a)→(H a ≠ none→K.lookup a = none) →
   codeAny (model P w) callerA (.call (.ref fa) ⟨[.ref a],[]⟩) (fun r s'=>r = .ok (.ret (.bool true))/\OldK s₁.heap s'.heap/\s'.os = s₁.os/\AllBare s'.gens) s₁:=by
  intro H hO hS hok hA hK
  have base_of:∀ {b:Addr} {o:Obj},s₁.heap.get? b = some o→H b = none→(Zr0 s₁.heap H).get? b = some o:=fun e n=>Ztw e n
  have noA:∀ {b:Addr} {o:Obj} {es:Array DictEntry} {ep:Nat},s₁.heap.get? b = some o→o.data = .dict es ep→H b = none:=fun {b o es ep} e d=>by
   cases q:H b with
   | none=>rfl
   | some u =>
    have e':b = a:=hA b (by rw [q]; simp)
    subst e'
    rw [ha] at e; cases e
    have d':Data.seq vs.toArray _ = Data.dict es ep:=d
    cases d'
  have nsK:∀ {b:Addr} {m:Str→Option Value},s₁.heap.Ns b m→(Zr0 s₁.heap H).Ns b m:=fun {b m} ⟨o,es,ep,e,d,r⟩=>⟨o,es,ep,base_of e (noA e d),d,r⟩
  have hKb:K.In (Zr0 s₁.heap H):=fun b o e=>base_of (KX b o e) (by
   cases q:H b with
   | none=>rfl
   | some u =>
    have e':b = a:=hA b (by rw [q]; simp)
    subst e'
    rw [hK (by rw [q]; simp)] at e; cases e)
  have hM:Mod K mg (Zr0 s₁.heap H):=⟨hKb,nsK hns,⟨mb,nsK hb,hbb⟩,let ⟨mc,h1,h2⟩:=hlim; ⟨mc,nsK h1,h2⟩⟩
  have e0:Z5k P w K mg (Zr0 s₁.heap H) callerA [] s₁ H:=⟨rfl,hM,fun b o e=>Zvs e,Nat.le_of_eq (Zpf _ _),trivial,fun b hb=>absurd (show b ∈ ([]:List Addr) from hb) (by simp),hok,.of_eq hg⟩
  refine codeAny_mono ((F _ hKb (nsK hns)).run callerA [] s₁ H ⟨[.ref a],[]⟩ [.ref a] [.ref a] _ _ hr e0 (hbind s₁ (.ref a)) (.cons rfl .nil) (hsp H hO hS)) fun r s' h=>?_
  cases r with
  | error e=>exact (hCX H e s' h).elim
  | ok fl =>
   cases fl with
   | next=>exact False.elim h
   | brk=>exact False.elim h
   | cont=>exact False.elim h
   | ret u =>
    obtain ⟨v,H',os,bare,un,hok',r',q⟩:=h
    have q':v = .bl true:=q
    subst q'
    obtain rfl:u = Value.bool true:=r'
    refine ⟨rfl,OldK.of_keep fun b o e=>?_,os,bare⟩
    cases q:H b with
    | none=>exact un.keep b o e q (by intro z; exact absurd (show b ∈ ([]:List Addr) from z) (by simp)) (by simp)
    | some u =>
     rcases hO b with z | ⟨ob,xs,z⟩
     .rw [q] at z; cases z
     .have z2:=un.frzs b ob _ z
      obtain ⟨e1,_⟩:=hok b _ z
      obtain ⟨e2,_⟩:=hok' b _ z2
      rw [e] at e1; cases e1
      exact e2
 cases hk:K.lookup a with
 | some o =>
  -- the script is one of the module's own objects
  have e:=KX a o hk
  rw [ha] at e
  cases e
  refine core (fun _=>none) (fun _=>.inl rfl) (.inr ⟨_,vs.toArray,_,hk,rfl,rfl,rfl,by rw [List.size_toArray,lenV]; exact hl,by simpa using rv⟩) (fun b u z=>by have z':(none:Option HO) = some u:=z; cases z') (fun b z=>absurd rfl z) fun z=>absurd rfl z
 | none =>
  refine core (fun b=>if b = a then some (.frz { cls:=.type "list", data:=.seq vs.toArray } (.lst (ns.map V.int))) else none) (fun b=>?_) (.inl (.inr ⟨{ cls:=.type "list", data:=.seq vs.toArray },if_pos rfl⟩)) (fun b u z=>?_) (fun b z=>?_) fun _=>hk
  .by_cases hb:b = a
   .exact .inr ⟨_,_,if_pos hb⟩
   .exact .inl (if_neg hb)
  .by_cases hb:b = a
   .have z':=(if_pos hb).symm.trans z
    cases z'
    subst hb
    exact ⟨ha,by rw [List.length_map]; exact hl,vs,_,rv,ha⟩
   .have z':=(if_neg hb).symm.trans z
    cases z'
  .by_cases hb:b = a
   .exact hb
   .exact absurd (if_neg hb) z
end L2
namespace L2
open PySem PySem.Spec PyProof.Rows
abbrev KOf   (_:K.In h):PySem.W.Frag:=K
end L2
variable {XP:(Str→Option Value)→Heap→Prop}{dx C:Addr}{CX:CXT}{op op':CmpOp}{value:Expr}{ns:List Int}{ps loose:List Str}{zs:List V}{vs:List Value}{lo hi:Option Expr}{apos p2 cpos:Pos}{prog:Program}{l:PySem.W.OpenLaw}{r r':R2}{sc scope:Scope}{sp:Sp}{name qual:Str}{id:String}{kindOf:Str→Option NameKind}{mA mg:Str→Option Value}{tc to:TE}{YP:World→Heap→Prop}
namespace L2
open PySem PySem.Spec PyProof.Rows
theorem Zys  {n k:Nat} {q:Program}    {d:DefRec} {K:Params→PySem.W.Frag} {CX:World→CXT} {sp:World→Sp} 
  (hn:l.most = some n) (hn2:n <= sizeLine) (hdf:d.params.defaults = []) (hr:Room k callerA)
  (hY:∀ (w:World) (h:Heap),YP w h→(K w.params).In h)
  (F:∀ (w:World) (mg:Str→Option Value) (fa:Addr) (h:Heap),(K w.params).In h→h.Ns mainGlobals mg→mg d.name = some (.ref fa) →
   ∃ fd:FuncData,(∀ (s:Shared) (u:Value),BindsTo s fd ⟨[u],[]⟩ [(x,u)]) /\
    ∀ base:Heap,(K w.params).In base→base.Ns mainGlobals mg→FnOk l.prog w (K w.params) mg base (CX w) k fa fd [x] (sp w))
  (hsp:∀ (w:World) (H:Hp) (a:Addr) (ns:List Int),ns.length <= n→Only H→SqL (K w.params) H a (ns.map V.int)→sp w [.ref a] H (fun v _=>v = .bl true) fun _ _ _=>False)
  (hCX:∀ (w:World) (H:Hp) (s:Shared) (e:Value) (s':Shared),CX w [] H s (fun _ _ _=>False) e s'→False) :
  PySem.W.WalkO q loose XP YP l.row.toRowW d [] (fun f vs=>PySem.call f vs):=by
 refine Att.attach_call hn hdf fun w s₀ s₁ mg mb fa o pm cd doc a vs ns G Y ho hd hcd hmg hobj hints hlen hg=>?_
 have KX:=hY w _ Y
 obtain ⟨fd,hb,hF⟩:=F w mg fa _ KX G.T.g hmg
 exact Zrj KX G.T.g G.T.b G.T.builtins G.T.nolimit hg hobj hints (Nat.le_trans hlen hn2) hr hF hb (fun H hO hS=>hsp w H a ns hlen hO hS) fun H e s'=>hCX w H s₁ e s'
end L2
namespace L2
open PySem PySem.Spec PyProof.Rows
def Zc8 (s:Stmt):Arguments:=match s with
 | .FunctionDef _ a _ _ _ _ _ _ _ _=>a
 | _=>{ posonlyargs:=[],args:=[],vararg:=none,kwonlyargs:=[],kw_defaults:=[],kwarg:=none,defaults:=[] }
def Zad (s:Stmt):List Stmt:=match s with
 | .FunctionDef _ _ b _ _ _ _ _ _ _=>b
 | _=>[]
def Zh (s:Stmt):Scope:=match s with
 | .FunctionDef _ _ _ _ _ _ sc _ _ _=>sc
 | _=>{ kind:=.function,names:=[],isGenerator:=false,isCoroutine:=false }
abbrev CX0:CXT:=fun _ _ _ _ _ _=>False
abbrev E0:XK:=fun _ _ _=>False
theorem Zwr :Zk9 CX0 X E0:=fun _ _ _ _ _ _ _ h=>h.elim
structure Fun (K:PySem.W.Frag) (x qual:Str) (st:Stmt) (f:Addr) (fd:FuncData):Prop where
 ex:∃ (oc:Value) (od:Option Addr) (kV doc pm:Value) (an:Option Addr) (cdv ct:Value) (osl:Array (Option Value)),
  fd = PySem.W.fnOf x qual (Zc8 st) (Zad st) (Zh st) .none kV doc pm an cdv ct/\K.lookup f = some ⟨oc,od,.func fd,osl⟩/\PySem.W.codeIn K cdv qual = true
 kp:PySem.W.keepIn K (.ref f) = true
section
variable     {base:Heap}
theorem Fun.ok   {f:Addr} {fd:FuncData}  {k:Nat}  (F:Fun K x qual st f fd) (S:Zr N ps (Zh st)) (len:∀ vs H Q E,sp vs H Q E→vs.length = ps.length)
  (hbody:∀ (cdv:Value) (A:Around) (outer:List Env) (s:Shared) (H:Hp) (vs:List V) (Q:VK) (E:XK),Room k (A.deeper (envOfC qual (Zh st) s.heap.objs.size f cdv))→sp vs H Q E →
   ∃ t,PSs (Zvp CX0 P w K mg base N qual (Zh st) f cdv A outer s H E).nox (Zad st) t/\t { nx:=fun _ H'=>Q .non H',rt:=Q } (start N vs) H):FnOk P w K mg base CX0 (k + 1) f fd ps sp:=by
 obtain ⟨oc,od,kV,doc,pm,an,cdv,ct,osl,rfl,lk,hcd⟩:=F.ex
 refine Z7z lk hcd S len fun A outer s H vs Q E hr hsp=>?_
 obtain ⟨t,h,q⟩:=hbody cdv A outer s H vs Q E hr hsp
 exact ⟨t,h.nox,q⟩
theorem Fun.binds   {f:Addr} {fd:FuncData}  (F:Fun K x qual st f fd)
  (h:∀ (kV doc pm:Value) (an:Option Addr) (cdv ct:Value) (us:List Value),us.length = ps.length→bindArgs (PySem.W.fnOf x qual (Zc8 st) (Zad st) (Zh st) .none kV doc pm an cdv ct) ⟨us,[]⟩ = pure (ps.zip us)):Binds K fd ps []:=by
 obtain ⟨oc,od,kV,doc,pm,an,cdv,ct,osl,rfl,lk,hcd⟩:=F.ex
 exact .all (h kV doc pm an cdv ct)
theorem Z0z   {f:Addr} {oc:Value} {od an:Option Addr} {osl:Array (Option Value)} {kV doc pm cdv ct:Value} (l:K.lookup f = some ⟨oc,od,.func (PySem.W.fnOf x qual (Zc8 st) (Zad st) (Zh st) .none kV doc pm an cdv ct),osl⟩)
  (c:PySem.W.codeIn K cdv qual = true) (k:PySem.W.keepIn K (.ref f) = true):Fun K x qual st f (PySem.W.fnOf x qual (Zc8 st) (Zad st) (Zh st) .none kV doc pm an cdv ct):=⟨⟨oc,od,kV,doc,pm,an,cdv,ct,osl,rfl,l,c⟩,k⟩
end
theorem pv (i:Nat)   (hN:X.N[i]? = some x:=by rfl) (hv:Vis X.env.scope x:=by first | exact Or.inl rfl | exact Or.inr (Or.inl rfl) | exact Or.inr (Or.inr rfl)) (hd:(x == ("__debug__" : Str)) = false:=by decide)
  (hcd:(x == ("__classdict__" : Str)) = false:=by decide):PE X (.Name x pos) (Z8y i):=Zzw hN hv hd hcd
def Same (H H':Hp):Prop:=∀ b o,H b = some o→H' b = some o
theorem Same.refl (H:Hp):Same H H:=fun _ _ h=>h
theorem Same.trans  (a:Same H H1) (b:Same H1 H2):Same H H2:=fun c o h=>b c o (a c o h)
theorem Same.free  (e:Same H H') {l:Addr} (h:H' l = Option.none):H l = Option.none:=by
 cases q:H l with
 | none=>rfl
 | some o =>
  rw [e l o q] at h
  cases h
theorem Same.seq     (e:Same H H') (h:SqL K H a xs):SqL K H' a xs:=by
 rcases h with (h | ⟨o,h⟩) | h
 .exact .inl (.inl (e _ _ h))
 .exact .inl (.inr ⟨o,e _ _ h⟩)
 .exact .inr h
end L2
set_option maxHeartbeats 4000000
namespace L2
open PySem PySem.Spec PyProof.Rows
def Bt (n:Nat) (x:Int):Prop:=x.natAbs < 2 ^ n
theorem Bt.neg {m:Nat} {x:Int} (h:Bt m x):Bt m (-x):=by
 unfold Bt at *
 rw [Int.natAbs_neg]
 exact h
theorem Bt.of_le {m:Nat} {x y:Int} (h:Bt m x) (k:y.natAbs <= x.natAbs):Bt m y:=Nat.lt_of_le_of_lt k h
theorem Bt.of_lt {m:Nat} {x:Int} (h1:-(2 ^ m) < x) (h2:x < 2 ^ m):Bt m x:=by
 unfold Bt
 have e:((2 ^ m:Nat):Int) = 2 ^ m:=by simp
 omega
def DivOk (_ j:Int):Prop:=j ≠ 0/\j.natAbs.log2 < 9000
theorem DivOk.of {i j:Int} {n:Nat} (h0:j ≠ 0) (h:Bt n j) (hn:n <= 9000:=by decide):DivOk i j:=by
 refine ⟨h0,?_⟩
 have hp:j.natAbs ≠ 0:=by omega
 have:=(Nat.log2_lt hp).mpr h
 omega
theorem Zq5:OpR X (binaryOp .FloorDiv) (rI DivOk fun i j=>.int (i.fdiv j)):=opI fun _ _ _ _ _ _ _ hc q=>floordiv_int hc.1 q (.inl (PyProof.noPylong_of_log2 hc.2))
theorem Zvw:OpR X (binaryOp .Pow) (rI Z47 fun i j=>.int (i ^ j.toNat)):=Z05
theorem Zf5 (elt target iter:Expr) (ifs:List Expr) (scope:Scope) (pos:Pos) (it acc:Value) (env:Env) :
  compTurn (.ListComp elt [⟨target,iter,ifs,0⟩] scope pos) 0 it acc env = (standAt iter.pos >>= fun _=>pyNext it >>= fun r=>match r with
   | none=>pure (.done .next)
   | some v=>letOwnedTupleGo target it v >>= fun _=>assign target env v >>= fun _ =>
    (forIn ifs true fun c r=>if r = true then do let ok <- isTrue c env (eval c env); pure (ForInStep.yield ok) else pure (ForInStep.yield r)) >>= fun ok =>
     if ok = true then ((eval elt env >>= fun x=>call (.builtin "list.append") [acc,x] >>= fun _=>pure ()) >>= fun _ =>
      again (.compLoop (.ListComp elt [⟨target,iter,ifs,0⟩] scope pos) 0 it acc env))
     else again (.compLoop (.ListComp elt [⟨target,iter,ifs,0⟩] scope pos) 0 it acc env)):=by rfl
end L2
namespace L2
open PySem PySem.Spec PyProof.Rows
theorem Zh9    {R:Result→Shared→Prop}  {elt target:Expr} {ifs:List Expr}   {it acc:Value} {env:Env} (I:Nat→Shared→Prop)
  (turn:∀ n s,I n s→wpAny (model prog w) A (pyNext it) (fun r s₁=>match r with
   | none=>R (.ok .next) s₁
   | some v=>wpAny (model prog w) A (letOwnedTupleGo target it v) (fun _ s₁=>wpAny (model prog w) A (assign target env v) (fun _ s₂ =>
     wpAny (model prog w) A (forIn ifs true fun c r=>if r = true then do let ok <- isTrue c env (eval c env); pure (ForInStep.yield ok) else pure (ForInStep.yield r)) (fun ok s₃ =>
      if ok = true then wpAny (model prog w) A (eval elt env) (fun x s₄ =>
       wpAny (model prog w) A (call (.builtin "list.append") [acc,x]) (fun _ s₅=>∃ m,m < n/\I m s₅) (notedBy (model prog w) A env fun e s'=>R (.error e) s') s₄) (notedBy (model prog w) A env fun e s'=>R (.error e) s') s₃
      else ∃ m,m < n/\I m s₃) (notedBy (model prog w) A env fun e s'=>R (.error e) s') s₂) (notedBy (model prog w) A env fun e s'=>R (.error e) s') s₁) (notedBy (model prog w) A env fun e s'=>R (.error e) s') s₁) (notedBy (model prog w) A env fun e s'=>R (.error e) s') s)
  (n:Nat) (h:I n s) :
  codeAny (model prog w) A (.compLoop (.ListComp elt [⟨target,iter,ifs,0⟩] scope pos) 0 it acc env) R s:=by
 refine codeAny_loop rfl I (fun n s hI=>?_) n h
 show wpAny _ A ((compTurn (.ListComp elt [⟨target,iter,ifs,0⟩] scope pos) 0 it acc env).onRaise (fun x=>do noteFrame x env; theTreesLotGoes x)) _ _ s
 refine wpAny_noted ?_
 rw [Zf5]
 refine wpAny_bind (wpAny_standAt (wpAny_bind (wpAny_mono (turn n s hI) (fun r s₁ h₁=>?_) fun _ _ h'=>h')))
 cases r with
 | none=>exact wpAny_pure h₁
 | some v =>
  refine wpAny_bind (wpAny_mono h₁ (fun _ s₂ h₂=>?_) fun _ _ h'=>h')
  refine wpAny_bind (wpAny_mono h₂ (fun _ s₂ h₂=>wpAny_bind (wpAny_mono h₂ (fun ok s₃ h₃=>?_) fun _ _ h'=>h')) fun _ _ h'=>h')
  cases ok with
  | false=>exact wpAny_pure ⟨rfl,h₃⟩
  | true =>
   exact wpAny_bind (wpAny_bind (wpAny_mono h₃ (fun x s₄ h₄=>wpAny_bind (wpAny_mono h₄ (fun _ s₅ h₅=>wpAny_pure (wpAny_pure ⟨rfl,h₅⟩)) fun _ _ h'=>h')) fun _ _ h'=>h'))
def Zfu (env:Env):List (Str × NameKind)→List (Str × Addr)→List (Str × Addr)
 | [],acc=>acc
 | (n,k) :: r,acc=>if k == .free then Zfu env r ((n,(env.cells.lookup n).getD 0) :: acc) else Zfu env r acc
theorem Zhd {env:Env}:∀ (names:List (Str × NameKind)) (acc:List (Str × Addr)),(∀ y ∈ names,y.2 = .free→∃ c,env.cells.lookup y.1 = some c) →
  (forIn names acc (fun (y:Str × NameKind) cs=>(if y.2 == .free then (cellOf env y.1 >>= fun c=>pure (ForInStep.yield ((y.1,c) :: cs))) else pure (ForInStep.yield cs):Sem (ForInStep (List (Str × Addr)))))) = pure (Zfu env names acc)
 | [],acc,_=>by rw [List.forIn_nil]; rfl
 | (n,k) :: r,acc,h=>by
  by_cases hk:k = .free
  .subst hk
   obtain ⟨c,hc⟩:=h (n,.free) (.head _) rfl
   have hc':env.cells.lookup n = some c:=hc
   have e:=Zhd (env:=env) r ((n,c) :: acc) fun y hy=>h y (.tail _ hy)
   have ec:cellOf env n = pure c:=by
    unfold cellOf
    rw [hc']
   rw [List.forIn_cons]
   simp only [beq_self_eq_true,if_true]
   rw [ec]
   simp only [Zfu,beq_self_eq_true,if_true,hc',Option.getD_some]
   exact e
  .have e:=Zhd (env:=env) r acc fun y hy=>h y (.tail _ hy)
   have hb:(k == NameKind.free) = false:=by simpa using hk
   rw [List.forIn_cons]
   simp only [Zfu,hb,Bool.false_eq_true,if_false]
   exact e
theorem Zbs  {env:Env} (h:∀ y ∈ scope.names,y.2 = .free→∃ c,env.cells.lookup y.1 = some c):closureFor scope env = pure (Zfu env scope.names []):=by
 have e:=Zhd scope.names [] h
 have e':(forIn scope.names ([]:List (Str × Addr)) (fun (y:Str × NameKind) cs=>(match y with | (name,kind)=>do
   if kind == .free then do let a <- cellOf env name; pure (ForInStep.yield ((name,a) :: cs)) else pure (ForInStep.yield cs):Sem (ForInStep (List (Str × Addr)))))) = pure (Zfu env scope.names []):=e
 exact congrArg (fun (m:Sem (List (Str × Addr)))=>m >>= fun x=>pure x) e'
theorem Zgw {env:Env}:∀ (names:List (Str × NameKind)) (acc:List (Str × Addr)),(∀ y ∈ names,y.2 = .free→∃ c,env.cells.lookup y.1 = some c) →
  ∀ n c,(n,c) ∈ Zfu env names acc→(n,c) ∈ acc\/((n,NameKind.free) ∈ names/\env.cells.lookup n = some c)
 | [],acc,_,n,c,h=>.inl h
 | (m,k) :: r,acc,h,n,c,hm=>by
  by_cases hk:k = .free
  .subst hk
   obtain ⟨d,hd⟩:=h (m,.free) (.head _) rfl
   have hd':env.cells.lookup m = some d:=hd
   simp only [Zfu,beq_self_eq_true,if_true,hd',Option.getD_some] at hm
   rcases Zgw r _ (fun y hy=>h y (.tail _ hy)) n c hm with z | ⟨z1,z2⟩
   .rcases List.mem_cons.mp z with z | z
    .cases z; exact .inr ⟨.head _,hd'⟩
    .exact .inl z
   .exact .inr ⟨.tail _ z1,z2⟩
  .have hb:(k == NameKind.free) = false:=by simpa using hk
   simp only [Zfu,hb,Bool.false_eq_true,if_false] at hm
   refine (Zgw r _ (fun y hy=>h y (.tail _ hy)) n c hm).imp id fun qz9=>?_
   obtain ⟨z1,z2⟩:=qz9
   exact ⟨.tail _ z1,z2⟩
theorem Zhb {env:Env}:∀ (names:List (Str × NameKind)) (acc:List (Str × Addr)),∀ p ∈ acc,p ∈ Zfu env names acc
 | [],_,_,h=>h
 | (m,k) :: r,acc,p,h=>by
  unfold Zfu
  split
  .exact Zhb r _ p (.tail _ h)
  .exact Zhb r _ p h
theorem Zhg {env:Env}:∀ (names:List (Str × NameKind)) (acc:List (Str × Addr)) (n:Str),(n,NameKind.free) ∈ names→∃ c,(n,c) ∈ Zfu env names acc
 | [],_,_,h=>nomatch h
 | (m,k) :: r,acc,n,h=>by
  rcases List.mem_cons.mp h with z | z
  .cases z
   exact ⟨_,by
    simp only [Zfu,beq_self_eq_true,if_true]
    exact Zhb _ _ _ (.head _)⟩
  .unfold Zfu
   split
   .exact Zhg r _ n z
   .exact Zhg r _ n z
theorem Zdh {env:Env} (inj:∀ x y c,env.cells.lookup x = some c→env.cells.lookup y = some c→x = y):∀ (names:List (Str × NameKind)) (acc:List (Str × Addr)),
  (∀ y ∈ names,y.2 = .free→∃ c,env.cells.lookup y.1 = some c)→(names.map (·.1)).Nodup→(∀ p ∈ acc,env.cells.lookup p.1 = some p.2)→(∀ p ∈ acc,p.1 ∉ names.map (·.1))→(acc.Pairwise fun x y=>x.2 ≠ y.2) →
  (Zfu env names acc).Pairwise fun x y=>x.2 ≠ y.2
 | [],_,_,_,_,_,h=>h
 | (m,k) :: r,acc,hf,hn,ha,hd,hp=>by
  rw [List.map_cons,List.nodup_cons] at hn
  have hf':∀ y ∈ r,y.2 = .free→∃ c,env.cells.lookup y.1 = some c:=fun y hy=>hf y (.tail _ hy)
  have hd':∀ p ∈ acc,p.1 ∉ r.map (·.1):=fun p hp z=>hd p hp (by rw [List.map_cons]; exact .tail _ z)
  by_cases hk:k = .free
  .subst hk
   obtain ⟨d,hd0⟩:=hf (m,.free) (.head _) rfl
   have hd1:env.cells.lookup m = some d:=hd0
   simp only [Zfu,beq_self_eq_true,if_true,hd1,Option.getD_some]
   refine Zdh inj r _ hf' hn.2 (fun p hp'=>?_) (fun p hp'=>?_) (List.pairwise_cons.mpr ⟨fun p hp' z=>?_,hp⟩)
   .rcases List.mem_cons.mp hp' with rfl | hp'
    .exact hd1
    .exact ha p hp'
   .rcases List.mem_cons.mp hp' with rfl | hp'
    .exact hn.1
    .exact hd' p hp'
   .have e:m = p.1:=inj m p.1 d hd1 (by rw [ha p hp',<- z])
    exact hd p hp' (by rw [List.map_cons,<- e]; exact .head _)
  .have hb:(k == NameKind.free) = false:=by simpa using hk
   simp only [Zfu,hb,Bool.false_eq_true,if_false]
   exact Zdh inj r _ hf' hn.2 ha hd' hp
structure Zmt (h:Heap) (lo:Nat) (names:List (Str × NameKind)) (acc cs:List (Str × Addr)):Prop where
 mem:∀ n c,(n,c) ∈ cs→(n,c) ∈ acc\/(h.IsCell c none/\lo <= c/\(n,NameKind.cell) ∈ names)
 has:∀ n,(n,NameKind.cell) ∈ names→∃ c,(n,c) ∈ cs
 old:∀ p ∈ acc,p ∈ cs
theorem Zde:∀ (names:List (Str × NameKind)) (h:Heap) (lo:Nat) (acc:List (Str × Addr)),lo <= h.objs.size→Zmt (pushCells h names) lo names acc (cellsFrom h.objs.size names acc)
 | [],_,_,_,_=>⟨fun _ _ m=>.inl m,(fun _ m=>nomatch m),fun _ m=>m⟩
 | (name,kind) :: r,h,lo,acc,hlo=>by
  by_cases hk:(kind == NameKind.cell) = true
  .have ek:kind = .cell:=by simpa using hk
   subst ek
   have ih:=Zde r (h.push { cls:=.type "cell", data:=.cell none }) lo ((name,h.objs.size) :: acc) (by rw [Heap.size_push]; omega)
   rw [Heap.size_push] at ih
   have e1:cellsFrom h.objs.size ((name,.cell) :: r) acc = cellsFrom (h.objs.size + 1) r ((name,h.objs.size) :: acc):=by
    rw [cellsFrom,if_pos hk]
   have e2:pushCells h ((name,.cell) :: r) = pushCells (h.push { cls:=.type "cell", data:=.cell none }) r:=by
    rw [pushCells,if_pos hk]
   rw [e1,e2]
   refine ⟨fun n c m=>?_,fun n m=>?_,fun p m=>ih.old p (.tail _ m)⟩
   .rcases ih.mem n c m with z | ⟨z1,z2,z3⟩
    .rcases List.mem_cons.mp z with z | z
     .cases z
      exact .inr ⟨⟨_,pushCells_keeps _ _ _ _ (Heap.get?_push_size _ rfl),rfl⟩,hlo,.head _⟩
     .exact .inl z
    .exact .inr ⟨z1,z2,.tail _ z3⟩
   .rcases List.mem_cons.mp m with z | z
    .cases z
     exact ⟨_,ih.old _ (.head _)⟩
    .exact ih.has n z
  .have ih:=Zde r h lo acc hlo
   have e1:cellsFrom h.objs.size ((name,kind) :: r) acc = cellsFrom h.objs.size r acc:=by
    rw [cellsFrom,if_neg hk]
   have e2:pushCells h ((name,kind) :: r) = pushCells h r:=by
    rw [pushCells,if_neg hk]
   rw [e1,e2]
   refine ⟨fun n c m=>(ih.mem n c m).imp id fun ⟨z1,z2,z3⟩=>⟨z1,z2,.tail _ z3⟩,fun n m=>?_,ih.old⟩
   rcases List.mem_cons.mp m with z | z
   .cases z
    exact absurd rfl hk
   .exact ih.has n z
theorem Zfl (names:List (Str × NameKind)):∀ (h:Heap) (acc:List (Str × Addr)),(acc.Pairwise fun x y=>x.2 ≠ y.2)→(∀ p ∈ acc,p.2 < h.objs.size)→(cellsFrom h.objs.size names acc).Pairwise fun x y=>x.2 ≠ y.2:=by
 induction names with
 | nil=>intro h acc ha _; exact ha
 | cons y r ih =>
  intro h acc ha hb
  obtain ⟨name,kind⟩:=y
  unfold cellsFrom
  split
  .have:=ih (h.push { cls:=.type "cell", data:=.cell none }) ((name,h.objs.size) :: acc) (List.pairwise_cons.mpr ⟨fun p hp=>Nat.ne_of_gt (hb p hp),ha⟩) (fun p hp=>by
    rw [Heap.size_push]
    rcases List.mem_cons.mp hp with rfl | hp
    .exact Nat.lt_succ_self _
    .exact Nat.lt_succ_of_lt (hb p hp))
   rwa [Heap.size_push] at this
  .exact ih h acc ha hb
theorem Zf9      {globals:Addr} {cl:List (Str × Addr)}  {env:Env} {Q:Env→Shared→Prop}
  (hQ:Q (newEnv scope s.heap.objs.size globals (cellsFrom (s.heap.objs.size + 1) scope.names cl) qual none .none (some env) builtinsNs)
   { s with heap:=pushCells (s.heap.push { cls:=.type "dict", data:=.dict #[] }) scope.names }) :
  wpAny M A (newFunctionEnv scope globals cl [] qual none .none (some env)) Q E s:=by
 simp only [newFunctionEnv,Option.isSome_some,if_true]
 refine wpAny_bind (wpAny_alloc ?_)
 refine wpAny_bind (wpAny_layCells _ (fun name kind cells=>by cases hkc:kind == NameKind.cell <;> simp [hkc]) _ _ _ _ ?_)
 rw [show ({ s with heap:=s.heap.push { cls:=.type "dict", data:=.dict #[] } }:Shared).heap.objs.size = s.heap.objs.size + 1 from Heap.size_push ..]
 rw [List.forIn_nil]
 exact wpAny_bind (wpAny_pure (wpAny_pure hQ))
end L2
namespace L2
open PySem PySem.Spec PyProof.Rows
def Yr (X:Cx) (N':List Str) (sc:Scope) (C:Addr) (cells:List (Str × Addr)) (s₂:Shared) (H₂:Hp) (fp:List Addr):Cx :=
 { X with N:=N',s₀:=s₂,H₀:=H₂,env:=compEnvC sc cells C X.env,outer:=X.stack,stack:=X.stack,ex:=fp,fn:=fun x=>sc.names.lookup x == some .cell,pn:=[],xe:=fun _ _=>False }
theorem Zbu {env:Env}:∀ {names:List (Str × NameKind)} {x:Str} {k:NameKind},names.lookup x = some k →
  (names.map fun (n,k)=>if (k == NameKind.free && env.scope.kind == .function && env.kindOf n == some .cell) then (n,NameKind.cell) else (n,k)).lookup x =
   some (if (k == NameKind.free && env.scope.kind == .function && env.kindOf x == some .cell) then NameKind.cell else k)
 | [],_,_,h=>by simp at h
 | (n,k') :: r,x,k,h=>by
  have ih:=@Zbu env r x k
  show List.lookup x ((if (k' == NameKind.free && env.scope.kind == .function && env.kindOf n == some .cell) = true then (n,NameKind.cell) else (n,k')) :: _) = _
  cases hx:x == n with
  | true =>
   simp only [List.lookup_cons,hx] at h
   cases h
   have e:=beq_iff_eq.mp hx
   subst e
   split <;> simp [List.lookup_cons]
  | false =>
   simp only [List.lookup_cons,hx] at h
   split
   .simp only [List.lookup_cons,hx]; exact ih h
   .simp only [List.lookup_cons,hx]; exact ih h
theorem Zdm {env:Env}:∀ {names:List (Str × NameKind)} {x:Str},names.lookup x = none →
  (names.map fun (n,k)=>if (k == NameKind.free && env.scope.kind == .function && env.kindOf n == some .cell) then (n,NameKind.cell) else (n,k)).lookup x = none
 | [],_,_=>rfl
 | (n,k') :: r,x,h=>by
  have ih:=@Zdm env r x
  show List.lookup x ((if (k' == NameKind.free && env.scope.kind == .function && env.kindOf n == some .cell) = true then (n,NameKind.cell) else (n,k')) :: _) = _
  cases hx:x == n with
  | true =>
   simp only [List.lookup_cons,hx] at h
   cases h
  | false =>
   simp only [List.lookup_cons,hx] at h
   split
   .simp only [List.lookup_cons,hx]; exact ih h
   .simp only [List.lookup_cons,hx]; exact ih h
theorem Zcw :∀ {l:List (Str × α)} {n:Str} {c:α},(l.map (·.1)).Nodup→(n,c) ∈ l→l.lookup n = some c
 | (k,v) :: r,n,c,hd,h=>by
  rw [List.map_cons,List.nodup_cons] at hd
  rcases List.mem_cons.mp h with e | hr
  .cases e
   simp [List.lookup_cons]
  .have hne:(n == k) = false:=by
    refine Bool.eq_false_iff.mpr fun z=>hd.1 ?_
    have e:n = k:=beq_iff_eq.mp z
    rw [<- e]
    exact List.mem_map.mpr ⟨(n,c),hr,rfl⟩
   rw [List.lookup_cons,hne]
   exact Zcw hd.2 hr
theorem Yg :∀ {l:List (Str × α)} {n:Str} {c:α},(n,c) ∈ l→∃ d,l.lookup n = some d/\(n,d) ∈ l
 | (k,v) :: r,n,c,h=>by
  by_cases e:n = k
  .subst e
   exact ⟨v,by simp [List.lookup_cons],List.mem_cons_self⟩
  .have hne:(n == k) = false:=by simpa using e
   rcases List.mem_cons.mp h with z | z
   .cases z; exact absurd rfl e
   .obtain ⟨d,h1,h2⟩:=Yg z
    exact ⟨d,by rw [List.lookup_cons,hne]; exact h1,.tail _ h2⟩
structure CompScope (X:Cx) (own:List Str) (caps:List Nat) (N':List Str) (sc:Scope):Prop where
 kind:sc.kind = .function
 nd:N'.Nodup
 names:N' = own ++ caps.map fun i=>X.N.getD i Str.empty
 nn:(sc.names.map (·.1)).Nodup
 free:(sc.names.all fun y=>y.2 != .free || (X.env.kindOf y.1 == some .cell || X.env.kindOf y.1 == some .free)) = true
 caps:(caps.all fun i=>sc.names.lookup (X.N.getD i Str.empty) == some .free) = true
def W4 (own:List Str) (caps:List Nat) (σ:St):St:=own.map (fun _=>none) ++ caps.map fun i=>(σ[i]?).getD none
section
variable  {own:List Str} {caps:List Nat} {N':List Str} 
theorem CompScope.lk (S:CompScope X own caps N' sc) {n:Str} {k:NameKind} (h:(n,k) ∈ sc.names):sc.names.lookup n = some k:=Zcw S.nn h
theorem CompScope.fr (S:CompScope X own caps N' sc) {n:Str} (h:(n,NameKind.free) ∈ sc.names):X.env.kindOf n = some .cell\/X.env.kindOf n = some .free:=by
 have:=List.all_eq_true.mp S.free _ h
 simpa using this
theorem Zmr  {σ:St}   {fp:List Addr} {cl:List (Str × Addr)} (S:CompScope X own caps N' sc) (I:Inv X pins σ H s)
  (f:∀ b ∈ fp,Zgn X pins H b) (fo:∀ b ∈ fp,∃ o,s.heap.get? b = some o)
  (hcl:∀ n c,(n,c) ∈ cl→(n,NameKind.free) ∈ sc.names/\X.env.cells.lookup n = some c) (hcl2:∀ n,(n,NameKind.free) ∈ sc.names→∃ c,(n,c) ∈ cl) (hapart:cl.Pairwise fun x y=>x.2 ≠ y.2) :
  Inv (Yr X N' sc (s.heap.objs.size + 1) (cellsFrom (s.heap.objs.size + 2) sc.names cl) s H fp) [] (W4 own caps σ) (upd H s.heap.objs.size (.lst []))
   { s with heap:=pushCells ((s.heap.push { cls:=.type "list", data:=.seq #[] }).push { cls:=.type "dict", data:=.dict #[] }) sc.names }:=by
 generalize hh1:s.heap.push { cls:=.type "list", data:=.seq #[] } = h1
 have z1:h1.objs.size = s.heap.objs.size + 1:=by rw [<- hh1,Heap.size_push]
 generalize hh2:h1.push { cls:=.type "dict", data:=.dict #[] } = h2
 have z2:h2.objs.size = s.heap.objs.size + 2:=by rw [<- hh2,Heap.size_push,z1]
 have BC:=Zde sc.names h2 (s.heap.objs.size + 2) cl (by omega)
 have AP:=Zfl sc.names h2 cl hapart (fun p hp=>by
  obtain ⟨v,hv⟩:=I.cell p.1 p.2 (hcl p.1 p.2 hp).2
  exact Nat.lt_of_lt_of_le hv.lt (by omega))
 rw [z2] at BC AP
 have keep:∀ b o,s.heap.get? b = some o→(pushCells h2 sc.names).get? b = some o:=fun b o e=>pushCells_keeps _ _ _ _ (by
  rw [<- hh2]
  refine Heap.get?_push_of_some _ ?_
  rw [<- hh1]
  exact Heap.get?_push_of_some _ e)
 have hD:(pushCells h2 sc.names).get? s.heap.objs.size = some { cls:=.type "list", data:=.seq #[] }:=pushCells_keeps _ _ _ _ (by
  rw [<- hh2]
  refine Heap.get?_push_of_some _ ?_
  rw [<- hh1]
  exact Heap.get?_push_size _ rfl)
 have hC:(pushCells h2 sc.names).Ns (s.heap.objs.size + 1) (fun _=>none):=by
  refine Heap.Ns.keeps ?_ (pushCells_keeps _ _)
  have:=Heap.Ns.new h1 (.type "dict")
  rw [hh2,z1] at this
  exact this
 have cellOld:∀ n c,X.env.cells.lookup n = some c→c < s.heap.objs.size:=fun n c e=>by
  obtain ⟨v,hv⟩:=I.cell n c e
  exact hv.lt
 have lk':∀ n c,(cellsFrom (s.heap.objs.size + 2) sc.names cl).lookup n = some c→(n,c) ∈ cellsFrom (s.heap.objs.size + 2) sc.names cl:=fun n c e=>PySem.mem_of_lookup e
 have hnD:H s.heap.objs.size = none:=I.fresh
 have fresh:∀ c,s.heap.objs.size < c→upd H s.heap.objs.size (.lst []) c = none:=fun c hc=>by
  rw [Zk (Nat.ne_of_gt hc)]
  exact I.hok.fresh (Nat.le_of_lt hc)
 have isc:∀ n c,(n,c) ∈ cellsFrom (s.heap.objs.size + 2) sc.names cl→∃ v,(pushCells h2 sc.names).IsCell c v:=fun n c m=>by
  rcases BC.mem n c m with z | ⟨z,_⟩
  .obtain ⟨v,hv⟩:=I.cell n c (hcl n c z).2
   exact ⟨v,hv.keeps keep⟩
  .exact ⟨none,z⟩
 have okH:HOk X.prog X.w (upd H s.heap.objs.size (.lst [])) (pushCells h2 sc.names):=by
  refine I.hok.laid keep (Nat.le_refl _) ?_
  exact ⟨Nat.zero_le _,[],0,.nil,hD⟩
 have kinds:∀ x k,sc.names.lookup x = some k→(relabel sc X.env).names.lookup x = some (if (k == NameKind.free && X.env.scope.kind == .function && X.env.kindOf x == some .cell) then NameKind.cell else k):=fun x k e=>Zbu e
 have kindsR:∀ x k,(relabel sc X.env).names.lookup x = some k→∃ k',(x,k') ∈ sc.names/\k = (if (k' == NameKind.free && X.env.scope.kind == .function && X.env.kindOf x == some .cell) then NameKind.cell else k'):=fun x k e=>by
  cases q:sc.names.lookup x with
  | none =>
   have:=Zdm (env:=X.env) q
   rw [show (relabel sc X.env).names.lookup x = _ from this] at e
   cases e
  | some k' =>
   refine ⟨k',PySem.mem_of_lookup q,?_⟩
   rw [kinds x k' q] at e
   exact (Option.some.inj e).symm
 refine ⟨⟨I.ok.mod,S.kind,I.ok.glob,I.ok.blt,?_,?_,?_,?_,I.ok.hd,I.ok.frames,.inl rfl,?_,?_,?_,?_,?_,?_,?_⟩,rfl,I.bare,?_,?_,?_,?_,?_,(fun p hp=>nomatch hp),okH,?_⟩
 .show s.heap.objs.size <= s.heap.objs.size + 1; omega
 .intro x y c e1 e2
  exact name_of_addr AP (lk' x c e1) (lk' y c e2)
 .intro x hx
  rcases hx with hx | hx
  .obtain ⟨k',hm,hk'⟩:=kindsR x _ hx
   cases k' with
   | cell =>
    obtain ⟨c,hc⟩:=BC.has x hm
    obtain ⟨d,h1,_⟩:=Yg hc
    exact ⟨d,h1⟩
   | free =>
    obtain ⟨c,hc⟩:=hcl2 _ hm
    obtain ⟨d,h1,_⟩:=Yg (BC.old _ hc)
    exact ⟨d,h1⟩
   | _=>simp at hk'
  .obtain ⟨k',hm,hk'⟩:=kindsR x _ hx
   cases k' with
   | free =>
    obtain ⟨c,hc⟩:=hcl2 _ hm
    obtain ⟨d,h1,_⟩:=Yg (BC.old _ hc)
    exact ⟨d,h1⟩
   | _=>simp at hk'
 .intro x c hf e
  have hf':sc.names.lookup x = some .cell:=by simpa [Yr] using hf
  rcases BC.mem x c (lk' x c e) with z | ⟨_,z,_⟩
  .-- a free one and a cell at once: the name stands once
   exfalso
   have q:=S.lk (hcl x c z).1
   rw [hf'] at q
   cases q
  .show s.heap.objs.size <= c; omega
 .intro b hb
  obtain ⟨o,ho⟩:=fo b hb
  have hlt:=Heap.lt_size ho
  refine ⟨Nat.ne_of_lt (Nat.lt_trans hlt (Nat.lt_succ_self _)),fun x c e z=>?_⟩
  rcases BC.mem x c (lk' x c e) with q | ⟨_,q,_⟩
  .exact (f b hb).2.2.2.2.1 x c (hcl x c q).2 z
  .subst z
   exact absurd hlt (Nat.not_lt.mpr (Nat.le_trans (Nat.le_add_right _ 2) q))
 .exact I.bs
 .exact Nat.le_trans I.ok.bsz I.sz
 .intro b o e hb
  rcases (f b hb).2.2.2.1 with z | z
  .exact I.ok.noex b o e z
  .exact absurd (Nat.lt_of_lt_of_le (Heap.lt_size e) I.ok.bsz) (Nat.not_lt.mpr z)
 .intro b hb z
  rcases List.mem_cons.mp (I.stkSub b z) with q | q
  .exact (f b hb).2.1 q
  .exact (f b hb).2.2.1 q
 .exact I.stack
 .exact I.stkFree
 .exact Un.laid keep (Nat.le_refl _) hnD
 .refine ⟨_,hC,fun i x v e1 e2 e3=>?_⟩
  have e1':(own ++ caps.map fun i=>X.N.getD i Str.empty)[i]? = some x:=by rw [<- S.names]; exact e1
  have e2':(own.map (fun _=>(none:Option V)) ++ caps.map fun i=>(σ[i]?).getD none)[i]? = some (some v):=e2
  by_cases hi:i < own.length
  .rw [List.getElem?_append_left (by simpa using hi),List.getElem?_map] at e2'
   cases q:own[i]? with
   | none=>rw [q] at e2'; cases e2'
   | some y=>rw [q] at e2'; cases e2'
  .rw [List.getElem?_append_right (by simpa using hi),List.getElem?_map] at e2'
   rw [List.getElem?_append_right (by omega),List.getElem?_map] at e1'
   rw [List.length_map] at e2'
   cases q:caps[i - own.length]? with
   | none=>rw [q] at e2'; cases e2'
   | some j =>
    rw [q] at e1' e2'
    have e1:X.N.getD j Str.empty = x:=Option.some.inj e1'
    have e2:(σ[j]?).getD none = some v:=Option.some.inj e2'
    have e4:σ[j]? = some (some v):=by
     cases r:σ[j]? with
     | none=>rw [r] at e2; cases e2
     | some o=>rw [r] at e2; exact congrArg some e2
    have hj:j < X.N.length:=by rw [<- I.len]; exact (List.getElem?_eq_some_iff.mp e4).1
    have e5:X.N[j]? = some x:=by rw [<- e1]; simp [List.getD_eq_getElem?_getD,hj]
    have hc:=List.all_eq_true.mp S.caps j (List.mem_of_getElem? q)
    have e6:sc.names.lookup x = some .free:=by rw [<- e1]; simpa using hc
    have hm:=PySem.mem_of_lookup e6
    have kx:=S.fr hm
    obtain ⟨m,hn,hl⟩:=I.loc
    obtain ⟨u,ru,lo⟩:=hl j x v e5 e4 (by rcases kx with z | z; exact .inr (.inl z); exact .inr (.inr z))
    refine ⟨u,ru,.inr ⟨?_,?_⟩⟩
    .have:=kinds x _ e6
     show (relabel sc X.env).names.lookup x = _\/(relabel sc X.env).names.lookup x = _
     rw [this]
     split
     .exact .inl rfl
     .exact .inr rfl
    .rcases lo with ⟨z,_⟩ | ⟨_,c,hc1,hc2⟩
     .rcases kx with w | w <;> (rw [w] at z; cases z)
     .obtain ⟨d,hd⟩:=hcl2 x hm
      obtain ⟨d',h1,h2⟩:=Yg (BC.old _ hd)
      refine ⟨d',h1,?_⟩
      rcases BC.mem x d' h2 with w | ⟨_,_,w⟩
      .have w':=(hcl x d' w).2
       rw [hc1] at w'
       cases w'
       exact hc2.keeps keep
      .have:=S.lk w
       rw [e6] at this
       cases this
 .intro x c e
  exact isc x c (lk' x c e)
 .exact fresh _ (Nat.lt_succ_self _)
 .intro x c e
  rcases BC.mem x c (lk' x c e) with z | ⟨_,z,_⟩
  .have e':=(hcl x c z).2
   have hlt:=cellOld x c e'
   rw [Zk (Nat.ne_of_lt hlt)]
   exact I.freeC x c e'
  .exact fresh c (by omega)
 .show (W4 own caps σ).length = N'.length
  rw [S.names]
  unfold W4
  simp
end
end L2
namespace L2
open PySem PySem.Spec PyProof.Rows
def Zw9 (J:It) (g:TG) (tt:TT) (te:TE) (σ0:St) (D:Addr) (Q:Hp→Prop) (H1:Hp):Prop :=
 ∃ W:Nat→Nat→St→Hp→Prop,(∃ m,W 0 m σ0 (upd H1 D (.lst [])))/\∀ i m σ' H',W i m σ' H' →
  (J.stop i H'/\Q H')\/(J.go i H'/\∀ x H2,J.yld i H' x H2→g x σ' H2 fun σ2 H3=>tt σ2 H3 fun b H4 =>
   if b = true then te σ2 H4 fun y H5=>∃ ys,H5 D = some (.lst ys)/\ys.length < sizeLine/\∃ m',m' < m/\W (i + 1) m' σ2 (upd H5 D (.lst (ys ++ [y])))
   else ∃ m',m' < m/\W (i + 1) m' σ2 H4)
def Zyj (own:List Str) (caps:List Nat) (wi:TI) (g:TG) (tt:TT) (te:TE):TE:=fun σ H Q=>wi σ H fun J H1=>∀ D,H1 D = none→Zw9 J g tt te (W4 own caps σ) D (Q (.ref D)) H1
def Z63:TT:=fun _ H Q=>Q true H
def Zy2 (X:Cx) (ifs:List Expr) (t:TT):Prop :=
 ∀ (pins:List (Addr × Obj)) (s:Shared) (σ:St) (H:Hp) (Q:Bool→Hp→Prop),Inv X pins σ H s→t σ H Q →
  wpAny (model X.prog X.w) X.A (forIn ifs true fun c r=>if r = true then do let ok <- isTrue c X.env (eval c X.env); pure (ForInStep.yield ok) else pure (ForInStep.yield r)) (TP X pins σ Q) X.xe s
theorem Zy9 :Zy2 X [] Z63:=fun pins s σ H Q I h=>by
 rw [List.forIn_nil]
 exact wpAny_pure ⟨H,I,h⟩
theorem Zxr  {c:Expr} {t:TT} (h:PT X c t):Zy2 X [c] t:=fun pins s σ H Q I q=>wpAny_tests_one (h pins s σ H Q I q)
theorem Zx9    {t:Sem α} {Q Q':α→Shared→Prop}   (h:wpAny M A t Q (fun _ _=>False) s) (hQ:∀ a s,Q a s→Q' a s):wpAny M A t Q' E s :=
 wpAny_mono h hQ fun _ _ z=>z.elim
section
variable  {own:List Str} {caps:List Nat} {N':List Str}  {elt:Expr} {ifs:List Expr}  {wi:TI} {g:TG} {tt:TT} 
theorem Zlt {p':List (Addr × Obj)} {σ σ':St}   {fp:List Addr}  {cells:List (Str × Addr)}  (I:Inv X pins σ H s) (f:∀ b ∈ fp,Zgn X pins H b)
  (I':Inv (Yr X N' sc C cells s H fp) p' σ' H' s') (hs:Heap.SameBut C s'.heap h'):Inv X pins σ H' { s' with heap:=h' }:=by
 have hC:s.heap.objs.size <= C:=I'.ok.above
 have B:=I'.base
 have ne:∀ b o,s.heap.get? b = some o→b ≠ C:=fun b o e=>Nat.ne_of_lt (Nat.lt_of_lt_of_le (Heap.lt_size e) hC)
 obtain ⟨m,⟨oC,_,_,hoC,_⟩,_⟩:=I'.loc
 refine I.call' (ch:=fp) (s':={ s' with heap:=h' }) I'.os ⟨fun b o e n hb hx=>?_,fun b o e n hb hx=>?_,B.free,fun b o e hx=>?_,B.tups,B.frzs,B.tbls⟩ (fun b ob e=>?_) I'.bare fun b hb=>?_
 .exact (hs.2 b (ne b o e)).trans (B.keep b o e n hb hx)
 .obtain ⟨sl,q⟩:=B.slot b o e n hb hx
  exact ⟨sl,(hs.2 b (ne b o e)).trans q⟩
 .obtain ⟨o',q⟩:=B.there b o e hx
  exact ⟨o',(hs.2 b (ne b o e)).trans q⟩
 .have hfree:H' C = none:=I'.free
  refine (I'.hok b ob e).stay (fun c w' hc q=>(hs.2 c ?_).trans q) (fun _ q=>q) fun _ _ q=>q
  rintro rfl
  rcases hc with rfl | hc
  .rw [hfree] at e; cases e
  .rw [hfree] at hc; cases hc
 .obtain ⟨_,f1,_,f3,f4,f5⟩:=f b hb
  exact ⟨f3,f1,f4,f5⟩
theorem Zgp {Qf:Result→Shared→Prop} (S:CompScope X own caps N' sc) (hc:X.calm = true)
  (hg:∀ C cells s₂ H₂ fp,PG (Yr X N' sc C cells s₂ H₂ fp) tg g) (ht:∀ C cells s₂ H₂ fp,Zy2 (Yr X N' sc C cells s₂ H₂ fp) ifs tt) (he:∀ C cells s₂ H₂ fp,PE (Yr X N' sc C cells s₂ H₂ fp) elt te)
   {σ:St}   {fp:List Addr} {it:Addr} {tn:Nat→Heap→Prop} {J:It} {Q:Hp→Prop} (I:Inv X pins σ H s) (T:Turn X.prog X.w X.K tg J fp it tn) (st:tn 0 s.heap) (f:∀ b ∈ fp,Zgn X pins H b)
  (h:Zw9 J g tt te (W4 own caps σ) s.heap.objs.size Q H)
  (fin:∀ s' σ' H' p' C cells,Inv (Yr X N' sc C cells s H fp) p' σ' H' s'→C = s.heap.objs.size + 1→Q H'→Qf (.ok .next) s') :
  wpAny (model X.prog X.w) X.A (newFunctionEnv sc X.env.globals (Zfu X.env sc.names []) [] X.env.qual none .none (some X.env)) (fun cenv s₄ =>
   cenv.locals = s.heap.objs.size + 1/\codeAny (model X.prog X.w) X.A (.compStart (.ListComp elt [⟨tg,iter,ifs,0⟩] sc pos) 0 (.ref it) (.ref s.heap.objs.size) { cenv with scope:=relabel sc X.env }) Qf s₄) X.xe
    { s with heap:=s.heap.push { cls:=.type "list", data:=.seq #[] } }:=by
 have hf:∀ y ∈ sc.names,y.2 = .free→∃ c,X.env.cells.lookup y.1 = some c:=fun y hy e=>by
  obtain ⟨n,k⟩:=y
  have e':k = .free:=e
  subst e'
  exact I.ok.has n (S.fr hy)
 have hcl:∀ n c,(n,c) ∈ Zfu X.env sc.names []→(n,NameKind.free) ∈ sc.names/\X.env.cells.lookup n = some c:=fun n c m=>(Zgw sc.names [] hf n c m).elim (fun z=>nomatch z) id
 have hap:=Zdh I.ok.inj sc.names [] hf S.nn (fun _ z=>nomatch z) (fun _ z=>nomatch z) .nil
 have I0:=Zmr (cl:=Zfu X.env sc.names []) S I f (fun b hb=>let ⟨o,e,_⟩:=T.obj _ _ st b hb; ⟨o,e⟩) hcl (fun n m=>Zhg sc.names [] n m) hap
 refine Zf9 ?_
 rw [show ({ s with heap:=s.heap.push { cls:=.type "list", data:=.seq #[] } }:Shared).heap.objs.size = s.heap.objs.size + 1 from Heap.size_push ..]
 refine ⟨rfl,?_⟩
 dsimp only
 generalize hs0:({ s with heap:=pushCells ((s.heap.push { cls:=.type "list", data:=.seq #[] }).push { cls:=.type "dict", data:=.dict #[] }) sc.names }:Shared) = s0 at I0 |-
 have st0:tn 0 s0.heap:=T.keep _ _ _ st fun b hb o e=>by
  rw [<- hs0]
  exact pushCells_keeps _ _ _ _ (Heap.get?_push_of_some _ (Heap.get?_push_of_some _ e))
 generalize hcells:cellsFrom (s.heap.objs.size + 1 + 1) sc.names (Zfu X.env sc.names []) = cells at I0 |-
 -- the loop
 obtain ⟨W,⟨m0,w0⟩,turn⟩:=h
 have loop:codeAny (model X.prog X.w) X.A (.compLoop (.ListComp elt [⟨tg,iter,ifs,0⟩] sc pos) 0 (.ref it) (.ref s.heap.objs.size) (Yr X N' sc (s.heap.objs.size + 1) cells s H fp).env) Qf s0:=by
  generalize hX':Yr X N' sc (s.heap.objs.size + 1) cells s H fp = X' at I0 |-
  have hg':=hg (s.heap.objs.size + 1) cells s H fp
  have ht':=ht (s.heap.objs.size + 1) cells s H fp
  have he':=he (s.heap.objs.size + 1) cells s H fp
  have fin':=fun s' σ' H' p' (z:Inv (Yr X N' sc (s.heap.objs.size + 1) cells s H fp) p' σ' H' s')=>fin s' σ' H' p' _ _ z rfl
  rw [hX'] at hg' ht' he' fin'
  have hxe:X'.xe = fun _ _=>False:=by rw [<- hX']; rfl
  have hpr:X'.prog = X.prog:=by rw [<- hX']; rfl
  have hw:X'.w = X.w:=by rw [<- hX']; rfl
  have hK:X'.K = X.K:=by rw [<- hX']; rfl
  have hA:X'.A = X.A:=by rw [<- hX']; rfl
  have hcm:X'.calm = true:=by rw [<- hX']; exact hc
  have hex:X'.ex = fp:=by rw [<- hX']; rfl
  have hpn:X'.pn = []:=by rw [<- hX']; rfl
  have stat:∀ {H':Hp},(∀ b ∈ fp,H' b = none)→∀ b ∈ fp,Zgn X' [] H' b:=fun hn b hb=>by
   have e1:=I0.ok.exf b (by rw [hex]; exact hb)
   have e2:=I0.ok.exfs b (by rw [hex]; exact hb)
   exact ⟨hn b hb,e1.1,e2,.inl (by rw [hex]; exact hb),e1.2,fun p hp=>by rw [hpn] at hp; exact nomatch hp⟩
  have frD:∀ b ∈ fp,(upd H s.heap.objs.size (.lst [])) b = none:=fun b hb=>by
   obtain ⟨o,e,_⟩:=T.obj _ _ st b hb
   rw [Zk (Nat.ne_of_lt (Heap.lt_size e))]
   exact (f b hb).1
  have T':Turn X'.prog X'.w X'.K tg J fp it tn:=by rw [hpr,hw,hK]; exact T
  rw [<- hpr,<- hw,<- hA]
  refine Zh9 (fun n s'=>∃ i σ' H',Inv X' [] σ' H' s'/\tn i s'.heap/\(∀ b ∈ fp,H' b = none)/\W i n σ' H') ?_ m0 ⟨0,_,_,I0,st0,frD,w0⟩
  rintro n s3 ⟨i,σ3,H3,I3,st3,fr3,w3⟩
  rcases turn i n σ3 H3 w3 with ⟨stop,qn⟩ | ⟨go,step⟩
  .refine Zx9 (T'.done X' rfl rfl rfl hcm i [] s3 σ3 H3 _ I3 (stat fr3) st3 stop) fun r s4 qz9=>?_
   obtain ⟨hr,I4⟩:=qz9
   subst hr
   exact fin' s4 σ3 H3 [] I4 qn
  .refine Zx9 (T'.item X' rfl rfl rfl hcm i [] s3 σ3 H3 _ I3 (stat fr3) st3 go) fun r s4 qz9=>?_
   obtain ⟨u,hr,h4⟩:=qz9
   subst hr
   refine Zx9 h4 fun _ s5 qz9=>?_
   obtain ⟨x,H5,I5,r5,y5,st5,fr5⟩:=qz9
   have I5':=I5.pinned (stat fr5) (T.obj _ _ st5)
   have hgg:=hg' _ s5 σ3 H5 x u _ I5' r5 (step x H5 y5)
   rw [hxe] at hgg
   refine Zx9 hgg fun _ s6 qz9=>?_
   obtain ⟨σ6,H6,I6,q6⟩:=qz9
   have htt:=ht' _ s6 σ6 H6 _ I6 q6
   rw [hxe] at htt
   refine Zx9 htt fun ok s7 qz9=>?_
   obtain ⟨H7,I7,q7⟩:=qz9
   have again:∀ {σ7:St} {H7:Hp} {s7:Shared} {m:Nat},Inv X' ([] ++ Zh2 fp s5.heap) σ7 H7 s7→W (i + 1) m σ7 H7→m < n→∃ m,m < n/\∃ i σ' H',Inv X' [] σ' H' s7/\tn i s7.heap/\(∀ b ∈ fp,H' b = none)/\W i m σ' H':=fun {σ7 H7 s7 m} I7 w7 hm=>by
    refine ⟨m,hm,i + 1,σ7,H7,I7.unpinned,T.keep _ _ _ st5 fun b hb o e=>(I7.pin (b,o) (List.mem_append_right _ (List.mem_append_right _ (Zbl hb e)))).1,fun b hb=>?_,w7⟩
    obtain ⟨o,e,d⟩:=T.obj _ _ st5 b hb
    exact (I7.pin (b,o) (List.mem_append_right _ (List.mem_append_right _ (Zbl hb e)))).2.1
   cases ok with
   | false =>
    obtain ⟨m',hm,w7⟩:=q7
    rw [if_neg Bool.false_ne_true]
    exact again I7 w7 hm
   | true =>
    rw [if_pos rfl]
    have hee:=he' _ s7 σ6 H7 _ I7 q7
    rw [hxe] at hee
    refine Zx9 hee fun y s8 qz9=>?_
    obtain ⟨vy,H8,I8,r8,ys,hD,hlen,m',hm,w8⟩:=qz9
    have hap:=Zfj (X:=X') _ s8 σ6 H8 (.ref s.heap.objs.size) [vy] (.ref s.heap.objs.size) [y] (fun _ H'=>W (i + 1) m' σ6 H') I8 rfl (.cons r8 .nil) ⟨_,ys,vy,rfl,rfl,hD,hlen,w8⟩
    rw [hxe] at hap
    refine Zx9 hap fun z s9 qz9=>?_
    obtain ⟨_,H9,I9,_,w9⟩:=qz9
    exact again I9 w9 hm
 exact codeAny_compStart_list loop (T.self _ 0 _ _ _ st0 loop)
theorem Zy3 (S:CompScope X own caps N' sc) (hc:X.calm = true) (hi:PI X tg iter wi)
  (hg:∀ C cells s₂ H₂ fp,PG (Yr X N' sc C cells s₂ H₂ fp) tg g) (ht:∀ C cells s₂ H₂ fp,Zy2 (Yr X N' sc C cells s₂ H₂ fp) ifs tt) (he:∀ C cells s₂ H₂ fp,PE (Yr X N' sc C cells s₂ H₂ fp) elt te)
  (hs:∀ x,foldedSetIterable iter X.env x = pure x:=by intro _; rfl):PE X (.ListComp elt [⟨tg,iter,ifs,0⟩] sc pos) (Zyj own caps wi g tt te):=by
 intro pins s σ H Q I h
 rw [eval_ListComp]
 have hf:∀ y ∈ sc.names,y.2 = .free→∃ c,X.env.cells.lookup y.1 = some c:=fun y hy e=>by
  obtain ⟨n,k⟩:=y
  have e':k = .free:=e
  subst e'
  exact I.ok.has n (S.fr hy)
 refine wpAny_comprehension_free (use:=none) rfl hs (Zbs hf) S.kind (fun y hy e=>by obtain ⟨n,k⟩:=y; have e':k = .local:=e; subst e'; exact S.lk hy) ?_
 refine thn (hi pins s σ H _ I h) fun v s1 h1=>thn h1 fun itv s2 h2=>?_
 obtain ⟨it,fp,tn,J,H2,e,I2,T,st2,f2,q⟩:=h2
 subst e
 refine wpAny_newObj_type ?_
 refine thn (Zgp (iter:=iter) (pos:=pos) (Qf:=compPost (model X.prog X.w) X.A X.xe none (EP X pins σ Q) (.ref s2.heap.objs.size) (s2.heap.objs.size + 1)) S hc hg ht he I2 T st2 f2 (q s2.heap.objs.size I2.fresh) ?_) fun cenv s4 ⟨hl,hr⟩=>?_
 .intro s' σ' H' p' C cells I' eC q'
  subst eC
  obtain ⟨m,hn,_⟩:=id I'.loc
  exact ⟨m,hn,fun h' hs'=>⟨.ref s2.heap.objs.size,H',Zlt I2 f2 I' hs',rfl,q'⟩⟩
 .rw [<- hl] at hr
  exact hr
end
end L2
namespace L2
open PySem PySem.Spec PyProof.Rows
section
variable  {own:List Str} {caps:List Nat} {N':List Str}  {elt:Expr} {ifs:List Expr}  {wi:TI} {g:TG} {tt:TT} 
theorem Zmp   {spos:Pos} (hN:X.N.Nodup) (hy:X.N[i]? = some y) (hx:Loc X.env.scope y) (S:CompScope X own caps N' sc) (hc:X.calm = true) (hi:PI X tg iter wi)
  (hg:∀ C cells s₂ H₂ fp,PG (Yr X N' sc C cells s₂ H₂ fp) tg g) (ht:∀ C cells s₂ H₂ fp,Zy2 (Yr X N' sc C cells s₂ H₂ fp) ifs tt) (he:∀ C cells s₂ H₂ fp,PE (Yr X N' sc C cells s₂ H₂ fp) elt te)
  (hsw:swapsWith (.ListComp elt [⟨tg,iter,ifs,0⟩] sc pos) (some (.Name y py)) spos.line X.env = pure true:=by rfl)
  (hs:∀ x,foldedSetIterable iter X.env x = pure x:=by intro _; rfl) (hf:X.fn y = true\/X.env.scope.names.lookup y = some .local:=by first | exact .inl rfl | exact .inr rfl | assumption) :
  PS X (.Assign [.Name y py] (.ListComp elt [⟨tg,iter,ifs,0⟩] sc pos) spos) (Z1k (Zyj own caps wi g tt te) (Zlx i)):=by
 intro pins s σ H D I h
 have hfr:∀ y ∈ sc.names,y.2 = .free→∃ c,X.env.cells.lookup y.1 = some c:=fun y hy e=>by
  obtain ⟨n,k⟩:=y
  have e':k = .free:=e
  subst e'
  exact I.ok.has n (S.fr hy)
 rw [exec_Assign_Name_used _ _ _ _ hsw]
 refine wpAny_bind (wpAny_standAt (wpAny_bind ?_))
 show wpAny _ X.A (do let _ <- comprehension (.ListComp elt [⟨tg,iter,ifs,0⟩] sc pos) sc X.env _ (newList []) false (eval iter X.env) (some (assign (.Name y py) X.env))) _ _ s
 refine wpAny_bind (wpAny_mono (wpAny_comprehension_free (use:=some (assign (.Name y py) X.env)) (Q:=fun _ s'=>SP X pins D .next s') rfl hs (Zbs hfr) S.kind (fun y hy e=>by obtain ⟨n,k⟩:=y; have e':k = .local:=e; subst e'; exact S.lk hy) ?_) (fun _ s' hq=>wpAny_pure (wpAny_pure hq)) fun _ _ e=>e)
 refine thn (hi pins s σ H _ I h) fun v s1 h1=>thn h1 fun itv s2 h2=>?_
 obtain ⟨it,fp,tn,J,H2,e,I2,T,st2,f2,q⟩:=h2
 subst e
 refine wpAny_newObj_type ?_
 refine thn (Zgp (iter:=iter) (pos:=pos) (Qf:=compPost (model X.prog X.w) X.A X.xe (some (assign (.Name y py) X.env)) (fun _ s'=>SP X pins D .next s') (.ref s2.heap.objs.size) (s2.heap.objs.size + 1)) S hc hg ht he I2 T st2 f2 (q s2.heap.objs.size I2.fresh) ?_) fun cenv s4 ⟨hl,hr⟩=>?_
 .intro s' σ' H' p' C cells I' eC q'
  subst eC
  obtain ⟨m,hn,_⟩:=id I'.loc
  have I3:Inv X pins σ H' s':=Zlt I2 f2 I' (.refl ..)
  show wpAny _ X.A (assign (.Name y py) X.env (.ref s2.heap.objs.size)) _ _ s'
  refine wpAny_assign_Name (Zjd (v:=.ref s2.heap.objs.size) I3 hN hy hx rfl (fun s5 I5 hsb=>?_) hf)
  have hC:s2.heap.objs.size < s2.heap.objs.size + 1:=Nat.lt_succ_self _
  have ltL:X.env.locals < s2.heap.objs.size:=I2.lt
  have ltC:∀ x c,X.env.cells.lookup x = some c→c < s2.heap.objs.size:=fun x c e=>by
   obtain ⟨w',z⟩:=I2.cell x c e
   exact z.lt
  refine ⟨m,?_,fun h' hs'=>⟨σ.set i (some (.ref s2.heap.objs.size)),H',?_,q'⟩⟩
  .obtain ⟨a,hsa,ha⟩:=hsb
   refine hn.sameBut hsa ?_
   rcases ha with ha | ha
   .rw [ha]; exact Nat.ne_of_gt (Nat.lt_trans ltL hC)
   .exact Nat.ne_of_gt (Nat.lt_trans (ltC _ _ ha) hC)
  .refine I5.turned (t':=s5.toks) (it:=s2.heap.objs.size + 1) (fun b o hb e=>(hs'.2 b hb).trans e) I'.free (Nat.ne_of_gt (Nat.lt_trans ltL hC)) (.inr (Nat.le_trans I2.sz (Nat.le_of_lt hC))) (fun x c e=>Nat.ne_of_lt (Nat.lt_trans (ltC x c e) hC)) fun p hp=>?_
   obtain ⟨e,_⟩:=I2.pin p hp
   exact Nat.ne_of_lt (Nat.lt_trans (Heap.lt_size e) hC)
 .rw [<- hl] at hr
  exact hr
end
section
variable (n:Nat) (D:Addr) (Pv:Nat→List V→St→Hp→Prop)
variable {n D Pv}
end
end L2
namespace L2
open PySem PySem.Spec PyProof.Rows
mutual
inductive Is (H:Hp) (L:Addr→Prop):V→PyData→Prop where
 | non:Is H L .non .none
 | bl (b:Bool):Is H L (.bl b) (.bool b)
 | int (i:Int):Is H L (.int i) (.int i)
 | str (x:Str):Is H L (.str x) (.str x)
 | lst {a:Addr} {xs:List V} {ds:List PyData}:L a→H a = some (.lst xs)→IsAll H L xs ds→Is H L (.ref a) (.list ds)
 | tup {a:Addr} {xs:List V} {ds:List PyData}:H a = some (.tup xs)→IsAll H L xs ds→Is H L (.ref a) (.tuple ds)
inductive IsAll (H:Hp) (L:Addr→Prop):List V→List PyData→Prop where
 | nil:IsAll H L [] []
 | cons {x:V} {xs:List V} {d:PyData} {ds:List PyData}:Is H L x d→IsAll H L xs ds→IsAll H L (x :: xs) (d :: ds)
end
section
variable  {L L':Addr→Prop}
theorem IsAll.ind {Q:List V→List PyData→Prop} (n:Q [] []) (c:∀ {x:V} {xs:List V} {d:PyData} {ds:List PyData},Is H L x d→IsAll H L xs ds→Q xs ds→Q (x :: xs) (d :: ds)):∀ {xs ds},IsAll H L xs ds→Q xs ds:=fun h =>
 IsAll.rec (motive_1:=fun _ _ _=>True) (motive_2:=fun xs ds _=>Q xs ds) trivial (fun _=>trivial) (fun _=>trivial) (fun _=>trivial) (fun _ _ _ _=>trivial) (fun _ _ _=>trivial) n (fun p q _ r=>c p q r) h
theorem IsAll.length  {ds:List PyData} (h:IsAll H L xs ds):xs.length = ds.length:=IsAll.ind (Q:=fun xs ds=>xs.length = ds.length) rfl (fun _ _ r=>congrArg (· + 1) r) h
theorem IsAll.set  {ds:List PyData} {x:V} {d:PyData} (i:Nat) (h:IsAll H L xs ds) (k:Is H L x d):IsAll H L (xs.set i x) (ds.set i d) :=
 IsAll.ind (Q:=fun xs ds=>∀ i,IsAll H L (xs.set i x) (ds.set i d)) (fun _=>.nil) (fun h q r i=>Nat.casesOn i (.cons k q) fun i=>.cons h (r i)) h i
end
section
variable   {σ:St}   {L L':Addr→Prop}
end
abbrev Shp (d:PyData):Prop:=SeqAt.shaped d = true
mutual
def Yu:PyData→Bool
 | .none=>true
 | .int _=>true
 | .str _=>true
 | .list ds=>Zcf ds
 | .tuple ds=>Zcf ds
 | _=>false
def Zcf:List PyData→Bool
 | []=>true
 | d :: ds=>Yu d && Zcf ds
end
mutual
theorem Zj3:∀ (d e:PyData),Yu d = true→Yu e = true→(PyData.eqv d e = true ↔ d = e)
 | .none,e,_,he=>by cases e <;> simp_all [PyData.eqv,Yu]
 | .int i,e,_,he=>by cases e <;> simp_all [PyData.eqv,Yu]
 | .str i,e,_,he=>by cases e <;> simp_all [PyData.eqv,Yu]
 | .list ds,e,hd,he=>by
  cases e with
  | list es =>
   rw [Yu] at hd he
   rw [PyData.eqv,PyData.list.injEq]
   exact Zdk ds es hd he
  | _=>simp_all [PyData.eqv,Yu]
 | .tuple ds,e,hd,he=>by
  cases e with
  | tuple es =>
   rw [Yu] at hd he
   rw [PyData.eqv,PyData.tuple.injEq]
   exact Zdk ds es hd he
  | _=>simp_all [PyData.eqv,Yu]
 | .bool b,e,hd,_=>by simp [Yu] at hd
 | .dict b,e,hd,_=>by simp [Yu] at hd
theorem Zdk:∀ (ds es:List PyData),Zcf ds = true→Zcf es = true→(PyData.eqvAll ds es = true ↔ ds = es)
 | [],[],_,_=>by simp [PyData.eqvAll]
 | [],_ :: _,_,_=>by simp [PyData.eqvAll]
 | _ :: _,[],_,_=>by simp [PyData.eqvAll]
 | d :: ds,e :: es,hd,he=>by
  rw [Zcf,Bool.and_eq_true] at hd he
  rw [PyData.eqvAll,Bool.and_eq_true,Zj3 d e hd.1 he.1,Zdk ds es hd.2 he.2,List.cons.injEq]
end
theorem Z2i {d e:PyData} (h:Yu d = true) (k:Yu e = true) (q:d = e):PyData.eqv d e = true:=(Zj3 d e h k).mpr q
def fr (a b:Int):PyData:=.tuple [.int a,.int b]
end L2
namespace L2
open PySem PySem.Spec PyProof.Rows
theorem Zhe {t b:Int} (hb:b ≠ 0):0 < (Int.gcd t b:Int):=by
 have:=Int.gcd_pos_of_ne_zero_right t hb
 omega
theorem Zev {t g:Int} (hg:0 < g):t.fdiv g = t / g:=Int.fdiv_eq_ediv_of_nonneg t (by omega)
theorem Zba {t g:Int} (hg:0 < g) (h:g ∣ t):t.fdiv (-g) = -(t / g):=by
 obtain ⟨k,rfl⟩:=h
 rw [Int.mul_ediv_cancel_left _ (by omega)]
 have e:g * k = (-k) * (-g):=by rw [Int.neg_mul_neg,Int.mul_comm]
 rw [e,Int.mul_fdiv_cancel _ (by omega)]
def shr (t b:Int):Int:=if b < 0 then -(Int.gcd t b:Int) else (Int.gcd t b:Int)
theorem Zxb {t b:Int} (hb:b ≠ 0):t.fdiv (shr t b) = (Rat.divInt t b).num:=by
 have hg:=Zhe (t:=t) hb
 have hd:(Int.gcd t b:Int) ∣ t:=Int.gcd_dvd_left ..
 rw [Rat.num_divInt,Int.gcd_comm b t]
 unfold shr
 by_cases h:b < 0
 .rw [if_pos h,Zba hg hd,Int.sign_eq_neg_one_of_neg h,Int.neg_one_mul,Int.neg_ediv_of_dvd hd]
 .rw [if_neg h,Zev hg,Int.sign_eq_one_of_pos (by omega),Int.one_mul]
theorem Zwi {t b:Int} (hb:b ≠ 0):b.fdiv (shr t b) = ((Rat.divInt t b).den:Int):=by
 have hg:=Zhe (t:=t) hb
 have hd:(Int.gcd t b:Int) ∣ b:=Int.gcd_dvd_right ..
 rw [Rat.den_divInt,if_neg hb,Int.gcd_comm b t]
 unfold shr
 by_cases h:b < 0
 .have e:(b.natAbs:Int) = -b:=by omega
  rw [if_pos h,Zba hg hd,Int.natCast_ediv,e,Int.neg_ediv_of_dvd hd]
 .have e:(b.natAbs:Int) = b:=by omega
  rw [if_neg h,Zev hg,Int.natCast_ediv,e]
theorem Zt7 {t b:Int} (hb:b ≠ 0):shr t b ≠ 0:=by
 have hg:=Zhe (t:=t) hb
 unfold shr
 split <;> omega
theorem Zu0 {n:Nat} {t b:Int} (hb:b ≠ 0) (h:Bt n b):Bt n (shr t b):=by
 have h1:Bt n (Int.gcd t b:Int):=by
  refine Bt.of_le h ?_
  have:=Int.gcd_le_natAbs_right t hb
  omega
 unfold shr
 split
 .exact h1.neg
 .exact h1
theorem Zro (q:Rat):(0:Int) < (q.den:Int):=by
 have:=q.den_pos
 omega
def frD (q:Rat):PyData:=fr q.num (q.den:Int)
def BQ (n:Nat) (q:Rat):Prop:=Bt n q.num/\Bt n (q.den:Int)
theorem BQ.zero:BQ 1 0:=⟨by unfold Bt; decide,by unfold Bt; decide⟩
end L2
namespace L2
open PySem PySem.Spec PyProof.Rows
end L2
namespace L2
open PySem PySem.Spec PyProof.Rows
section
variable   {a o:Expr}  
theorem Zp7 (hK:X.K = K):IxR X (rIx K):=hK ▸ Z4g
theorem Zta (hK:X.K = K):SlR X (Z9i K):=hK ▸ Zyv
def Z8p (K:PySem.W.Frag):List V→Hp→VK→Prop:=fun xs H Q=>∃ p ys,xs = [.ref p]/\(SqL K H p ys\/SqT K H p ys)/\Q (.int ys.length) H
theorem Ze0 (hK:X.K = K):Zac X (.builtin "len") (Z8p K):=by subst hK; exact Zja
def Zpd (K:PySem.W.Frag):List V→Hp→VK→Prop:=fun xs H Q=>∃ p ys,xs = [.ref p]/\(SqL K H p ys\/SqT K H p ys)/\∀ l,H l = none→Q (.ref l) (upd H l (.lst ys))
theorem Zgm (hK:X.K = K):Zac X (.type "list") (Zpd K):=by subst hK; exact Zh6
def Zt9 (K:PySem.W.Frag):List V→Hp→VK→Prop:=fun xs H Q=>∃ p ys,xs = [.ref p]/\((SqL K H p ys/\∀ l,H l = none→Q (.ref l) (upd H l (.tup ys)))\/(SqT K H p ys/\Q (.ref p) H))
theorem Zew (hK:X.K = K):Zac X (.type "tuple") (Zt9 K):=by subst hK; exact Zhf
def Ybt (K:PySem.W.Frag) (ta:TE):TT:=fun σ H Q=>ta σ H fun x H'=>∃ k,Z5n K x H' k/\Q k H'
theorem Zyo (hK:X.K = K) (ha:PE X a ta) (he:∀ whole,isTrue a X.env whole = (do let v <- whole; standAt a.pos; holding [v] (truthy v))):PT X a (Ybt K ta):=by subst hK; exact Zts ha he
theorem Zrt {l:Expr} (hK:X.K = K) (hl:PE X l tl):PI X tg l (Z2v K tl):=by subst hK; exact Zm8 hl
end
end L2
namespace L2
open PySem PySem.Spec PyProof.Rows
theorem Z6  {p:Addr} (h:H p = none) (o:HO):Same H (upd H p o):=fun b u q=>by rw [Zk (Yl q h)]; exact q
def But (p:Addr) (H H':Hp):Prop:=∀ b o,b ≠ p→H b = some o→H' b = some o
theorem But.refl (p:Addr) (H:Hp):But p H H:=fun _ _ _ h=>h
theorem But.upd (p:Addr) (H:Hp) (o:HO):But p H (upd H p o):=fun b u n e=>by rw [Zk n]; exact e
def Pl (H:Hp) (p:Addr) (n:Nat):Prop:=∃ a b c:Int,H p = some (.lst [.int a,.int b,.int c])/\0 <= c/\c <= n
theorem Pl.at  {p:Addr} {n:Nat} (h:Pl H p n):∃ xs,H p = some (.lst xs):=by
 obtain ⟨a,b,c,e,h1,h2⟩:=h
 exact ⟨_,e⟩
namespace B
theorem boot_abs:bootBuiltins "abs" = some (.builtin "abs"):=by decide +kernel
theorem boot_len:bootBuiltins "len" = some (.builtin "len"):=by decide +kernel
theorem boot_isinstance:bootBuiltins "isinstance" = some (.builtin "isinstance"):=by decide +kernel
theorem boot_sorted:bootBuiltins "sorted" = some (.builtin "sorted"):=by decide +kernel
theorem boot_int:bootBuiltins "int" = some (.type "int"):=by decide +kernel
theorem boot_bool:bootBuiltins "bool" = some (.type "bool"):=by decide +kernel
theorem boot_str:bootBuiltins "str" = some (.type "str"):=by decide +kernel
theorem boot_list:bootBuiltins "list" = some (.type "list"):=by decide +kernel
theorem boot_tuple:bootBuiltins "tuple" = some (.type "tuple"):=by decide +kernel
theorem boot_range:bootBuiltins "range" = some (.type "range"):=by decide +kernel
theorem boot_zip:bootBuiltins "zip" = some (.type "zip"):=by decide +kernel
end B
theorem Zch {a b:Int} (hb:0 < b):a.fmod b = a % b:=Int.fmod_eq_emod_of_nonneg a (by omega)
theorem Zrm {x y:Int} (hx:0 <= x) (hy:0 < y):Int.gcd y (x.fmod y) = Int.gcd x y:=by
 rw [Zch hy,Int.gcd_comm x y]
 have e:=Int.emod_add_mul_ediv x y
 conv=>rhs; rw [<- e]
 rw [Int.gcd_add_mul_left_right]
theorem Z20:(2:Nat) <= sizeLine:=by decide
end L2
namespace L2
open PySem PySem.Spec PyProof.Rows
end L2
namespace L2
open PySem PySem.Spec PyProof.Rows
end L2
namespace L2
open PySem PySem.Spec PyProof.Rows
end L2
namespace L2
open PySem PySem.Spec PyProof.Rows
theorem BQ.n {n:Nat} {q:Rat} (h:BQ n q):Bt n q.num:=h.1
theorem BQ.d {n:Nat} {q:Rat} (h:BQ n q):Bt n (q.den:Int):=h.2
end L2
namespace L2
end L2
namespace L2
end L2
namespace L2
open PySem PySem.Spec PyProof.Rows
variable {G:PySem.W.Frag}
def KS (G:PySem.W.Frag) (a:Addr) (ns:List Int):Prop:=∃ (o:Obj) (its:Array Value) (n:Nat),G.lookup a = some o/\o.cls = .type "list" /\ o.dict = none/\o.data = .seq its n/\its.size <= sizeLine/\Vals (ns.map V.int) its.toList
theorem KS.sq {G:PySem.W.Frag}    (h:KS G a ns):SqL G H a (ns.map V.int):=.inr h
def exD (x:Str):PyData:=.dict [(.str x,.none)]
def fnD (x:Str):PyData:=.dict [(.str x,.bool true)]
def Zfm:PyData→Bool | .dict ((_,.bool _) :: _)=>true | _=>false
def ClsAt (G:PySem.W.Frag) (x:Str) (C:Addr):Prop:=PySem.W.nsIn G mainGlobals x = some (some (.ref C))
structure Zen (G:PySem.W.Frag) (C:Addr):Prop where
 ga:PySem.W.findIn G (.ref C) "__getattribute__" = some (some (.builtin "BaseException.__getattribute__"))
 gt:PySem.W.findIn G (.ref C) "__getattr__" = some none
 cl:PySem.W.findIn G (.ref C) "__class__" = some (some (.builtin "object.__class__"))
 isB:PySem.W.subIn G (.ref C) (.type "BaseException") = some true
 isO:PySem.W.subIn G (.ref C) (.type "object") = some true
 isC:(PySem.W.clsIn G C).isSome = true
 k1:PySem.W.kitOne G (.ref C) (.type "int") = some false
 k2:PySem.W.kitOne G (.ref C) (.type "bool") = some false
 k3:PySem.W.kitOne G (.ref C) (.type "str") = some false
 k4:PySem.W.kitOne G (.ref C) (.type "list") = some false
 k5:PySem.W.kitOne G (.ref C) (.type "tuple") = some false
def ExO (C a:Addr) (h:Heap):Prop:=∃ o vs,h.get? a = some o/\o.cls = .ref C/\o.data = .fields vs
inductive ImO where
 | tup (xs:List V)
 | ext (φ:Heap→Prop)
def ImO.ho:ImO→HO
 | .tup xs=>.tup xs
 | .ext φ=>.ext φ
inductive MuO where
 | lst (xs:List V)
 | dK (kvs:List (Key × V))
 | dT (kvs:List (List Key × V))
def MuO.ho:MuO→HO
 | .lst xs=>.lst xs
 | .dK kvs=>.dK kvs
 | .dT kvs=>.dT kvs
def Zwb:Key→PyData
 | .inl i=>.int i
 | .inr x=>.str x
def keyT (ks:List Key):PyData:=.tuple (ks.map Zwb)
abbrev KY:=Sum Key (List Key)
def kyD:KY→PyData
 | .inl k=>Zwb k
 | .inr ks=>keyT ks
def MuO.dic (t:Bool) (ks:List KY) (xs:List V):MuO→Prop
 | .lst _=>False
 | .dK kvs=>t = false/\ks = kvs.map (fun p=>.inl p.1)/\xs = kvs.map (·.2)
 | .dT kvs=>t = true/\ks = kvs.map (fun p=>.inr p.1)/\xs = kvs.map (·.2)
def dcD (t:Bool) (ks:List KY) (ds:List PyData):PyData:=.dict ((.none,.bool t) :: (ks.map kyD).zip ds)
theorem ImO.nm   {x:ImO} {y:MuO} (h:H a = some x.ho) (h':H a = some y.ho):False:=by
 rw [h] at h'
 cases x <;> cases y <;> cases h'
theorem ImO.nl   {x:ImO}  (h:H a = some x.ho) (h':H a = some (.lst ys)):False:=by
 rw [h] at h'
 cases x <;> cases h'
mutual
inductive Da (G:PySem.W.Frag) (H:Hp) (L:Addr→Prop):V→PyData→Prop where
 | non:Da G H L .non .none
 | bl (b:Bool):Da G H L (.bl b) (.bool b)
 | int (i:Int):Da G H L (.int i) (.int i)
 | str (x:Str):Da G H L (.str x) (.str x)
 | lst {a:Addr} {xs:List V} {ds:List PyData}:L a→Rd H a (.lst xs)→Das G H L xs ds→Da G H L (.ref a) (.list ds)
 | tup {a:Addr} {xs:List V} {ds:List PyData}:H a = some (.tup xs)→Das G H L xs ds→Da G H L (.ref a) (.tuple ds)
 | scr {a:Addr} {ns:List Int}:KS G a ns→Da G H L (.ref a) (.list (ns.map PyData.int))
 | exc {a C:Addr} {x:Str}:Zen G C→ClsAt G x C→H a = some (.ext (ExO C a))→Da G H L (.ref a) (exD x)
 | fn {a:Addr} {x:Str}:ClsAt G x a→Da G H L (.ref a) (fnD x)
 | dic {a:Addr} {o:MuO} {t:Bool} {ks:List KY} {xs:List V} {ds:List PyData}:L a→Rd H a o.ho→o.dic t ks xs→Das G H L xs ds→Da G H L (.ref a) (dcD t ks ds)
inductive Das (G:PySem.W.Frag) (H:Hp) (L:Addr→Prop):List V→List PyData→Prop where
 | nil:Das G H L [] []
 | cons {x:V} {xs:List V} {d:PyData} {ds:List PyData}:Da G H L x d→Das G H L xs ds→Das G H L (x :: xs) (d :: ds)
end
section
variable  {L L':Addr→Prop}
theorem Da.both {P:V→PyData→Prop} {Q:List V→List PyData→Prop} (c1:P .non .none) (c2:∀ b,P (.bl b) (.bool b)) (c3:∀ i,P (.int i) (.int i)) (c4:∀ x,P (.str x) (.str x))
  (c5:∀ {a:Addr} {xs:List V} {ds:List PyData},L a→Rd H a (.lst xs)→Q xs ds→P (.ref a) (.list ds)) (c6:∀ {a:Addr} {xs:List V} {ds:List PyData},H a = some (.tup xs)→Q xs ds→P (.ref a) (.tuple ds))
  (c7:∀ {a:Addr} {ns:List Int},KS G a ns→P (.ref a) (.list (ns.map PyData.int))) (c8:∀ {a C:Addr} {x:Str},Zen G C→ClsAt G x C→H a = some (.ext (ExO C a))→P (.ref a) (exD x)) (c9:∀ {a:Addr} {x:Str},ClsAt G x a→P (.ref a) (fnD x))
  (c10:∀ {a:Addr} {o:MuO} {t:Bool} {ks:List KY} {xs:List V} {ds:List PyData},L a→Rd H a o.ho→o.dic t ks xs→Q xs ds→P (.ref a) (dcD t ks ds)) (n:Q [] []) (c:∀ {x:V} {xs:List V} {d:PyData} {ds:List PyData},P x d→Q xs ds→Q (x :: xs) (d :: ds)):(∀ {v d},Da G H L v d→P v d)/\∀ {xs ds},Das G H L xs ds→Q xs ds :=
 ⟨fun h=>Da.rec (motive_1:=fun v d _=>P v d) (motive_2:=fun xs ds _=>Q xs ds) c1 c2 c3 c4 (fun p e _ r=>c5 p e r) (fun e _ r=>c6 e r) (fun k=>c7 k) (fun k l m=>c8 k l m) (fun k=>c9 k) (fun p e k _ r=>c10 p e k r) n (fun _ _ p q=>c p q) h,
   fun h=>Das.rec (motive_1:=fun v d _=>P v d) (motive_2:=fun xs ds _=>Q xs ds) c1 c2 c3 c4 (fun p e _ r=>c5 p e r) (fun e _ r=>c6 e r) (fun k=>c7 k) (fun k l m=>c8 k l m) (fun k=>c9 k) (fun p e k _ r=>c10 p e k r) n (fun _ _ p q=>c p q) h⟩
theorem Das.ind {Q:List V→List PyData→Prop} (n:Q [] []) (c:∀ {x:V} {xs:List V} {d:PyData} {ds:List PyData},Da G H L x d→Das G H L xs ds→Q xs ds→Q (x :: xs) (d :: ds)):∀ {xs ds},Das G H L xs ds→Q xs ds:=fun h =>
 Das.rec (motive_1:=fun _ _ _=>True) (motive_2:=fun xs ds _=>Q xs ds) trivial (fun _=>trivial) (fun _=>trivial) (fun _=>trivial) (fun _ _ _ _=>trivial) (fun _ _ _=>trivial) (fun _=>trivial) (fun _ _ _=>trivial) (fun _=>trivial) (fun _ _ _ _ _=>trivial) n (fun p q _ r=>c p q r) h
theorem Da.frame2 (hl:∀ a (xs:MuO),L a→Rd H a xs.ho→L' a/\Rd H' a xs.ho) (ht:∀ a (xs:ImO),H a = some xs.ho→H' a = some xs.ho):(∀ {v:V} {d:PyData},Da G H L v d→Da G H' L' v d)/\∀ {xs:List V} {ds:List PyData},Das G H L xs ds→Das G H' L' xs ds :=
 Da.both .non .bl .int .str (fun {_ xs _} p e r=>.lst (hl _ (.lst xs) p e).1 (hl _ (.lst xs) p e).2 r) (fun {_ xs _} e r=>.tup (ht _ (.tup xs) e) r) .scr (fun c n e=>.exc c n (ht _ (.ext _) e)) .fn (fun p e k r=>.dic (hl _ _ p e).1 (hl _ _ p e).2 k r) .nil .cons
theorem Da.frame (hl:∀ a (xs:MuO),L a→Rd H a xs.ho→L' a/\Rd H' a xs.ho) (ht:∀ a (xs:ImO),H a = some xs.ho→H' a = some xs.ho)  {d:PyData} (h:Da G H L v d):Da G H' L' v d:=(Da.frame2 hl ht).1 h
theorem Das.frame (hl:∀ a (xs:MuO),L a→Rd H a xs.ho→L' a/\Rd H' a xs.ho) (ht:∀ a (xs:ImO),H a = some xs.ho→H' a = some xs.ho)  {ds:List PyData} (h:Das G H L xs ds):Das G H' L' xs ds:=(Da.frame2 hl ht).2 h
theorem Rd.same  {u:HO} (s:Same H H') (h:Rd H a u):Rd H' a u:=h.imp (s _ _) fun ⟨o,h⟩=>⟨o,s _ _ h⟩
theorem Rd.some  {u:HO} (h:Rd H a u):H a ≠ Option.none:=by
 rcases h with h | ⟨o,h⟩ <;> rw [h] <;> intro z <;> cases z
theorem Da.same (h:Same H H')  {d:PyData} (x:Da G H L v d):Da G H' L v d:=x.frame (fun a xs p e=>⟨p,e.same h⟩) fun a xs e=>h _ _ e
theorem Das.same (h:Same H H') {v:List V} {d:List PyData} (x:Das G H L v d):Das G H' L v d:=x.frame (fun a xs p e=>⟨p,e.same h⟩) fun a xs e=>h _ _ e
theorem Da.wide (h:∀ a,L a→H a ≠ none→L' a)  {d:PyData} (x:Da G H L v d):Da G H L' v d:=x.frame (fun a xs p e=>⟨h a p e.some,e⟩) fun a xs e=>e
theorem Das.wide (h:∀ a,L a→H a ≠ none→L' a) {v:List V} {d:List PyData} (x:Das G H L v d):Das G H L' v d:=x.frame (fun a xs p e=>⟨h a p e.some,e⟩) fun a xs e=>e
theorem Das.length  {ds:List PyData} (h:Das G H L xs ds):xs.length = ds.length:=Das.ind (Q:=fun xs ds=>xs.length = ds.length) rfl (fun _ _ r=>congrArg (· + 1) r) h
theorem Das.append  {ds es:List PyData} (h:Das G H L xs ds) (k:Das G H L ys es):Das G H L (xs ++ ys) (ds ++ es):=Das.ind (Q:=fun xs ds=>Das G H L (xs ++ ys) (ds ++ es)) k (fun h _ r=>.cons h r) h
theorem Das.snoc  {ds:List PyData} {x:V} {d:PyData} (h:Das G H L xs ds) (k:Da G H L x d):Das G H L (xs ++ [x]) (ds ++ [d]):=h.append (.cons k .nil)
theorem Das.get  {ds:List PyData}  {d:PyData} (h:Das G H L xs ds):ds[i]? = some d→∃ x,xs[i]? = some x/\Da G H L x d :=
 Das.ind (Q:=fun xs ds=>∀ i,ds[i]? = some d→∃ x,xs[i]? = some x/\Da G H L x d) (fun _ e=>(Option.some_ne_none _ (e.symm.trans List.getElem?_nil)).elim) (fun {x _ _ _} h _ r i=>Nat.casesOn i (fun e=>⟨x,rfl,Option.some.inj e ▸ h⟩) fun i e=>r i e) h i
theorem Das.get'  {ds:List PyData}  {x:V} (h:Das G H L xs ds):xs[i]? = some x→∃ d,ds[i]? = some d/\Da G H L x d :=
 Das.ind (Q:=fun xs ds=>∀ i,xs[i]? = some x→∃ d,ds[i]? = some d/\Da G H L x d) (fun _ e=>(Option.some_ne_none _ (e.symm.trans List.getElem?_nil)).elim) (fun {_ _ d _} h _ r i=>Nat.casesOn i (fun e=>⟨d,rfl,Option.some.inj e ▸ h⟩) fun i e=>r i e) h i
theorem Das.take  {ds:List PyData} (n:Nat) (h:Das G H L xs ds):Das G H L (xs.take n) (ds.take n) :=
 Das.ind (Q:=fun xs ds=>∀ n,Das G H L (xs.take n) (ds.take n)) (fun n=>by rw [List.take_nil,List.take_nil]; exact .nil) (fun h _ r n=>Nat.casesOn n .nil fun n=>.cons h (r n)) h n
theorem Das.drop  {ds:List PyData} (n:Nat) (h:Das G H L xs ds):Das G H L (xs.drop n) (ds.drop n) :=
 Das.ind (Q:=fun xs ds=>∀ n,Das G H L (xs.drop n) (ds.drop n)) (fun n=>by rw [List.drop_nil,List.drop_nil]; exact .nil) (fun h q r n=>Nat.casesOn n (.cons h q) fun n=>r n) h n
theorem Das.ints (ns:List Int):Das G H L (ns.map V.int) (ns.map PyData.int):=by
 induction ns with
 | nil=>exact .nil
 | cons n ns ih=>exact .cons (.int n) ih
end
theorem Zme  (ns:List Int)  (v:Vals (ns.map V.int) us):∃ as,ReadsAll h us (ns.map PyData.int) as:=by
 induction ns generalizing us with
 | nil=>cases v; exact ⟨_,.nil⟩
 | cons n ns ih =>
  rw [List.map_cons] at v
  cases v with
  | cons r rs =>
   obtain ⟨t,e⟩:=(show ∃ t,_ = Value.int n t from r)
   subst e
   obtain ⟨bs,k'⟩:=ih rs
   exact ⟨_,.cons (.int n t) k'⟩
section
variable   {σ:St}   {L L':Addr→Prop}
theorem Da.reads2 (hG:X.K = G) (I:Inv X pins σ H s):(∀ {v:V} {d:PyData},Da G H L v d→∀ u,RelV v u→d.canLay0 = true→∃ as,Reads s.heap u d as)/\∀ {xs:List V} {ds:List PyData},Das G H L xs ds→∀ us,Vals xs us→PyData.canLayAll0 ds = true→∃ as,ReadsAll s.heap us ds as:=by
 refine Da.both ?_ ?_ ?_ ?_ ?_ ?_ ?_ ?_ ?_ ?_ ?_ ?_
 .intro u r _
  cases (show _ = Value.none from r)
  exact ⟨_,.none⟩
 .intro b u r _
  cases (show _ = Value.bool b from r)
  exact ⟨_,.bool b⟩
 .intro i u r _
  obtain ⟨t,e⟩:=(show ∃ t,_ = Value.int i t from r)
  subst e
  exact ⟨_,.int i t⟩
 .intro x u r _
  obtain ⟨t,e⟩:=(show ∃ t,_ = Value.str x t from r)
  subst e
  exact ⟨_,.str x t⟩
 .intro a xs ds _ e q u r hcl
  cases (show _ = Value.ref a from r)
  obtain ⟨_,its,n,vs,h1⟩:=(show ObjOk X.prog X.w H s.heap a (.lst xs) from e.ok I.hok)
  rw [PyData.canLay0] at hcl
  obtain ⟨as,k⟩:=q _ vs hcl
  exact ⟨_,Reads.list h1 rfl rfl k⟩
 .intro a xs ds e q u r hcl
  cases (show _ = Value.ref a from r)
  obtain ⟨_,its,vs,o,ho,hc,n,hd⟩:=(show ObjOk X.prog X.w H s.heap a (.tup xs) from I.hok a _ e)
  rw [PyData.canLay0] at hcl
  obtain ⟨as,k⟩:=q _ vs hcl
  exact ⟨_,Reads.tuple ho hc hd k⟩
 .intro a ns k u r _
  cases (show _ = Value.ref a from r)
  subst hG
  obtain ⟨its,vs,⟨o,n,ho,hc,hd,hs⟩,_⟩:=I.list (k.sq (H:=H))
  obtain ⟨as,q⟩:=Zme ns vs
  exact ⟨_,Reads.list ho hc hs q⟩
 .intro a C x _ _ e u r hc
  rw [exD,PyData.canLay0] at hc
  cases hc
 .intro a x _ u r hc
  rw [fnD,PyData.canLay0] at hc
  cases hc
 .intro a o t ks xs ds _ _ _ _ u r hc
  rw [dcD,PyData.canLay0] at hc
  cases hc
 .intro us v _
  cases v
  exact ⟨_,.nil⟩
 .intro x xs d ds h q us v hc
  cases v with
  | cons r rs =>
   rw [PyData.canLayAll0,Bool.and_eq_true] at hc
   obtain ⟨as,k⟩:=h _ r hc.1
   obtain ⟨bs,k'⟩:=q _ rs hc.2
   exact ⟨_,.cons k k'⟩
theorem Da.reads (hG:X.K = G) (I:Inv X pins σ H s)  {d:PyData}  (h:Da G H L v d) (r:RelV v u) (c:d.canLay0 = true):∃ as,Reads s.heap u d as:=(Da.reads2 hG I).1 h u r c
theorem Das.reads (hG:X.K = G) (I:Inv X pins σ H s)  {ds:List PyData}  (h:Das G H L xs ds) (r:Vals xs us) (c:PyData.canLayAll0 ds = true):∃ as,ReadsAll s.heap us ds as:=(Da.reads2 hG I).2 h us r c
end
inductive OT where
 | fz (d:PyData)
 | nd (ts:List OT)
 | tp (ts:List OT)
 | dc (t:Bool) (ks:List KY) (ds:List PyData)
mutual
def OT.data:OT→PyData
 | .fz d=>d
 | .nd ts=>.list (OT.datas ts)
 | .tp ts=>.tuple (OT.datas ts)
 | .dc t ks ds=>dcD t ks ds
def OT.datas:List OT→List PyData
 | []=>[]
 | t :: ts=>t.data :: OT.datas ts
end
theorem OT.datas_map:∀ (ts:List OT),OT.datas ts = ts.map OT.data
 | []=>rfl
 | t :: ts=>by rw [OT.datas,OT.datas_map ts]; rfl
@[simp] theorem OT.data_fz (d:PyData):(OT.fz d).data = d:=by rw [OT.data]
@[simp] theorem OT.data_nd (ts:List OT):(OT.nd ts).data = .list (ts.map OT.data):=by rw [OT.data,OT.datas_map]
@[simp] theorem OT.data_tp (ts:List OT):(OT.tp ts).data = .tuple (ts.map OT.data):=by rw [OT.data,OT.datas_map]
theorem OT.data_dc (t:Bool) (ks:List KY) (ds:List PyData):(OT.dc t ks ds).data = dcD t ks ds:=by rw [OT.data]
@[simp] theorem OT.map_fz (ds:List PyData):(ds.map OT.fz).map OT.data = ds:=by
 rw [List.map_map]
 exact (List.map_congr_left fun d _=>OT.data_fz d).trans (List.map_id _)
mutual
inductive Own (G:PySem.W.Frag) (H:Hp) (L:Addr→Prop):V→OT→List Addr→Prop where
 | fz {v:V} {d:PyData}:Da G H L v d→Own G H L v (.fz d) []
 | nd {a:Addr} {xs:List V} {ts:List OT} {bs:List Addr}:H a = some (.lst xs)→Owns G H L xs ts bs→Own G H L (.ref a) (.nd ts) (a :: bs)
 | tp {a:Addr} {xs:List V} {ts:List OT} {bs:List Addr}:H a = some (.tup xs)→Owns G H L xs ts bs→Own G H L (.ref a) (.tp ts) bs
 | dc {a:Addr} {o:MuO} {t:Bool} {ks:List KY} {xs:List V} {ds:List PyData}:H a = some o.ho→o.dic t ks xs→Das G H L xs ds→Own G H L (.ref a) (.dc t ks ds) [a]
inductive Owns (G:PySem.W.Frag) (H:Hp) (L:Addr→Prop):List V→List OT→List Addr→Prop where
 | nil:Owns G H L [] [] []
 | cons {x:V} {xs:List V} {t:OT} {ts:List OT} {as bs:List Addr}:Own G H L x t as→Owns G H L xs ts bs→Owns G H L (x :: xs) (t :: ts) (as ++ bs)
end
end L2
variable {L L':Addr→Prop}{env:Env}{elt:Expr}{J:It}{as:List Addr}{ifs:List Expr}{caps:List Nat}{ts:List OT}{ds:List PyData}{own N':List Str}{G:PySem.W.Frag}{R:Result→Shared→Prop}
namespace L2
open PySem PySem.Spec PyProof.Rows
theorem Own.both {P:V→OT→List Addr→Prop} {Q:List V→List OT→List Addr→Prop} (c1:∀ {v:V} {d:PyData},Da G H L v d→P v (.fz d) []) (c2:∀ {a:Addr} {xs:List V} {ts:List OT} {bs:List Addr},H a = some (.lst xs)→Q xs ts bs→P (.ref a) (.nd ts) (a :: bs))
  (c3:∀ {a:Addr} {xs:List V} {ts:List OT} {bs:List Addr},H a = some (.tup xs)→Q xs ts bs→P (.ref a) (.tp ts) bs) (c4:∀ {a:Addr} {o:MuO} {t:Bool} {ks:List KY} {xs:List V} {ds:List PyData},H a = some o.ho→o.dic t ks xs→Das G H L xs ds→P (.ref a) (.dc t ks ds) [a]) (n:Q [] [] []) (c:∀ {x:V} {xs:List V} {t:OT} {ts:List OT} {as bs:List Addr},P x t as→Q xs ts bs→Q (x :: xs) (t :: ts) (as ++ bs)) :
  (∀ {v t as},Own G H L v t as→P v t as)/\∀ {xs ts as},Owns G H L xs ts as→Q xs ts as :=
 ⟨fun h=>Own.rec (motive_1:=fun v t as _=>P v t as) (motive_2:=fun xs ts as _=>Q xs ts as) c1 (fun e _ r=>c2 e r) (fun e _ r=>c3 e r) (fun e k r=>c4 e k r) n (fun _ _ p q=>c p q) h,
   fun h=>Owns.rec (motive_1:=fun v t as _=>P v t as) (motive_2:=fun xs ts as _=>Q xs ts as) c1 (fun e _ r=>c2 e r) (fun e _ r=>c3 e r) (fun e k r=>c4 e k r) n (fun _ _ p q=>c p q) h⟩
theorem Own.frame2 (hl:∀ a (xs:MuO),L a→Rd H a xs.ho→L' a/\Rd H' a xs.ho) (ht:∀ a (xs:ImO),H a = some xs.ho→H' a = some xs.ho) :
  (∀ {v:V} {t:OT} {as:List Addr},Own G H L v t as→(∀ a ∈ as,∀ xs:MuO,H a = some xs.ho→H' a = some xs.ho)→Own G H' L' v t as)/\∀ {xs:List V} {ts:List OT} {as:List Addr},Owns G H L xs ts as→(∀ a ∈ as,∀ xs:MuO,H a = some xs.ho→H' a = some xs.ho)→Owns G H' L' xs ts as :=
 Own.both (fun h _=>.fz (h.frame hl ht)) (fun {_ xs _ _} e r ha=>.nd (ha _ (.head _) (.lst xs) e) (r fun a m=>ha a (.tail _ m))) (fun {_ xs _ _} e r ha=>.tp (ht _ (.tup xs) e) (r ha)) (fun e k r ha=>.dc (ha _ (.head _) _ e) k (r.frame hl ht)) (fun _=>.nil) (fun h r ha=>.cons (h fun a m=>ha a (List.mem_append_left _ m)) (r fun a m=>ha a (List.mem_append_right _ m)))
theorem Own.frame (hl:∀ a (xs:MuO),L a→Rd H a xs.ho→L' a/\Rd H' a xs.ho) (ht:∀ a (xs:ImO),H a = some xs.ho→H' a = some xs.ho)  {t:OT}  (ha:∀ a ∈ as,∀ xs:MuO,H a = some xs.ho→H' a = some xs.ho) (h:Own G H L v t as):Own G H' L' v t as:=(Own.frame2 hl ht).1 h ha
theorem Owns.frame (hl:∀ a (xs:MuO),L a→Rd H a xs.ho→L' a/\Rd H' a xs.ho) (ht:∀ a (xs:ImO),H a = some xs.ho→H' a = some xs.ho)    (ha:∀ a ∈ as,∀ xs:MuO,H a = some xs.ho→H' a = some xs.ho) (h:Owns G H L xs ts as):Owns G H' L' xs ts as:=(Own.frame2 hl ht).2 h ha
theorem Own.same (h:Same H H')  {t:OT}  (x:Own G H L v t as):Own G H' L v t as:=x.frame (fun a xs p e=>⟨p,e.same h⟩) (fun a xs e=>h _ _ e) fun a _ xs e=>h _ _ e
theorem Own.wide (h:∀ a,L a→H a ≠ none→L' a)  {t:OT}  (x:Own G H L v t as):Own G H L' v t as:=x.frame (fun a xs p e=>⟨h a p e.some,e⟩) (fun a xs e=>e) fun a _ xs e=>e
theorem Owns.wide (h:∀ a,L a→H a ≠ none→L' a) {v:List V} {t:List OT}  (x:Owns G H L v t as):Owns G H L' v t as:=x.frame (fun a xs p e=>⟨h a p e.some,e⟩) (fun a xs e=>e) fun a _ xs e=>e
theorem Owns.same (h:Same H H') {v:List V} {t:List OT}  (x:Owns G H L v t as):Owns G H' L v t as:=x.frame (fun a xs p e=>⟨p,e.same h⟩) (fun a xs e=>h _ _ e) fun a _ xs e=>h _ _ e
theorem Own.da2 (h:∀ a,L a→H a ≠ none→L' a):(∀ {v:V} {t:OT} {as:List Addr},Own G H L v t as→(∀ a ∈ as,L' a)→Da G H L' v t.data)/\∀ {v:List V} {t:List OT} {as:List Addr},Owns G H L v t as→(∀ a ∈ as,L' a)→Das G H L' v (OT.datas t) :=
 Own.both (fun k _=>by rw [OT.data_fz]; exact k.wide h) (fun e r ha=>by rw [OT.data]; exact .lst (ha _ (.head _)) (.inl e) (r fun a m=>ha a (.tail _ m))) (fun e r ha=>by rw [OT.data]; exact .tup e (r ha)) (fun e k r ha=>by rw [OT.data]; exact .dic (ha _ (.head _)) (.inl e) k (r.wide h)) (fun _=>.nil) (fun k r ha=>.cons (k fun a m=>ha a (List.mem_append_left _ m)) (r fun a m=>ha a (List.mem_append_right _ m)))
theorem Own.da (h:∀ a,L a→H a ≠ none→L' a)  {t:OT}  (ha:∀ a ∈ as,L' a) (k:Own G H L v t as):Da G H L' v t.data:=(Own.da2 h).1 k ha
theorem Owns.das (h:∀ a,L a→H a ≠ none→L' a) {v:List V} {t:List OT}  (ha:∀ a ∈ as,L' a) (k:Owns G H L v t as):Das G H L' v (OT.datas t):=(Own.da2 h).2 k ha
theorem Own.some2:(∀ {v:V} {t:OT} {as:List Addr},Own G H L v t as→∀ a ∈ as,∃ xs:MuO,H a = some xs.ho)/\∀ {v:List V} {t:List OT} {as:List Addr},Owns G H L v t as→∀ a ∈ as,∃ xs:MuO,H a = some xs.ho :=
 Own.both (fun _ _ m=>nomatch m) (fun {_ xs _ _} e r a m=>(List.mem_cons.mp m).elim (fun q=>⟨.lst xs,q ▸ e⟩) (r a)) (fun _ r=>r) (fun {_ o _ _ _ _} e _ _ a m=>⟨o,List.mem_singleton.mp m ▸ e⟩) (fun _ m=>nomatch m) (fun k r a m=>(List.mem_append.mp m).elim (k a) (r a))
theorem Own.some  {t:OT}  (h:Own G H L v t as):∀ a ∈ as,∃ xs:MuO,H a = some xs.ho:=Own.some2.1 h
theorem Owns.some {v:List V} {t:List OT}  (h:Owns G H L v t as):∀ a ∈ as,∃ xs:MuO,H a = some xs.ho:=Own.some2.2 h
theorem Owns.length    (h:Owns G H L xs ts as):xs.length = ts.length:=(Own.both (P:=fun _ _ _=>True) (Q:=fun xs ts _=>xs.length = ts.length) (fun _=>trivial) (fun _ _=>trivial) (fun _ _=>trivial) (fun _ _ _=>trivial) rfl (fun _ r=>congrArg (· + 1) r)).2 h
theorem Das.owns   (h:Das G H L xs ds):Owns G H L xs (ds.map OT.fz) []:=Das.ind (Q:=fun xs ds=>Owns G H L xs (ds.map OT.fz) []) .nil (fun h _ r=>.cons (.fz h) r) h
end L2
namespace L2
open PySem PySem.Spec PyProof.Rows
abbrev Zc:=List (Option OT)
abbrev Fp:=Nat→List Addr
set_option genInjectivity false in
structure MC (G:PySem.W.Frag) where
 H₀:Hp
 as₀:Addr→Prop
 L:Addr→Prop
 σ₀:St
def Foot (fp:Fp) (a:Addr):Prop:=∃ i,a ∈ fp i
def Lf (C:MC G) (fp:Fp) (ex:Addr→Prop) (a:Addr):Prop:=¬ Foot fp a/\¬ ex a/\(C.L a\/C.H₀ a = none)
structure Rel (C:MC G) (io:List Nat) (H:Hp) (σ:St) (δ:Zc) (fp:Fp) (ex:Addr→Prop):Prop where
 len:σ.length = δ.length
 own:∀ (i:Nat) (t:OT),δ[i]? = some (some t)→∃ v,σ[i]? = some (some v)/\Own G H (Lf C fp ex) v t (fp i)
 emp:∀ i:Nat,(∀ t,δ[i]? ≠ some (some t))→fp i = []
 nd:∀ i,(fp i).Nodup
 dj:∀ i j a,a ∈ fp i→a ∈ fp j→i = j
 dx:∀ i a,a ∈ fp i→¬ ex a
 xa:∀ a,ex a→H a ≠ none
 fr:∀ b o,C.H₀ b = some o→¬ C.as₀ b→H b = some o
 al:∀ b,H b = none→C.H₀ b = none
 new:∀ i a,a ∈ fp i→(i ∈ io/\C.as₀ a)\/C.H₀ a = none
 io:∀ i ∈ io,σ[i]? = C.σ₀[i]?
structure Stp (p:Bool) (H:Hp) (δ:Zc) (fp:Fp) (H':Hp) (δ':Zc) (fp':Fp):Prop where
 keep:∀ b o,H b = some o→(p = true\/¬ Foot fp b)→H' b = some o
 env:p = true→δ' = δ/\fp' = fp
 grow:∀ a,Foot fp' a→Foot fp a\/H a = none
 al:∀ b,H' b = none→H b = none
section
variable {C:MC G} {io:List Nat} {H'':Hp} {σ:St} {δ δ' δ'':Zc} {fp fp' fp'':Fp} {ex ex':Addr→Prop} {p p' c:Bool}  {d:PyData} {r:OT} {new:List Addr}
theorem Rel.foot (R:Rel C io H σ δ fp ex)  (h:Foot fp a):∃ xs:MuO,H a = some xs.ho:=by
 obtain ⟨i,h⟩:=h
 by_cases q:∃ t,δ[i]? = some (some t)
 .obtain ⟨t,q⟩:=q
  obtain ⟨v,_,o⟩:=R.own i t q
  exact o.some a h
 .rw [R.emp i (fun t z=>q ⟨t,z⟩)] at h
  exact nomatch h
theorem Rel.footSome (R:Rel C io H σ δ fp ex)  (h:H a = none):¬ Foot fp a:=fun z=>by
 obtain ⟨xs,e⟩:=R.foot z
 rw [h] at e
 cases e
theorem Stp.refl (p:Bool) (H:Hp) (δ:Zc) (fp:Fp):Stp p H δ fp H δ fp:=⟨fun _ _ h _=>h,fun _=>⟨rfl,rfl⟩,fun _ h=>.inl h,fun _ h=>h⟩
theorem Stp.same (h:Same H H') (hn:∀ b,H' b = none→H b = none):Stp p H δ fp H' δ fp:=⟨fun _ _ q _=>h _ _ q,fun _=>⟨rfl,rfl⟩,fun _ h=>.inl h,hn⟩
theorem Same.al (h:Same H H'):∀ b,H' b = none→H b = none:=fun _ q=>h.free q
theorem Stp.trans (a:Stp p H δ fp H' δ' fp') (b:Stp p' H' δ' fp' H'' δ'' fp''):Stp (p && p') H δ fp H'' δ'' fp'' where
 keep:=fun x o e h=>by
  rcases h with h | h
  .rw [Bool.and_eq_true] at h
   exact b.keep x o (a.keep x o e (.inl h.1)) (.inl h.2)
  .refine b.keep x o (a.keep x o e (.inr h)) (.inr fun z=>?_)
   rcases a.grow x z with z | z
   .exact h z
   .rw [e] at z; cases z
 env:=fun h=>by
  rw [Bool.and_eq_true] at h
  obtain ⟨e1,e2⟩:=a.env h.1
  obtain ⟨e3,e4⟩:=b.env h.2
  exact ⟨e3.trans e1,e4.trans e2⟩
 grow:=fun x h=>by
  rcases b.grow x h with h | h
  .exact a.grow x h
  .exact .inr (a.al x h)
 al:=fun x h=>a.al x (b.al x h)
theorem Rel.frameL (R:Rel C io H σ δ fp ex) (S:Stp p H δ fp H' δ' fp') (hc:p = true\/c = true) (hx:∀ a,ex' a→ex a\/H a = none) :
  (∀ a (xs:MuO),(c = true→Lf C fp ex a)→Rd H a xs.ho→(c = true→Lf C fp' ex' a)/\Rd H' a xs.ho)/\(∀ a (xs:ImO),H a = some xs.ho→H' a = some xs.ho):=by
 have nf:∀ a,Foot fp a→∃ xs:MuO,H a = some xs.ho:=fun a h=>R.foot h
 refine ⟨fun a xs l q=>⟨fun hc'=>?_,?_⟩,fun a xs q=>S.keep a _ q (.inr fun z=>?_)⟩
 .obtain ⟨l1,l2,l3⟩:=l hc'
  refine ⟨fun z=>?_,fun z=>?_,l3⟩
  .rcases S.grow a z with z | z
   .exact l1 z
   .exact q.some z
  .rcases hx a z with z | z
   .exact l2 z
   .exact q.some z
 .have hk:p = true\/¬ Foot fp a:=by
   rcases hc with h | h
   .exact .inl h
   .exact .inr (l h).1
  rcases q with q | ⟨o,q⟩
  .exact .inl (S.keep a _ q hk)
  .exact .inr ⟨o,S.keep a _ q hk⟩
 .obtain ⟨ys,e⟩:=nf a z
  exact ImO.nm q e
theorem Rel.own_step (R:Rel C io H σ δ fp ex) (S:Stp p H δ fp H' δ' fp') (hc:p = true\/c = true) (hx:∀ a,ex' a→ex a\/H a = none) (hn:∀ a ∈ new,ex a)
  (x:Own G H (fun a=>c = true→Lf C fp ex a) v r new):Own G H' (fun a=>c = true→Lf C fp' ex' a) v r new :=
 x.frame (R.frameL S hc hx).1 (R.frameL S hc hx).2 fun a m xs e=>S.keep a _ e (.inr fun ⟨i,z⟩=>R.dx i a z (hn a m))
theorem Rel.owns_step (R:Rel C io H σ δ fp ex) (S:Stp p H δ fp H' δ' fp') (hc:p = true\/c = true) (hx:∀ a,ex' a→ex a\/H a = none) (hn:∀ a ∈ new,ex a) {vs:List V} {rs:List OT}
  (x:Owns G H (fun a=>c = true→Lf C fp ex a) vs rs new):Owns G H' (fun a=>c = true→Lf C fp' ex' a) vs rs new :=
 x.frame (R.frameL S hc hx).1 (R.frameL S hc hx).2 fun a m xs e=>S.keep a _ e (.inr fun ⟨i,z⟩=>R.dx i a z (hn a m))
theorem Rel.drop (R:Rel C io H σ δ fp ex) (h:∀ a,ex' a→ex a):Rel C io H σ δ fp ex' :=
 ⟨R.len,fun i t e=>by
  obtain ⟨v,e1,o⟩:=R.own i t e
  exact ⟨v,e1,o.wide fun a l _=>⟨l.1,fun z=>l.2.1 (h a z),l.2.2⟩⟩,R.emp,R.nd,R.dj,fun i a m z=>R.dx i a m (h a z),fun a z=>R.xa a (h a z),R.fr,R.al,R.new,R.io⟩
theorem Rel.made (R:Rel C io H σ δ fp ex) (s:Same H H') (hn:∀ a ∈ new,H a = none/\H' a ≠ none):Rel C io H' σ δ fp (fun a=>ex a\/a ∈ new) :=
 ⟨R.len,fun i t e=>by
  obtain ⟨v,e1,o⟩:=R.own i t e
  refine ⟨v,e1,(o.wide fun a l q=>⟨l.1,fun z=>?_,l.2.2⟩).same s⟩
  rcases z with z | z
  .exact l.2.1 z
  .exact q (hn a z).1,R.emp,R.nd,R.dj,fun i a m z=>by
   rcases z with z | z
   .exact R.dx i a m z
   .exact R.footSome (hn a z).1 ⟨i,m⟩,fun a z=>by
   rcases z with z | z
   .intro q; exact R.xa a z (s.free q)
   .exact (hn a z).2,fun b o e n=>s _ _ (R.fr b o e n),fun b q=>R.al b (s.free q),R.new,R.io⟩
end
abbrev MEt:=Zc→(OT→Zc→Prop)→Prop
abbrev MAt:=Zc→(List OT→Zc→Prop)→Prop
abbrev MTt:=Zc→(Bool→Zc→Prop)→Prop
abbrev exu (ex:Addr→Prop) (new:List Addr):Addr→Prop:=fun a=>ex a\/a ∈ new
structure RE (C:MC G) (io:List Nat) (p c:Bool) (H:Hp) (σ:St) (δ:Zc) (fp:Fp) (ex:Addr→Prop) (H':Hp) (v:V) (r:OT) (δ':Zc) (fp':Fp) (new:List Addr):Prop where
 rel:Rel C io H' σ δ' fp' (exu ex new)
 stp:Stp p H δ fp H' δ' fp'
 own:Own G H' (fun a=>c = true→Lf C fp' (exu ex new) a) v r new
 nd:new.Nodup
 fresh:∀ a ∈ new,H a = none
structure RA (C:MC G) (io:List Nat) (p c:Bool) (H:Hp) (σ:St) (δ:Zc) (fp:Fp) (ex:Addr→Prop) (H':Hp) (v:List V) (r:List OT) (δ':Zc) (fp':Fp) (new:List Addr):Prop where
 rel:Rel C io H' σ δ' fp' (exu ex new)
 stp:Stp p H δ fp H' δ' fp'
 own:Owns G H' (fun a=>c = true→Lf C fp' (exu ex new) a) v r new
 nd:new.Nodup
 fresh:∀ a ∈ new,H a = none
def SE (G:PySem.W.Frag) (io:List Nat) (p c:Bool) (t:TE) (m:MEt):Prop:=∀ (C:MC G) (H:Hp) (σ:St) (δ:Zc) (fp:Fp) (ex:Addr→Prop) (K:OT→Zc→Prop) (Q:VK),Rel C io H σ δ fp ex→m δ K →
 (∀ H' v r δ' fp' new,RE C io p c H σ δ fp ex H' v r δ' fp' new→K r δ'→Q v H')→t σ H Q
def SA (G:PySem.W.Frag) (io:List Nat) (p c:Bool) (t:TA) (m:MAt):Prop:=∀ (C:MC G) (H:Hp) (σ:St) (δ:Zc) (fp:Fp) (ex:Addr→Prop) (K:List OT→Zc→Prop) (Q:List V→Hp→Prop),Rel C io H σ δ fp ex→m δ K →
 (∀ H' v r δ' fp' new,RA C io p c H σ δ fp ex H' v r δ' fp' new→K r δ'→Q v H')→t σ H Q
def STt (G:PySem.W.Frag) (io:List Nat) (p:Bool) (t:TT) (m:MTt):Prop:=∀ (C:MC G) (H:Hp) (σ:St) (δ:Zc) (fp:Fp) (ex:Addr→Prop) (K:Bool→Zc→Prop) (Q:Bool→Hp→Prop),Rel C io H σ δ fp ex→m δ K →
 (∀ H' b δ' fp',Rel C io H' σ δ' fp' ex→Stp p H δ fp H' δ' fp'→K b δ'→Q b H')→t σ H Q
def ME (X:Cx) (io:List Nat) (p c:Bool) (e:Expr) (m:MEt):Prop:=∃ t,PE X e t/\SE X.K io p c t m
def MA (X:Cx) (io:List Nat) (p c:Bool) (e:List Expr) (m:MAt):Prop:=∃ t,PA X e t/\SA X.K io p c t m
def MT (X:Cx) (io:List Nat) (p:Bool) (e:Expr) (m:MTt):Prop:=∃ t,PT X e t/\STt X.K io p t m
def MW (X:Cx) (io:List Nat) (p:Bool) (e:Expr) (m:MTt):Prop:=∃ t,PW X e t/\STt X.K io p t m
section
variable {C:MC G} {io:List Nat} {H'':Hp} {σ:St} {δ δ' δ'':Zc} {fp fp' fp'':Fp} {ex ex':Addr→Prop} {p p' c:Bool}  {d:PyData} {r:OT} {vs:List V} {rs:List OT} {new:List Addr}
theorem Rel.newOk (R:Rel C io H σ δ fp ex)  (h:H a = none):¬ Foot fp a/\¬ ex a/\C.H₀ a = none:=⟨R.footSome h,fun z=>R.xa a z h,R.al a h⟩
theorem RE.da (R:RE C io p c H σ δ fp ex H' v r δ' fp' new) (R0:Rel C io H σ δ fp ex):Da G H' (fun a=>c = true→Lf C fp' ex a) v r.data:=by
 refine R.own.da (fun a l _ h=>?_) (fun a m _=>?_)
 .exact ⟨(l h).1,fun z=>(l h).2.1 (.inl z),(l h).2.2⟩
 .refine ⟨fun qz9=>?_,(R0.newOk (R.fresh a m)).2.1,.inr (R0.newOk (R.fresh a m)).2.2⟩
  obtain ⟨i,z⟩:=qz9
  exact R.rel.dx i a z (.inr m)
theorem RA.das (R:RA C io p c H σ δ fp ex H' vs rs δ' fp' new) (R0:Rel C io H σ δ fp ex):Das G H' (fun a=>c = true→Lf C fp' ex a) vs (OT.datas rs):=by
 refine R.own.das (fun a l _ h=>?_) (fun a m _=>?_)
 .exact ⟨(l h).1,fun z=>(l h).2.1 (.inl z),(l h).2.2⟩
 .refine ⟨fun qz9=>?_,(R0.newOk (R.fresh a m)).2.1,.inr (R0.newOk (R.fresh a m)).2.2⟩
  obtain ⟨i,z⟩:=qz9
  exact R.rel.dx i a z (.inr m)
theorem RE.base (R:RE C io p c H σ δ fp ex H' v r δ' fp' new):Rel C io H' σ δ' fp' ex:=R.rel.drop fun a z=>.inl z
theorem RA.base (R:RA C io p c H σ δ fp ex H' vs rs δ' fp' new):Rel C io H' σ δ' fp' ex:=R.rel.drop fun a z=>.inl z
theorem Zaf :exu ex [] a ↔ ex a:=by simp [exu]
theorem RE.fz (R:Rel C io H' σ δ' fp' ex) (S:Stp p H δ fp H' δ' fp') (h:Da G H' (fun a=>c = true→Lf C fp' ex a) v d):RE C io p c H σ δ fp ex H' v (.fz d) δ' fp' [] :=
 ⟨R.drop fun a z=>Zaf.mp z,S,.fz (h.wide fun a l _ hc=>⟨(l hc).1,fun z=>(l hc).2.1 (Zaf.mp z),(l hc).2.2⟩),.nil,fun a m=>nomatch m⟩
theorem RE.tree  (R0:Rel C io H σ δ fp ex) (R:Rel C io H1 σ δ' fp' ex) (S:Stp p H δ fp H1 δ' fp') (s:Same H1 H') (hn:∀ a ∈ new,H1 a = none) (nd:new.Nodup)
  (o:Own G H' (fun a=>((c = true→Lf C fp' ex a)\/H1 a = none)/\a ∉ new) v r new):RE C io p c H σ δ fp ex H' v r δ' fp' new:=by
 refine ⟨R.made s fun a m=>⟨hn a m,fun z=>?_⟩,?_,o.wide fun a l q hc=>?_,nd,fun a m=>S.al a (hn a m)⟩
 .obtain ⟨xs,e⟩:=o.some a m
  rw [z] at e; cases e
 .have:=S.trans (p':=true) (Stp.same (p:=true) (δ:=δ') (fp:=fp') s s.al)
  rwa [Bool.and_true] at this
 .rcases l.1 with l1 | l1
  .exact ⟨(l1 hc).1,fun z=>z.elim (l1 hc).2.1 l.2,(l1 hc).2.2⟩
  .exact ⟨R.footSome l1,fun z=>z.elim (fun z=>R.xa a z l1) l.2,.inr (R.al a l1)⟩
end
inductive ScD:V→PyData→Prop where
 | non:ScD .non .none
 | bl (b:Bool):ScD (.bl b) (.bool b)
 | int (i:Int):ScD (.int i) (.int i)
 | str (x:Str):ScD (.str x) (.str x)
theorem ScD.da    {d:PyData} (h:ScD v d):Da G H L v d:=by
 cases h
 .exact .non
 .exact .bl _
 .exact .int _
 .exact .str _
section
variable  {io:List Nat} {p p' c c':Bool} {a:Expr} {m ma mb:MEt} 
def Z4p (i:Nat):MEt:=fun δ K=>match δ[i]? with | some (some (.fz d))=>K (.fz d) δ | _=>False
def Z5e (i:Nat):MEt:=fun δ K=>match δ[i]? with | some (some t)=>K (.fz t.data) δ | _=>False
def mC (d:PyData):MEt:=fun δ K=>K (.fz d) δ
theorem mv (i:Nat)   (hN:X.N[i]? = some x:=by rfl) (hv:Vis X.env.scope x:=by first | exact Or.inl rfl | exact Or.inr (Or.inl rfl) | exact Or.inr (Or.inr rfl)) (hd:(x == ("__debug__" : Str)) = false:=by decide)
  (hcd:(x == ("__classdict__" : Str)) = false:=by decide):ME X io true true (.Name x pos) (Z4p i):=by
 refine ⟨_,pv i hN hv hd hcd,fun C H σ δ fp ex K Q R h k=>?_⟩
 unfold Z4p at h
 split at h
 .rename_i d hd
  obtain ⟨v,e,o⟩:=R.own i _ hd
  refine ⟨v,e,k H v _ δ fp [] (.fz R (.refl _ _ _ _) ?_) h⟩
  generalize fp i = as at o
  cases o with
  | fz q=>exact q.wide fun a l _ _=>l
 .exact h.elim
theorem mo (i:Nat)   (hN:X.N[i]? = some x:=by rfl) (hv:Vis X.env.scope x:=by first | exact Or.inl rfl | exact Or.inr (Or.inl rfl) | exact Or.inr (Or.inr rfl)) (hd:(x == ("__debug__" : Str)) = false:=by decide)
  (hcd:(x == ("__classdict__" : Str)) = false:=by decide):ME X io true false (.Name x pos) (Z5e i):=by
 refine ⟨_,pv i hN hv hd hcd,fun C H σ δ fp ex K Q R h k=>?_⟩
 unfold Z5e at h
 split at h
 .rename_i d hd
  obtain ⟨v,e,o⟩:=R.own i _ hd
  exact ⟨v,e,k H v _ δ fp [] (.fz R (.refl _ _ _ _) (o.da (fun a _ _ z=>(nomatch z)) fun a _ z=>(nomatch z))) h⟩
 .exact h.elim
theorem Zhj {t:V} {d:PyData} (h:PE X e (tC t)) (s:ScD t d):ME X io true true e (mC d) :=
 ⟨_,h,fun C H σ δ fp ex K Q R h k=>k H t _ δ fp [] (.fz R (.refl _ _ _ _) s.da) h⟩
theorem Z3y {i j pos}:ME X io true true (.Constant (.int i) j pos) (mC (.int i)):=Zhj Zvm (.int i)
theorem Za9 {b j pos}:ME X io true true (.Constant (.bool b) j pos) (mC (.bool b)):=Zhj Z7w (.bl b)
theorem Zhr {j pos}:ME X io true true (.Constant .none j pos) (mC .none):=Zhj Z0n .non
theorem Jf {x j pos}:ME X io true true (.Constant (.str x) j pos) (mC (.str x)):=Zhj Z3m (.str x)
theorem SE.two  (ha:SE G io p c ta ma) (hb:SE G io p' c' tb mb) (hc:p' = true\/c = true) {C:MC G}  {σ:St} {δ:Zc} {fp:Fp} {ex:Addr→Prop} {K:OT→OT→Zc→Prop} {Q:V→V→Hp→Prop}
  (R:Rel C io H σ δ fp ex) (h:ma δ fun x δ1=>mb δ1 fun y δ2=>K x y δ2)
  (k:∀ H' x y u v δ' fp',Rel C io H' σ δ' fp' ex→Stp (p && p') H δ fp H' δ' fp'→Da G H' (fun a=>(c && c') = true→Lf C fp' ex a) x u.data→Da G H' (fun a=>(c && c') = true→Lf C fp' ex a) y v.data→K u v δ'→Q x y H') :
  ta σ H fun x H1=>tb σ H1 fun y H2=>Q x y H2:=by
 refine ha C H σ δ fp ex _ _ R h fun H1 x u δ1 fp1 new1 r1 h1=>?_
 refine hb C H1 σ δ1 fp1 (exu ex new1) _ _ r1.rel h1 fun H2 y v δ2 fp2 new2 r2 h2=>?_
 have o1:=r1.rel.own_step (ex':=exu (exu ex new1) new2) r2.stp (c:=c) hc (fun a z=>z.imp id fun z=>r2.fresh a z) (fun a m=>.inr m) r1.own
 have R2:Rel C io H2 σ δ2 fp2 ex:=r2.rel.drop fun a z=>.inl (.inl z)
 have q1:Da G H2 (fun a=>c = true→Lf C fp2 ex a) x u.data:=by
  refine o1.da (fun a l _ z=>?_) (fun a m z=>?_)
  .exact ⟨(l z).1,fun w=>(l z).2.1 (.inl (.inl w)),(l z).2.2⟩
  .have:=R.newOk (r1.fresh a m)
   refine ⟨fun qz9=>?_,this.2.1,.inr this.2.2⟩
   obtain ⟨i,w⟩:=qz9
   exact r2.rel.dx i a w (.inl (.inr m))
 have q2:=r2.da r1.rel
 refine k H2 x y u v δ2 fp2 R2 (r1.stp.trans r2.stp) (q1.wide fun a l _ z=>l (by rw [Bool.and_eq_true] at z; exact z.1)) (q2.wide fun a l _ z=>?_) h2
 have l:=l (by rw [Bool.and_eq_true] at z; exact z.2)
 exact ⟨l.1,fun w=>l.2.1 (.inl w),l.2.2⟩
def P2s (G:PySem.W.Frag) (r:R2) (rp:PyData→PyData→(PyData→Prop)→Prop):Prop:=∀ (H:Hp) (L:Addr→Prop) (x y:V) (d e:PyData) (k:PyData→Prop) (Q:VK),Da G H L x d→Da G H L y e→rp d e k→(∀ v d',ScD v d'→k d'→Q v H)→r x y H Q
def P2 (G:PySem.W.Frag) (r:R2) (rp:PyData→PyData→(OT→Prop)→Prop):Prop:=∀ (H:Hp) (L:Addr→Prop) (x y:V) (d e:PyData) (k:OT→Prop) (Q:VK),Da G H L x d→Da G H L y e→rp d e k →
 (∀ H' v o new,Same H H'→Own G H' (fun a=>(L a\/H a = none)/\a ∉ new) v o new→new.Nodup→(∀ a ∈ new,H a = none)→k o→Q v H')→r x y H Q
def Zju (rp:PyData→PyData→(PyData→Prop)→Prop) (ma mb:MEt):MEt:=fun δ K=>ma δ fun x δ1=>mb δ1 fun y δ2=>rp x.data y.data fun d=>K (.fz d) δ2
def Z4x (rp:PyData→PyData→(OT→Prop)→Prop) (ma mb:MEt):MEt:=fun δ K=>ma δ fun x δ1=>mb δ1 fun y δ2=>rp x.data y.data fun d=>K d δ2
theorem Zx0  {rp}  (P:P2s G r rp) (ha:SE G io p c ta ma) (hb:SE G io p' c' tb mb) (hc:p' = true\/c = true):SE G io (p && p') true (tOp r ta tb) (Zju rp ma mb):=by
 intro C H σ δ fp ex K Q R h k
 refine SE.two (K:=fun x y δ2=>rp x.data y.data fun d=>K (.fz d) δ2) (Q:=fun x y H2=>r x y H2 Q) ha hb hc R h fun H' x y u v δ' fp' R' S q1 q2 h'=>?_
 exact P H' _ x y _ _ _ _ q1 q2 h' fun w d' sc h''=>k H' w _ δ' fp' [] (.fz R' S sc.da) h''
theorem Z8t  {rp}  (P:P2 G r rp) (ha:SE G io p c ta ma) (hb:SE G io p' c' tb mb) (hc:p' = true\/c = true):SE G io (p && p') (c && c') (tOp r ta tb) (Z4x rp ma mb):=by
 intro C H σ δ fp ex K Q R h k
 refine SE.two (K:=fun x y δ2=>rp x.data y.data fun d=>K d δ2) (Q:=fun x y H2=>r x y H2 Q) ha hb hc R h fun H' x y u v δ' fp' R' S q1 q2 h'=>?_
 exact P H' _ x y _ _ _ _ q1 q2 h' fun H2 w o new s ow nd hn h''=>k H2 w o δ' fp' new (RE.tree R R' S s hn nd ow) h''
theorem Zdg {op:Operator}  {rp}  (ho:OpR X (binaryOp op) r) (P:P2s X.K r rp) (ha:ME X io p c a ma) (hb:ME X io p' c' b mb) (hc:p' = true\/c = true:=by first | exact Or.inl rfl | exact Or.inr rfl):ME X io (p && p') true (.BinOp a op b pos) (Zju rp ma mb):=by
 obtain ⟨_,A,sa⟩:=ha
 obtain ⟨_,B,sb⟩:=hb
 exact ⟨_,Z7c ho A B,Zx0 P sa sb hc⟩
theorem Zd0   {rp}  (ho:OpR X (compareOp op) r) (P:P2s X.K r rp) (ha:ME X io p c a ma) (hb:ME X io p' c' b mb) (hc:p' = true\/c = true:=by first | exact Or.inl rfl | exact Or.inr rfl) (hm:behindInMarks op b = false):ME X io (p && p') true (.Compare a [op] [b] pos) (Zju rp ma mb):=by
 obtain ⟨_,A,sa⟩:=ha
 obtain ⟨_,B,sb⟩:=hb
 exact ⟨_,Zyb ho A B hm,Zx0 P sa sb hc⟩
theorem Z9p  {rp}  (ho:IxR X r) (P:P2 X.K r rp) (ha:ME X io p c a ma) (hb:ME X io p' c' b mb) (hc:p' = true\/c = true:=by first | exact Or.inl rfl | exact Or.inr rfl) (hs:Zj9 b):ME X io (p && p') (c && c') (.Subscript a b pos) (Z4x rp ma mb):=by
 obtain ⟨_,A,sa⟩:=ha
 obtain ⟨_,B,sb⟩:=hb
 exact ⟨_,Z6p ho A B hs,Z8t P sa sb hc⟩
def kB (K:Bool→Zc→Prop):OT→Zc→Prop:=fun o δ=>match o with | .fz (.bool b)=>K b δ | _=>False
theorem Z4f {t:TE} (h:SE G io p c t m):STt G io p (Zvx t) (fun δ K=>m δ (kB K)):=by
 intro C H σ δ fp ex K Q R h' k
 refine h C H σ δ fp ex _ _ R h' fun H' v r δ' fp' new r1 h1=>?_
 cases r with
 | nd ts=>exact h1.elim
 | tp ts=>exact h1.elim
 | dc _ _ _=>exact h1.elim
 | fz d =>
  cases d with
  | bool b =>
   cases r1.own with
   | fz q =>
    cases q
    exact ⟨b,rfl,k H' b δ' fp' r1.base r1.stp h1⟩
  | _=>exact h1.elim
theorem Zbx   {rp}  (ho:OpR X (compareOp op) r) (P:P2s X.K r rp) (ha:ME X io p c a ma) (hb:ME X io p' c' b mb) (hc:p' = true\/c = true:=by first | exact Or.inl rfl | exact Or.inr rfl) (hm:behindInMarks op b = false) :
  MT X io (p && p') (.Compare a [op] [b] pos) (fun δ K=>Zju rp ma mb δ (kB K)):=by
 obtain ⟨_,A,sa⟩:=ha
 obtain ⟨_,B,sb⟩:=hb
 exact ⟨_,Zxp ho A B hm,Z4f (Zx0 P sa sb hc)⟩
end
end L2
namespace L2
open PySem PySem.Spec PyProof.Rows
section
variable  {io:List Nat} {p p' p'' c c':Bool} {a:Expr} {m ma mb:MEt} {rest:List Expr} {ta tb:MTt} 
def Yaf (t:MTt):MTt:=fun δ K=>t δ fun b δ'=>K (!b) δ'
def Yap (t u:MTt):MTt:=fun δ K=>t δ fun b δ'=>if b = true then u δ' K else K false δ'
def mOr (t u:MTt):MTt:=fun δ K=>t δ fun b δ'=>if b = true then K true δ' else u δ' K
theorem Zuf (h:MT X io p a ta):MT X io p (.UnaryOp .Not a pos) (Yaf ta):=by
 obtain ⟨_,A,sa⟩:=h
 exact ⟨_,Z0a A,fun C H σ δ fp ex K Q R h k=>sa C H σ δ fp ex _ _ R h fun H' b δ' fp' R' S h'=>k H' (!b) δ' fp' R' S h'⟩
theorem Zps (h:MT X io p a ta):MW X io p (.BoolOp .And [a] pos) ta:=by
 obtain ⟨_,A,sa⟩:=h
 exact ⟨_,Zw1 A,sa⟩
theorem Ze1 (h:MT X io p a ta):MW X io p (.BoolOp .Or [a] pos) ta:=by
 obtain ⟨_,A,sa⟩:=h
 exact ⟨_,Z31 A,sa⟩
theorem Stp.andL  {δ δ':Zc} {fp fp':Fp} (S:Stp p H δ fp H' δ' fp'):Stp (p && p') H δ fp H' δ' fp':=by
 have:=S.trans (Stp.refl p' H' δ' fp')
 exact this
theorem Zu8 (h:MT X io p a ta) (g:MW X io p' (.BoolOp .And (b :: rest) pos) tb):MW X io (p && p') (.BoolOp .And (a :: b :: rest) pos) (Yap ta tb):=by
 obtain ⟨_,A,sa⟩:=h
 obtain ⟨_,B,sb⟩:=g
 exact ⟨_,Z2z A B,fun C H σ δ fp ex K Q R h k=>sa C H σ δ fp ex _ _ R h fun H' b δ' fp' R' S h'=>by
  cases b with
  | true =>
   rw [if_pos rfl] at h' |-
   exact sb C H' σ δ' fp' ex _ _ R' h' fun H2 b2 δ2 fp2 R2 S2 h2=>k H2 b2 δ2 fp2 R2 (S.trans S2) h2
  | false =>
   rw [if_neg Bool.false_ne_true] at h' |-
   exact k H' false δ' fp' R' S.andL h'⟩
theorem Ziz (h:MT X io p a ta) (g:MW X io p' (.BoolOp .Or (b :: rest) pos) tb):MW X io (p && p') (.BoolOp .Or (a :: b :: rest) pos) (mOr ta tb):=by
 obtain ⟨_,A,sa⟩:=h
 obtain ⟨_,B,sb⟩:=g
 exact ⟨_,Z76 A B,fun C H σ δ fp ex K Q R h k=>sa C H σ δ fp ex _ _ R h fun H' b δ' fp' R' S h'=>by
  cases b with
  | true =>
   rw [if_pos rfl] at h' |-
   exact k H' true δ' fp' R' S.andL h'
  | false =>
   rw [if_neg Bool.false_ne_true] at h' |-
   exact sb C H' σ δ' fp' ex _ _ R' h' fun H2 b2 δ2 fp2 R2 S2 h2=>k H2 b2 δ2 fp2 R2 (S.trans S2) h2⟩
theorem MW.mt (h:MW X io p e ta):MT X io p e ta:=by
 obtain ⟨_,A,sa⟩:=h
 exact ⟨_,A.pt,sa⟩
def Zr5:PyData→Option Bool
 | .none=>some false
 | .bool b=>some b
 | .int i=>some (i != 0)
 | .list ds=>some (!ds.isEmpty)
 | .tuple ds=>some (!ds.isEmpty)
 | _=>none
def Z80 (m:MEt):MTt:=fun δ K=>m δ fun r δ'=>match Zr5 r.data with | some b=>K b δ' | none=>False
theorem Das.isEmpty     (h:Das G H L xs ds):xs.isEmpty = ds.isEmpty:=by cases h <;> rfl
theorem Wa (ha:ME X io p c a ma) (he:∀ whole,isTrue a X.env whole = (do let v <- whole; standAt a.pos; holding [v] (truthy v))):MT X io p a (Z80 ma):=by
 obtain ⟨_,A,sa⟩:=ha
 exact ⟨_,Zyo rfl A he,fun C H σ δ fp ex K' Q R h k=>sa C H σ δ fp ex _ _ R h fun H' v r δ' fp' new r1 h1=>by
  have q:=r1.da R
  generalize r.data = d at q h1
  cases q with
  | non=>exact ⟨_,rfl,k H' _ δ' fp' r1.base r1.stp h1⟩
  | bl b=>exact ⟨_,rfl,k H' _ δ' fp' r1.base r1.stp h1⟩
  | int b=>exact ⟨_,rfl,k H' _ δ' fp' r1.base r1.stp h1⟩
  | str x=>exact h1.elim
  | lst _ e q=>exact ⟨_,.inl ⟨_,.inl e,rfl⟩,k H' _ δ' fp' r1.base r1.stp (by rw [q.isEmpty]; exact h1)⟩
  | tup e q=>exact ⟨_,.inr (.inl ⟨_,.inl (.inl e),rfl⟩),k H' _ δ' fp' r1.base r1.stp (by rw [q.isEmpty]; exact h1)⟩
  | scr q=>exact ⟨_,.inl ⟨_,q.sq,rfl⟩,k H' _ δ' fp' r1.base r1.stp (by simpa [Zr5] using h1)⟩
  | exc _ _ _=>exact h1.elim
  | fn _=>exact h1.elim
  | dic _ _ _ _=>exact h1.elim⟩
def asB (d:PyData) (k:Bool→Prop):Prop:=match d with | .bool b=>k b | _=>False
def Z00 (a b:MEt):MEt:=fun δ K=>a δ fun x δ1=>asB x.data fun c=>if c = true then b δ1 K else K (.fz (.bool false)) δ1
def Z99 (a b:MEt):MEt:=fun δ K=>a δ fun x δ1=>asB x.data fun c=>if c = true then K (.fz (.bool true)) δ1 else b δ1 K
def Z10 (a:MEt):MEt:=fun δ K=>a δ fun x δ1=>asB x.data fun c=>K (.fz (.bool (!c))) δ1
def mIf (t:MTt) (a b:MEt):MEt:=fun δ K=>t δ fun c δ1=>if c = true then a δ1 K else b δ1 K
theorem Da.boolInv    {d:PyData} {k:Bool→Prop} (q:Da G H L v d) (h:asB d k):∃ b,v = .bl b/\k b:=by
 cases q with
 | bl b=>exact ⟨b,rfl,h⟩
 | _=>exact h.elim
theorem RE.step {C:MC G}  {σ:St} {δ δ1 δ2:Zc} {fp fp1 fp2:Fp} {ex:Addr→Prop}  {r:OT} {new:List Addr} (S:Stp p H δ fp H1 δ1 fp1) (R:RE C io p' c H1 σ δ1 fp1 ex H2 v r δ2 fp2 new) :
  RE C io (p && p') c H σ δ fp ex H2 v r δ2 fp2 new:=⟨R.rel,S.trans R.stp,R.own,R.nd,fun a m=>S.al a (R.fresh a m)⟩
theorem Zf8 {op} (h:ME X io p c a ma):ME X io p c (.BoolOp op [a] pos) ma:=by
 obtain ⟨_,A,sa⟩:=h
 exact ⟨_,Z03 A,sa⟩
theorem Zfb (ha:ME X io p c a ma) (hb:ME X io p' c' (.BoolOp .And (b :: rest) pos) mb):ME X io (p && p') c' (.BoolOp .And (a :: b :: rest) pos) (Z00 ma mb):=by
 obtain ⟨_,A,sa⟩:=ha
 obtain ⟨_,B,sb⟩:=hb
 exact ⟨_,Z14 A B,fun C H σ δ fp ex K Q R h k=>sa C H σ δ fp ex _ _ R h fun H' v r δ' fp' new r1 h1=>by
  obtain ⟨b,rfl,h1⟩:=(r1.da R).boolInv h1
  refine ⟨b,rfl,?_⟩
  cases b with
  | true =>
   rw [if_pos rfl] at h1 |-
   exact sb C H' σ δ' fp' ex _ _ r1.base h1 fun H2 w r2 δ2 fp2 new2 R2 h2=>k H2 w r2 δ2 fp2 new2 (R2.step r1.stp) h2
  | false =>
   rw [if_neg Bool.false_ne_true] at h1 |-
   exact k H' _ _ δ' fp' [] (RE.fz r1.base r1.stp.andL (.bl false)) h1⟩
theorem Ycl (ha:ME X io p c a ma) (hb:ME X io p' c' (.BoolOp .Or (b :: rest) pos) mb):ME X io (p && p') c' (.BoolOp .Or (a :: b :: rest) pos) (Z99 ma mb):=by
 obtain ⟨_,A,sa⟩:=ha
 obtain ⟨_,B,sb⟩:=hb
 exact ⟨_,Z6j A B,fun C H σ δ fp ex K Q R h k=>sa C H σ δ fp ex _ _ R h fun H' v r δ' fp' new r1 h1=>by
  obtain ⟨b,rfl,h1⟩:=(r1.da R).boolInv h1
  refine ⟨b,rfl,?_⟩
  cases b with
  | true =>
   rw [if_pos rfl] at h1 |-
   exact k H' _ _ δ' fp' [] (RE.fz r1.base r1.stp.andL (.bl true)) h1
  | false =>
   rw [if_neg Bool.false_ne_true] at h1 |-
   exact sb C H' σ δ' fp' ex _ _ r1.base h1 fun H2 w r2 δ2 fp2 new2 R2 h2=>k H2 w r2 δ2 fp2 new2 (R2.step r1.stp) h2⟩
theorem Z0k (ha:ME X io p c a ma):ME X io p true (.UnaryOp .Not a pos) (Z10 ma):=by
 obtain ⟨_,A,sa⟩:=ha
 exact ⟨_,Z39 A,fun C H σ δ fp ex K Q R h k=>sa C H σ δ fp ex _ _ R h fun H' v r δ' fp' new r1 h1=>by
  obtain ⟨b,rfl,h1⟩:=(r1.da R).boolInv h1
  exact ⟨b,rfl,k H' _ _ δ' fp' [] (RE.fz r1.base r1.stp (.bl _)) h1⟩⟩
theorem Stp.cast {p p':Bool}  {δ δ':Zc} {fp fp':Fp} (h:p' = true→p = true) (S:Stp p H δ fp H' δ' fp'):Stp p' H δ fp H' δ' fp' :=
 ⟨fun b o e q=>S.keep b o e (q.imp h id),fun q=>S.env (h q),S.grow,S.al⟩
theorem RE.cast {C:MC G}  {σ:St} {δ δ1:Zc} {fp fp1:Fp} {ex:Addr→Prop}  {r:OT} {new:List Addr} (hp:p' = true→p = true) (hc:c' = true→c = true) (R:RE C io p c H σ δ fp ex H1 v r δ1 fp1 new) :
  RE C io p' c' H σ δ fp ex H1 v r δ1 fp1 new:=⟨R.rel,R.stp.cast hp,R.own.wide fun a l _ z=>l (hc z),R.nd,R.fresh⟩
theorem Z9x {t:Expr} (ht:MT X io p t ta) (ha:ME X io p' c a ma) (hb:ME X io p'' c' b mb):ME X io (p && (p' && p'')) (c && c') (.IfExp t a b pos) (mIf ta ma mb):=by
 obtain ⟨_,T,st⟩:=ht
 obtain ⟨_,A,sa⟩:=ha
 obtain ⟨_,B,sb⟩:=hb
 exact ⟨_,Ztj T A B,fun C H σ δ fp ex K Q R h k=>st C H σ δ fp ex _ _ R h fun H' b δ' fp' R' S h'=>by
  cases b with
  | true =>
   rw [if_pos rfl] at h' |-
   exact sa C H' σ δ' fp' ex _ _ R' h' fun H2 w r2 δ2 fp2 new2 R2 h2=>k H2 w r2 δ2 fp2 new2 ((R2.step S).cast (fun z=>by simp at z; simp [z]) (fun z=>by simp at z; exact z.1)) h2
  | false =>
   rw [if_neg Bool.false_ne_true] at h' |-
   exact sb C H' σ δ' fp' ex _ _ R' h' fun H2 w r2 δ2 fp2 new2 R2 h2=>k H2 w r2 δ2 fp2 new2 ((R2.step S).cast (fun z=>by simp at z; simp [z]) (fun z=>by simp at z; exact z.2)) h2⟩
end
section
variable  {io:List Nat} {p p' p'' c c':Bool} {a:Expr} {m ma mb:MEt} {rest:List Expr} {mr:MAt} 
def Z90:MAt:=fun δ K=>K [] δ
def Z2d (m:MEt) (mr:MAt):MAt:=fun δ K=>m δ fun r δ1=>mr δ1 fun rs δ2=>K (r :: rs) δ2
theorem Zge:MA X io true true [] Z90:=⟨_,Zky,fun C H σ δ fp ex K Q R h k=>k H [] [] δ fp [] ⟨R.drop fun a z=>Zaf.mp z,.refl _ _ _ _,.nil,.nil,fun a m=>nomatch m⟩ h⟩
theorem Zwu (ha:ME X io p c e m) (hr:MA X io p' c' es mr) (hc:p' = true\/c = true) (hs:starEach (e :: es) X.env = (false,eval e X.env) :: starEach es X.env:=by rfl):MA X io (p && p') (c && c') (e :: es) (Z2d m mr):=by
 obtain ⟨tA,A,sa⟩:=ha
 obtain ⟨tB,B,sb⟩:=hr
 refine ⟨_,Ze7 A B hs,fun C H σ δ fp ex K Q R h k=>?_⟩
 refine sa C H σ δ fp ex _ _ R h fun H1 x u δ1 fp1 new1 r1 h1=>?_
 refine sb C H1 σ δ1 fp1 (exu ex new1) _ _ r1.rel h1 fun H2 ys us δ2 fp2 new2 r2 h2=>?_
 have o1:=r1.rel.own_step (ex':=exu (exu ex new1) new2) r2.stp (c:=c) hc (fun a z=>z.imp id fun z=>r2.fresh a z) (fun a m=>.inr m) r1.own
 have eqx:∀ a,exu ex (new1 ++ new2) a→exu (exu ex new1) new2 a:=fun a z=>by
  rcases z with z | z
  .exact .inl (.inl z)
  .rcases List.mem_append.mp z with z | z
   .exact .inl (.inr z)
   .exact .inr z
 refine k H2 (x :: ys) (u :: us) δ2 fp2 (new1 ++ new2) ⟨r2.rel.drop eqx,r1.stp.trans r2.stp,.cons (o1.wide fun a l _ z=>?_) (r2.own.wide fun a l _ z=>?_),?_,?_⟩ h2
 .have l:=l (by rw [Bool.and_eq_true] at z; exact z.1)
  exact ⟨l.1,fun w=>l.2.1 (eqx a w),l.2.2⟩
 .have l:=l (by rw [Bool.and_eq_true] at z; exact z.2)
  exact ⟨l.1,fun w=>l.2.1 (eqx a w),l.2.2⟩
 .refine List.nodup_append.mpr ⟨r1.nd,r2.nd,fun a m b m' z=>?_⟩
  subst z
  obtain ⟨xs,e⟩:=r1.own.some a m
  rw [r2.fresh a m'] at e
  cases e
 .intro a m
  rcases List.mem_append.mp m with m | m
  .exact r1.fresh a m
  .exact r1.stp.al a (r2.fresh a m)
def Z9g (m:MAt):MEt:=fun δ K=>m δ fun rs δ'=>rs.length <= sizeLine/\K (.fz (.tuple (OT.datas rs))) δ'
def Yau (m:MAt):MEt:=fun δ K=>m δ fun rs δ'=>rs.length <= sizeLine/\K (.nd rs) δ'
theorem Z73 {x1} (h:MA X io p c es mr):ME X io p c (.Tuple es x1 pos) (Z9g mr):=by
 obtain ⟨tA,A,sa⟩:=h
 refine ⟨_,Zt1 A,fun C H σ δ fp ex K Q R h k=>?_⟩
 refine sa C H σ δ fp ex _ _ R h fun H1 vs rs δ1 fp1 new1 r1 h1=>⟨by rw [r1.own.length]; exact h1.1,fun q hq=>?_⟩
 have s:=Z6 hq (.tup vs)
 have R1:=r1.base
 have S:=r1.stp.trans (p':=true) (Stp.same (p:=true) (δ:=δ1) (fp:=fp1) s s.al)
 rw [Bool.and_true] at S
 refine k _ _ _ δ1 fp1 [] (.fz ?_ S (.tup Zu ((r1.das R).same s))) h1.2
 exact (R1.made (new:=[]) s fun a m=>nomatch m).drop fun a z=>.inl z
theorem Z6i (h:MA X io p c es mr):ME X io p c (.List es pos) (Yau mr):=by
 obtain ⟨tA,A,sa⟩:=h
 refine ⟨_,Z0s A,fun C H σ δ fp ex K Q R h k=>?_⟩
 refine sa C H σ δ fp ex _ _ R h fun H1 vs rs δ1 fp1 new1 r1 h1=>⟨by rw [r1.own.length]; exact h1.1,fun q hq=>?_⟩
 have s:=Z6 hq (.lst vs)
 have S:=r1.stp.trans (p':=true) (Stp.same (p:=true) (δ:=δ1) (fp:=fp1) s s.al)
 rw [Bool.and_true] at S
 have hqn:q ∉ new1:=fun m=>by
  obtain ⟨xs,e⟩:=r1.own.some q m
  rw [hq] at e; cases e
 have R2:=(r1.rel.made (new:=[q]) s fun a m=>by
  rcases List.mem_singleton.mp m with rfl
  exact ⟨hq,by rw [Zu]; intro z; cases z⟩)
 have eqx:∀ a,exu ex (q :: new1) a→exu (exu ex new1) [q] a:=fun a z=>by
  rcases z with z | z
  .exact .inl (.inl z)
  .rcases List.mem_cons.mp z with z | z
   .exact .inr (List.mem_singleton.mpr z)
   .exact .inl (.inr z)
 refine k _ _ _ δ1 fp1 (q :: new1) ⟨R2.drop eqx,S,.nd Zu ((r1.own.wide fun a l w z=>?_).same s),List.nodup_cons.mpr ⟨hqn,r1.nd⟩,fun a m=>?_⟩ h1.2
 .have l:=l z
  refine ⟨l.1,fun y=>?_,l.2.2⟩
  rcases eqx a y with y | y
  .exact l.2.1 y
  .rcases List.mem_singleton.mp y with rfl
   exact w hq
 .rcases List.mem_cons.mp m with rfl | m
  .exact r1.stp.al _ hq
  .exact r1.fresh a m
end
end L2
namespace L2
open PySem PySem.Spec PyProof.Rows
def spD (G:PySem.W.Frag) (S:List PyData→(OT→Prop)→Prop):Sp:=fun vs H Q _=>∃ L ds k,Das G H L vs ds/\S ds k /\
 ∀ r v H' new,k r→Same H H'→Own G H' (fun a=>(L a\/H a = none)/\a ∉ new) v r new→new.Nodup→(∀ a ∈ new,H a = none)→Q v H'
section
variable  {io:List Nat} {p p' p'' c c':Bool} {a:Expr} {m ma mb:MEt} {rest:List Expr} {mr:MAt} 
variable  {k:Nat} {f:Addr} {fd:FuncData}  {E:XK}  {pp:Pos}
def Zya (S:List PyData→(OT→Prop)→Prop) (mr:MAt):MEt:=fun δ K=>mr δ fun rs δ1=>S (OT.datas rs) fun r=>K r δ1
theorem Z6w {S} {t:TA} (sa:SA G io p c t mr):SE G io p c (Z08 (spD G S) [] E t) (Zya S mr):=by
 intro C H σ δ fp ex K Q R h kk
 refine sa C H σ δ fp ex _ _ R h fun H1 vs rs δ1 fp1 new1 r1 h1=>?_
 rw [List.append_nil]
 refine ⟨_,_,_,r1.das R,h1,fun r v H' new kr s o nd hn=>?_⟩
 exact kk H' v r δ1 fp1 new (RE.tree R r1.base r1.stp s hn nd o) kr
theorem Zp8 {S} (F:FnOk X.prog X.w X.K X.mg X.base CX k f fd ps (spD X.K S)) (hr:Room k X.A) (hg:Gl X x) (hm:X.mg x = some (.ref f)) (hk:PySem.W.keepIn X.K (.ref f) = true) (hb:Binds X.K fd ps []) (hx:Zk9 CX X E)
  (ha:MA X io p c (e :: es) mr) (hdb:(x == ("__debug__" : Str)) = false:=by decide) (he:starEach (e :: es) X.env = (false,eval e X.env) :: starEach es X.env:=by rfl) (hpl:(backTo pos (starEach es X.env)).any (·.1) = false:=by rfl) :
  ME X io p c (.Call (.Name x pp) (e :: es) [] pos) (Zya S mr):=by
 obtain ⟨_,A,sa⟩:=ha
 exact ⟨_,Zv7 F hr hg hm hk hb .nil hx A hdb he hpl,Z6w sa⟩
def fpu (fp:Fp) (i:Nat) (as:List Addr):Fp:=fun j=>if j = i then as else fp j
theorem Zx {fp:Fp}  :fpu fp i as i = as:=if_pos rfl
theorem Yh {fp:Fp}   (h:j ≠ i):fpu fp i as j = fp j:=if_neg h
theorem Foot.of_u {fp:Fp}   {a:Addr} (h:Foot (fpu fp i as) a):a ∈ as\/∃ j,j ≠ i/\a ∈ fp j:=by
 obtain ⟨j,h⟩:=h
 by_cases e:j = i
 .subst e; rw [Zx] at h; exact .inl h
 .rw [Yh e] at h; exact .inr ⟨j,e,h⟩
theorem Rel.change {C:MC G}  {σ:St} {δ:Zc} {fp:Fp} {ex:Addr→Prop}  {t t':OT}  {as' new:List Addr} (R:Rel C io H σ δ fp ex) (hi:δ[i]? = some (some t)) (hv:σ[i]? = some (some v))
  (keep:∀ b o,H b = some o→b ∉ fp i→H' b = some o) (al:∀ b,H' b = none→H b = none) (o:Own G H' (Lf C (fpu fp i as') (exu ex new)) v t' as') (nd:as'.Nodup) (new':∀ a ∈ as',a ∈ fp i\/H a = none)
  (hn:∀ a ∈ new,H a = none/\H' a ≠ none/\a ∉ as') :
  Rel C io H' σ (δ.set i (some t')) (fpu fp i as') (exu ex new)/\Stp false H δ fp H' (δ.set i (some t')) (fpu fp i as'):=by
 have hil:i < δ.length:=(List.getElem?_eq_some_iff.mp hi).1
 have apart:∀ j a,j ≠ i→a ∈ fp j→a ∉ as':=fun j a e m z=>by
  rcases new' a z with z | z
  .exact e (R.dj j i a m z)
  .exact R.footSome z ⟨j,m⟩
 constructor
 .refine ⟨by rw [List.length_set]; exact R.len,fun j t'' e=>?_,fun j h=>?_,fun j=>?_,fun j k a h1 h2=>?_,fun j a h z=>?_,fun a z w=>z.elim (fun z=>R.xa a z (al a w)) (fun z=>(hn a z).2.1 w),fun b ob e n=>?_,fun b z=>R.al b (al b z),fun j a h=>?_,R.io⟩
  .by_cases ej:j = i
   .subst ej
    rw [List.getElem?_set_self hil] at e
    cases e
    exact ⟨v,hv,by rw [Zx]; exact o⟩
   .rw [List.getElem?_set_ne (Ne.symm ej)] at e
    obtain ⟨w,e1,o1⟩:=R.own j t'' e
    refine ⟨w,e1,?_⟩
    rw [Yh ej]
    refine o1.frame (fun a xs l q=>?_) (fun a xs q=>keep a _ q fun z=>?_) fun a m xs q=>keep a _ q fun z=>ej (R.dj j i a m z)
    .have na:a ∉ fp i:=fun z=>l.1 ⟨i,z⟩
     refine ⟨⟨fun z=>?_,fun z=>z.elim l.2.1 fun z=>q.some (hn a z).1,l.2.2⟩,?_⟩
     .rcases z.of_u with z | ⟨k,_,z⟩
      .rcases new' a z with z | z
       .exact na z
       .exact q.some z
      .exact l.1 ⟨k,z⟩
     .rcases q with q | ⟨u,q⟩
      .exact .inl (keep a _ q na)
      .exact .inr ⟨u,keep a _ q na⟩
    .obtain ⟨ys,e⟩:=R.foot ⟨i,z⟩
     exact ImO.nm q e
  .by_cases ej:j = i
   .subst ej
    exact absurd (List.getElem?_set_self hil) (h t')
   .rw [Yh ej]
    refine R.emp j fun t'' z=>h t'' ?_
    rw [List.getElem?_set_ne (Ne.symm ej)]
    exact z
  .by_cases ej:j = i
   .subst ej; rw [Zx]; exact nd
   .rw [Yh ej]; exact R.nd j
  .by_cases ej:j = i
   .subst ej
    rw [Zx] at h1
    by_cases ek:k = j
    .exact ek.symm
    .rw [Yh ek] at h2
     exact absurd h1 (apart k a ek h2)
   .rw [Yh ej] at h1
    by_cases ek:k = i
    .subst ek
     rw [Zx] at h2
     exact absurd h2 (apart j a ej h1)
    .rw [Yh ek] at h2
     exact R.dj j k a h1 h2
  .by_cases ej:j = i
   .subst ej
    rw [Zx] at h
    rcases z with z | z
    .rcases new' a h with w | w
     .exact R.dx _ a w z
     .exact R.xa a z w
    .exact (hn a z).2.2 h
   .rw [Yh ej] at h
    rcases z with z | z
    .exact R.dx j a h z
    .exact R.footSome (hn a z).1 ⟨j,h⟩
  .refine keep b ob (R.fr b ob e n) fun z=>?_
   rcases R.new i b z with w | w
   .exact n w.2
   .rw [e] at w; cases w
  .by_cases ej:j = i
   .subst ej
    rw [Zx] at h
    rcases new' a h with w | w
    .exact R.new _ a w
    .exact .inr (R.al a w)
   .rw [Yh ej] at h
    exact R.new j a h
 .refine ⟨fun b ob e q=>keep b ob e fun z=>(q.resolve_left (by decide)) ⟨i,z⟩,fun z=>(nomatch z),fun a z=>?_,al⟩
  rcases z.of_u with z | ⟨j,_,z⟩
  .exact (new' a z).imp (fun w=>⟨i,w⟩) id
  .exact .inl ⟨j,z⟩
def PNs (G:PySem.W.Frag) (r:List V→Hp→VK→Prop) (rp:List PyData→(PyData→Prop)→Prop):Prop:=∀ (H:Hp) (L:Addr→Prop) (xs:List V) (ds:List PyData) (k:PyData→Prop) (Q:VK),Das G H L xs ds→rp ds k→(∀ v d',ScD v d'→k d'→Q v H)→r xs H Q
def PN (G:PySem.W.Frag) (r:List V→Hp→VK→Prop) (rp:List PyData→(OT→Prop)→Prop):Prop:=∀ (H:Hp) (L:Addr→Prop) (xs:List V) (ds:List PyData) (k:OT→Prop) (Q:VK),Das G H L xs ds→rp ds k →
 (∀ H' v o new,Same H H'→Own G H' (fun a=>(L a\/H a = none)/\a ∉ new) v o new→new.Nodup→(∀ a ∈ new,H a = none)→k o→Q v H')→r xs H Q
def Z4v (rp:List PyData→(PyData→Prop)→Prop) (mr:MAt):MEt:=fun δ K=>mr δ fun rs δ1=>rp (OT.datas rs) fun d=>K (.fz d) δ1
def mBl (rp:List PyData→(OT→Prop)→Prop) (mr:MAt):MEt:=fun δ K=>mr δ fun rs δ1=>rp (OT.datas rs) fun o=>K o δ1
theorem Ya5 {r rp} {t:TA} (P:PNs G r rp) (sa:SA G io p c t mr):SE G io p true (tCB r t) (Z4v rp mr):=fun C H σ δ fp ex K Q R h kk =>
 sa C H σ δ fp ex _ _ R h fun H1 vs rs δ1 fp1 new1 r1 h1=>P H1 _ vs _ _ _ (r1.das R) h1 fun v d' sc h2=>kk H1 v _ δ1 fp1 [] (.fz r1.base r1.stp sc.da) h2
theorem sBl {r rp} {t:TA} (P:PN G r rp) (sa:SA G io p c t mr):SE G io p c (tCB r t) (mBl rp mr):=fun C H σ δ fp ex K Q R h kk =>
 sa C H σ δ fp ex _ _ R h fun H1 vs rs δ1 fp1 new1 r1 h1=>P H1 _ vs _ _ _ (r1.das R) h1 fun H' v o new s ow nd hn h2=>kk H' v o δ1 fp1 new (RE.tree R r1.base r1.stp s hn nd ow) h2
variable {T:String} {r:List V→Hp→VK→Prop}
theorem Zkb {rp} (P:PNs X.K r rp) (hc:Zac X (.builtin id) r) (hg:Gl X x) (hm:X.mg x = none) (hv:bootBuiltins x = some (.builtin id)) (ha:MA X io p c (e :: es) mr) (hn:x ≠ "__name__" := by decide) (hdb:(x == ("__debug__" : Str)) = false:=by decide)
  (he:starEach (e :: es) X.env = (false,eval e X.env) :: starEach es X.env:=by rfl) (hpl:(backTo pos (starEach es X.env)).any (·.1) = false:=by rfl):ME X io p true (.Call (.Name x pp) (e :: es) [] pos) (Z4v rp mr):=by
 obtain ⟨_,A,sa⟩:=ha
 exact ⟨_,Zhm hc hg hm hv A hn hdb he hpl,Ya5 P sa⟩
theorem Yc6 {rp} (P:PN X.K r rp) (hc:Zac X (.builtin id) r) (hg:Gl X x) (hm:X.mg x = none) (hv:bootBuiltins x = some (.builtin id)) (ha:MA X io p c (e :: es) mr) (hn:x ≠ "__name__" := by decide) (hdb:(x == ("__debug__" : Str)) = false:=by decide)
  (he:starEach (e :: es) X.env = (false,eval e X.env) :: starEach es X.env:=by rfl) (hpl:(backTo pos (starEach es X.env)).any (·.1) = false:=by rfl):ME X io p c (.Call (.Name x pp) (e :: es) [] pos) (mBl rp mr):=by
 obtain ⟨_,A,sa⟩:=ha
 exact ⟨_,Zhm hc hg hm hv A hn hdb he hpl,sBl P sa⟩
theorem Zii {rp} (P:PNs X.K r rp) (hc:Zac X (.type T) r) (hg:Gl X x) (hm:X.mg x = none) (hv:bootBuiltins x = some (.type T)) (ha:MA X io p c (e :: es) mr) (hn:x ≠ "__name__" := by decide) (hdb:(x == ("__debug__" : Str)) = false:=by decide)
  (he:starEach (e :: es) X.env = (false,eval e X.env) :: starEach es X.env:=by rfl) (hpl:(backTo pos (starEach es X.env)).any (·.1) = false:=by rfl):ME X io p true (.Call (.Name x pp) (e :: es) [] pos) (Z4v rp mr):=by
 obtain ⟨_,A,sa⟩:=ha
 exact ⟨_,Zip hc hg hm hv A hn hdb he hpl,Ya5 P sa⟩
theorem Zz1 {rp} (P:PN X.K r rp) (hc:Zac X (.type T) r) (hg:Gl X x) (hm:X.mg x = none) (hv:bootBuiltins x = some (.type T)) (ha:MA X io p c (e :: es) mr) (hn:x ≠ "__name__" := by decide) (hdb:(x == ("__debug__" : Str)) = false:=by decide)
  (he:starEach (e :: es) X.env = (false,eval e X.env) :: starEach es X.env:=by rfl) (hpl:(backTo pos (starEach es X.env)).any (·.1) = false:=by rfl):ME X io p c (.Call (.Name x pp) (e :: es) [] pos) (mBl rp mr):=by
 obtain ⟨_,A,sa⟩:=ha
 exact ⟨_,Zip hc hg hm hv A hn hdb he hpl,sBl P sa⟩
end
end L2
namespace L2
open PySem PySem.Spec PyProof.Rows
mutual
def J8:PyData→Bool
 | .none=>true
 | .bool _=>true
 | .int _=>true
 | .str _=>true
 | .tuple ds=>Zij ds
 | .list _=>false
 | .dict _=>false
def Zij:List PyData→Bool
 | []=>true
 | d :: ds=>J8 d && Zij ds
end
theorem Da.flat2  :(∀ {v:V} {d:PyData},Da G H L v d→J8 d = true→Da G H L' v d)/\∀ {v:List V} {d:List PyData},Das G H L v d→Zij d = true→Das G H L' v d :=
 Da.both (fun _=>.non) (fun b _=>.bl b) (fun i _=>.int i) (fun x _=>.str x) (fun _ _ _ h=>by rw [J8] at h; cases h) (fun e r h=>.tup e (r (by rw [J8] at h; exact h))) (fun k _=>.scr k) (fun c n e _=>.exc c n e) (fun k _=>.fn k) (fun _ _ _ _ h=>by rw [dcD,J8] at h; cases h) (fun _=>.nil)
  (fun k r h=>by rw [Zij,Bool.and_eq_true] at h; exact .cons (k h.1) (r h.2))
theorem Da.flat    {d:PyData} (h:Da G H L v d) (f:J8 d = true):Da G H L' v d:=Da.flat2.1 h f
set_option genInjectivity false in
structure Zf1 where
 nx:Zc→Prop
 rt:OT→Zc→Prop
 bk:Zc→Prop:=fun _=>False
 ct:Zc→Prop:=fun _=>False
abbrev MSt:=Zf1→Zc→Prop
abbrev Kp (H:Hp) (fp:Fp) (H':Hp) (fp':Fp):Prop:=Stp false H [] fp H' [] fp'
theorem Stp.kp {p:Bool}  {δ δ':Zc} {fp fp':Fp} (S:Stp p H δ fp H' δ' fp'):Kp H fp H' fp':=⟨fun b o e q=>S.keep b o e (.inr (q.resolve_left (by decide))),fun z=>(nomatch z),S.grow,S.al⟩
theorem Kp.trans  {fp fp1 fp2:Fp} (a:Kp H fp H1 fp1) (b:Kp H1 fp1 H2 fp2):Kp H fp H2 fp2:=Stp.trans a b
theorem Kp.refl (H:Hp) (fp:Fp):Kp H fp H fp:=Stp.refl _ _ _ _
structure RelEnds (C:MC G) (io:List Nat) (ex:Addr→Prop) (H:Hp) (fp:Fp) (D:Zf1) (D':Ends):Prop where
 nx:∀ H' σ' δ' fp',Rel C io H' σ' δ' fp' ex→Kp H fp H' fp'→D.nx δ'→D'.nx σ' H'
 bk:∀ H' σ' δ' fp',Rel C io H' σ' δ' fp' ex→Kp H fp H' fp'→D.bk δ'→D'.bk σ' H'
 ct:∀ H' σ' δ' fp',Rel C io H' σ' δ' fp' ex→Kp H fp H' fp'→D.ct δ'→D'.ct σ' H'
 rt:∀ H' σ' v r δ' fp' new,Rel C io H' σ' δ' fp' (exu ex new)→Own G H' (Lf C fp' (exu ex new)) v r new→new.Nodup→(∀ a ∈ new,C.H₀ a = none)→D.rt r δ'→D'.rt v H'
theorem RelEnds.shift {C:MC G} {io:List Nat} {ex:Addr→Prop}  {fp fp1:Fp} {D:Zf1} {D':Ends} (E:RelEnds C io ex H fp D D') (k:Kp H fp H1 fp1):RelEnds C io ex H1 fp1 D D' :=
 ⟨fun H' σ' δ' fp' R q=>E.nx H' σ' δ' fp' R (k.trans q),fun H' σ' δ' fp' R q=>E.bk H' σ' δ' fp' R (k.trans q),fun H' σ' δ' fp' R q=>E.ct H' σ' δ' fp' R (k.trans q),E.rt⟩
def SS (G:PySem.W.Frag) (io:List Nat) (t:TS) (m:MSt):Prop:=∀ (C:MC G) (H:Hp) (σ:St) (δ:Zc) (fp:Fp) (ex:Addr→Prop) (D:Zf1) (D':Ends),Rel C io H σ δ fp ex→m D δ→RelEnds C io ex H fp D D'→t D' σ H
def MS (X:Cx) (io:List Nat) (st:Stmt) (m:MSt):Prop:=∃ t,PS X st t/\SS X.K io t m
def MSs (X:Cx) (io:List Nat) (st:List Stmt) (m:MSt):Prop:=∃ t,PSs X st t/\SS X.K io t m
section
variable  {io:List Nat} {p p' p'' c c':Bool} {a:Expr} {m ma mb:MEt} {rest:List Expr} {mr:MAt}   {sts:List Stmt} {u w:MSt} {mt:MTt}
def Z3d:MSt:=fun D δ=>D.nx δ
def Ybv (w:MSt) (D:Zf1) (δ:Zc):Prop:=w D δ
def Z7j (u w:MSt):MSt:=fun D δ=>u { D with nx:=Ybv w D } δ
theorem Zaz:MSs X io [] Z3d:=⟨_,Zza,fun C H σ δ fp ex D D' R h E=>E.nx H σ δ fp R (.refl _ _) h⟩
theorem Ze (h:MS X io st u):MSs X io [st] u:=by
 obtain ⟨_,A,s⟩:=h
 exact ⟨_,Zqa A,s⟩
theorem Jr (h:MS X io st u) (g:MSs X io sts w):MSs X io (st :: sts) (Z7j u w):=by
 obtain ⟨_,A,s⟩:=h
 obtain ⟨tb,B,s'⟩:=g
 exact ⟨_,Zs0 A B,fun C H σ δ fp ex D D' R h E=>s C H σ δ fp ex _ _ R h ⟨fun H1 σ1 δ1 fp1 R1 k1 h1=>s' C H1 σ1 δ1 fp1 ex D D' R1 h1 (E.shift k1),E.bk,E.ct,E.rt⟩⟩
def Z2n:MSt:=fun _ _=>False
theorem Ztm:MS X io st Z2n:=⟨_,Ztq,fun C H σ δ fp ex D D' R h E=>h.elim⟩
def Z16 (m:MEt):MSt:=fun D δ=>m δ fun _ δ'=>D.nx δ'
theorem Zx2 (he:ME X io p c e m) (hs:swapsWith e none pos.line X.env = pure false:=by rfl):MS X io (.Expr e pos) (Z16 m):=by
 obtain ⟨_,A,s⟩:=he
 exact ⟨_,Zke A hs,fun C H σ δ fp ex D D' R h E=>s C H σ δ fp ex _ _ R h fun H' v r δ' fp' new r1 h1=>E.nx H' σ δ' fp' r1.base r1.stp.kp h1⟩
def Ya8 (m:MEt):MSt:=fun D δ=>m δ fun r δ'=>D.rt r δ'
theorem Zcp (he:ME X io p true e m):MS X io (.Return (some e) pos) (Ya8 m):=by
 obtain ⟨_,A,s⟩:=he
 exact ⟨_,Zuq A,fun C H σ δ fp ex D D' R h E=>s C H σ δ fp ex _ _ R h fun H' v r δ' fp' new r1 h1=>E.rt H' σ v r δ' fp' new r1.rel (r1.own.wide fun a l _=>l rfl) r1.nd (fun a m=>(R.newOk (r1.fresh a m)).2.2) h1⟩
def Zr4 (i:Nat):MSt:=fun D δ=>match δ[i]? with | some (some t)=>D.rt t (δ.set i none) | _=>False
theorem Rel.take {C:MC G}  {σ:St} {δ:Zc} {fp:Fp} {ex:Addr→Prop}  {t:OT} (R:Rel C io H σ δ fp ex) (hi:δ[i]? = some (some t)):Rel C io H σ (δ.set i none) (fpu fp i []) (exu ex (fp i)):=by
 have hil:i < δ.length:=(List.getElem?_eq_some_iff.mp hi).1
 have get:∀ j (t':OT),(δ.set i none)[j]? = some (some t')→j ≠ i/\δ[j]? = some (some t'):=fun j t' e=>by
  by_cases ej:j = i
  .subst ej; rw [List.getElem?_set_self hil] at e; cases e
  .rw [List.getElem?_set_ne (Ne.symm ej)] at e; exact ⟨ej,e⟩
 have sub:∀ j a,a ∈ fpu fp i [] j→j ≠ i/\a ∈ fp j:=fun j a m=>by
  by_cases ej:j = i
  .subst ej; rw [Zx] at m; exact nomatch m
  .rw [Yh ej] at m; exact ⟨ej,m⟩
 have lw:∀ a,Lf C fp ex a→Lf C (fpu fp i []) (exu ex (fp i)) a:=fun a l=>⟨fun ⟨j,z⟩=>l.1 ⟨j,(sub j a z).2⟩,fun z=>z.elim l.2.1 fun z=>l.1 ⟨i,z⟩,l.2.2⟩
 refine ⟨by rw [List.length_set]; exact R.len,fun j t' e=>?_,fun j h=>?_,fun j=>?_,fun j k a h1 h2=>R.dj j k a (sub j a h1).2 (sub k a h2).2,fun j a h z=>?_,fun a z w=>?_,R.fr,R.al,fun j a h=>R.new j a (sub j a h).2,R.io⟩
 .obtain ⟨ej,e⟩:=get j t' e
  obtain ⟨w,e1,o⟩:=R.own j t' e
  exact ⟨w,e1,by rw [Yh ej]; exact o.wide fun a l _=>lw a l⟩
 .by_cases ej:j = i
  .subst ej; rw [Zx]
  .rw [Yh ej]
   exact R.emp j fun t' z=>h t' (by rw [List.getElem?_set_ne (Ne.symm ej)]; exact z)
 .by_cases ej:j = i
  .subst ej; rw [Zx]; exact .nil
  .rw [Yh ej]; exact R.nd j
 .obtain ⟨ej,h⟩:=sub j a h
  rcases z with z | z
  .exact R.dx j a h z
  .exact ej (R.dj j i a h z)
 .rcases z with z | z
  .exact R.xa a z w
  .exact R.footSome w ⟨i,z⟩
theorem Zxe (i:Nat)   (hio:i ∉ io:=by decide) (hN:X.N[i]? = some x:=by rfl) (hv:Vis X.env.scope x:=by first | exact Or.inl rfl | exact Or.inr (Or.inl rfl) | exact Or.inr (Or.inr rfl)) (hd:(x == ("__debug__" : Str)) = false:=by decide)
  (hcd:(x == ("__classdict__" : Str)) = false:=by decide):MS X io (.Return (some (.Name x px)) pos) (Zr4 i):=by
 refine ⟨_,Zuq (pv i hN hv hd hcd),fun C H σ δ fp ex D D' R h E=>?_⟩
 unfold Zr4 at h
 split at h
 case h_2=>exact h.elim
 rename_i t hi
 obtain ⟨v,e,o⟩:=R.own i t hi
 have lw:∀ a,Lf C fp ex a→H a ≠ none→Lf C (fpu fp i []) (exu ex (fp i)) a:=fun a l _=>⟨fun z=>by
  rcases z.of_u with z | ⟨j,_,z⟩
  .exact nomatch z
  .exact l.1 ⟨j,z⟩,fun z=>z.elim l.2.1 fun z=>l.1 ⟨i,z⟩,l.2.2⟩
 have hn:∀ a ∈ fp i,C.H₀ a = none:=fun a m=>by
  rcases R.new i a m with z | z
  .exact absurd z.1 hio
  .exact z
 exact ⟨v,e,E.rt H σ v t _ _ (fp i) (R.take hi) (o.wide lw) (R.nd i) hn h⟩
def Yag (t:MTt) (u w:MSt):MSt:=fun D δ=>t δ fun b δ'=>if b = true then u D δ' else w D δ'
theorem Zhq {cnd:Expr} {ss ss':List Stmt} (hc:MT X io p cnd mt) (ha:MSs X io ss u) (hb:MSs X io ss' w):MS X io (.If cnd ss ss' pos) (Yag mt u w):=by
 obtain ⟨_,T,s⟩:=hc
 obtain ⟨_,A,sa⟩:=ha
 obtain ⟨_,B,sb⟩:=hb
 exact ⟨_,Z79 T A B,fun C H σ δ fp ex D D' R h E=>s C H σ δ fp ex _ _ R h fun H' b δ' fp' R' S h'=>by
  cases b with
  | true =>
   rw [if_pos rfl] at h' |-
   exact sa C H' σ δ' fp' ex D D' R' h' (E.shift S.kp)
  | false =>
   rw [if_neg Bool.false_ne_true] at h' |-
   exact sb C H' σ δ' fp' ex D D' R' h' (E.shift S.kp)⟩
theorem Rel.put {C:MC G}  {σ:St} {δ:Zc} {fp:Fp} {ex:Addr→Prop}   {r:OT} {new:List Addr} (R:Rel C io H σ δ fp (exu ex new)) (hio:i ∉ io) (o:Own G H (Lf C fp (exu ex new)) v r new) (nd:new.Nodup)
  (hn:∀ a ∈ new,C.H₀ a = none/\¬ ex a):∃ fp',Rel C io H (σ.set i (some v)) (δ.set i (some r)) fp' ex/\∀ a,Foot fp' a→Foot fp a\/a ∈ new:=by
 by_cases hil:i < δ.length
 case neg =>
  refine ⟨fp,?_,fun a h=>.inl h⟩
  have hl:=R.len
  rw [List.set_eq_of_length_le (show δ.length <= i by omega),List.set_eq_of_length_le (show σ.length <= i by omega)]
  exact R.drop fun a z=>.inl z
 have hsl:i < σ.length:=by rw [R.len]; exact hil
 have sub:∀ a,Foot (fpu fp i new) a→Foot fp a\/a ∈ new:=fun a z=>by
  rcases z.of_u with z | ⟨j,_,z⟩
  .exact .inr z
  .exact .inl ⟨j,z⟩
 have lw:∀ a,Lf C fp (exu ex new) a→Lf C (fpu fp i new) ex a:=fun a l=>⟨fun z=>(sub a z).elim l.1 fun z=>l.2.1 (.inr z),fun z=>l.2.1 (.inl z),l.2.2⟩
 refine ⟨fpu fp i new,⟨by rw [List.length_set,List.length_set]; exact R.len,fun j t' e=>?_,fun j h=>?_,fun j=>?_,fun j k a h1 h2=>?_,fun j a h z=>?_,fun a z=>R.xa a (.inl z),R.fr,R.al,fun j a h=>?_,fun j hj=>?_⟩,sub⟩
 .by_cases ej:j = i
  .subst ej
   rw [List.getElem?_set_self hil] at e
   cases e
   exact ⟨v,List.getElem?_set_self hsl,by rw [Zx]; exact o.wide fun a l _=>lw a l⟩
  .rw [List.getElem?_set_ne (Ne.symm ej)] at e
   obtain ⟨w,e1,o1⟩:=R.own j t' e
   exact ⟨w,by rw [List.getElem?_set_ne (Ne.symm ej)]; exact e1,by rw [Yh ej]; exact o1.wide fun a l _=>lw a l⟩
 .by_cases ej:j = i
  .subst ej; exact absurd (List.getElem?_set_self hil) (h r)
  .rw [Yh ej]
   exact R.emp j fun t' z=>h t' (by rw [List.getElem?_set_ne (Ne.symm ej)]; exact z)
 .by_cases ej:j = i
  .subst ej; rw [Zx]; exact nd
  .rw [Yh ej]; exact R.nd j
 .by_cases ej:j = i
  .subst ej
   rw [Zx] at h1
   by_cases ek:k = j
   .exact ek.symm
   .rw [Yh ek] at h2
    exact absurd (.inr h1) (R.dx k a h2)
  .rw [Yh ej] at h1
   by_cases ek:k = i
   .subst ek
    rw [Zx] at h2
    exact absurd (.inr h2) (R.dx j a h1)
   .rw [Yh ek] at h2
    exact R.dj j k a h1 h2
 .by_cases ej:j = i
  .subst ej
   rw [Zx] at h
   exact (hn a h).2 z
  .rw [Yh ej] at h
   exact R.dx j a h (.inl z)
 .by_cases ej:j = i
  .subst ej
   rw [Zx] at h
   exact .inr (hn a h).1
  .rw [Yh ej] at h
   exact R.new j a h
 .have ej:j ≠ i:=fun z=>hio (z ▸ hj)
  rw [List.getElem?_set_ne (Ne.symm ej)]
  exact R.io j hj
theorem RE.put {C:MC G}  {σ:St} {δ δ':Zc} {fp fp':Fp} {ex:Addr→Prop}   {r:OT} {new:List Addr} (R:RE C io p true H σ δ fp ex H' v r δ' fp' new) (R0:Rel C io H σ δ fp ex) (hio:i ∉ io) :
  ∃ fp2,Rel C io H' (σ.set i (some v)) (δ'.set i (some r)) fp2 ex/\Kp H fp H' fp2:=by
 obtain ⟨fp2,R2,g⟩:=R.rel.put hio (R.own.wide fun a l _=>l rfl) R.nd fun a m=>⟨(R0.newOk (R.fresh a m)).2.2,(R0.newOk (R.fresh a m)).2.1⟩
 refine ⟨fp2,R2,fun b o e q=>R.stp.keep b o e (.inr (q.resolve_left (by decide))),fun z=>(nomatch z),fun a z=>?_,R.stp.al⟩
 rcases g a z with z | z
 .exact R.stp.grow a z
 .exact .inr (R.fresh a z)
theorem RE.fzc {C:MC G}  {σ:St} {δ δ':Zc} {fp fp':Fp} {ex:Addr→Prop}  {r:OT} {new:List Addr} (R:RE C io p c H σ δ fp ex H' v r δ' fp' new) (R0:Rel C io H σ δ fp ex) :
  RE C io p c H σ δ fp ex H' v (.fz r.data) δ' fp' []:=.fz R.base R.stp (R.da R0)
theorem RE.fzs {C:MC G}  {σ:St} {δ δ':Zc} {fp fp':Fp} {ex:Addr→Prop}  {r:OT} {new:List Addr} (R:RE C io p c H σ δ fp ex H' v r δ' fp' new) (R0:Rel C io H σ δ fp ex) (h:J8 r.data = true) :
  RE C io p true H σ δ fp ex H' v (.fz r.data) δ' fp' []:=.fz R.base R.stp ((R.da R0).flat h)
def Zzl (i:Nat) (m:MEt):MSt:=fun D δ=>m δ fun r δ'=>D.nx (δ'.set i (some (.fz r.data)))
def Zxx (i:Nat) (m:MEt):MSt:=fun D δ=>m δ fun r δ'=>J8 r.data = true/\D.nx (δ'.set i (some (.fz r.data)))
def Zmj (i:Nat) (m:MEt):MSt:=fun D δ=>m δ fun r δ'=>D.nx (δ'.set i (some r))
theorem Z91 {t:TE} (s:SE G io p true t m) (hio:i ∉ io):SS G io (Z1k t (Zlx i)) (Zzl i m):=fun C H σ δ fp ex D D' R h E=>s C H σ δ fp ex _ _ R h fun H' v r δ' fp' new r1 h1=>by
 obtain ⟨fp2,R2,k2⟩:=(r1.fzc R).put R hio
 exact E.nx H' _ _ fp2 R2 k2 h1
theorem Z7p {t:TE} (s:SE G io p c t m) (hio:i ∉ io):SS G io (Z1k t (Zlx i)) (Zxx i m):=fun C H σ δ fp ex D D' R h E=>s C H σ δ fp ex _ _ R h fun H' v r δ' fp' new r1 h1=>by
 obtain ⟨fp2,R2,k2⟩:=(r1.fzs R h1.1).put R hio
 exact E.nx H' _ _ fp2 R2 k2 h1.2
theorem Z2l {t:TE} (s:SE G io p true t m) (hio:i ∉ io):SS G io (Z1k t (Zlx i)) (Zmj i m):=fun C H σ δ fp ex D D' R h E=>s C H σ δ fp ex _ _ R h fun H' v r δ' fp' new r1 h1=>by
 obtain ⟨fp2,R2,k2⟩:=r1.put R hio
 exact E.nx H' _ _ fp2 R2 k2 h1
theorem Z3s (hN:X.N.Nodup) (hi:X.N[i]? = some x) (hx:Loc X.env.scope x) (he:ME X io p true e m) (hio:i ∉ io:=by decide) (hs:swapsWith e (some (.Name x px)) pos.line X.env = pure false:=by rfl) (hf:X.fn x = true\/X.env.scope.names.lookup x = some .local:=by first | exact .inl rfl | exact .inr rfl | assumption) :
  MS X io (.Assign [.Name x px] e pos) (Zzl i m):=by
 obtain ⟨_,A,s⟩:=he
 exact ⟨_,Zn1 hN hi hx A hs hf,Z91 s hio⟩
theorem Zws (hN:X.N.Nodup) (hi:X.N[i]? = some x) (hx:Loc X.env.scope x) (he:ME X io p c e m) (hio:i ∉ io:=by decide) (hs:swapsWith e (some (.Name x px)) pos.line X.env = pure false:=by rfl) (hf:X.fn x = true\/X.env.scope.names.lookup x = some .local:=by first | exact .inl rfl | exact .inr rfl | assumption) :
  MS X io (.Assign [.Name x px] e pos) (Zxx i m):=by
 obtain ⟨_,A,s⟩:=he
 exact ⟨_,Zn1 hN hi hx A hs hf,Z7p s hio⟩
theorem Zqo (hN:X.N.Nodup) (hi:X.N[i]? = some x) (hx:Loc X.env.scope x) (he:ME X io p true e m) (hio:i ∉ io:=by decide) (hs:swapsWith e (some (.Name x px)) pos.line X.env = pure false:=by rfl) (hf:X.fn x = true\/X.env.scope.names.lookup x = some .local:=by first | exact .inl rfl | exact .inr rfl | assumption) :
  MS X io (.Assign [.Name x px] e pos) (Zmj i m):=by
 obtain ⟨_,A,s⟩:=he
 exact ⟨_,Zn1 hN hi hx A hs hf,Z2l s hio⟩
def Zum (t:MTt) (u:MSt):MSt:=fun D δ=>∃ W:Nat→Zc→Prop,(∃ n,W n δ)/\∀ n δ,W n δ→t δ fun b δ'=>if b = true then ∃ N:Zc→Prop,(∀ δ',N δ'→∃ n',n' < n/\W n' δ')/\u { D with nx:=N,ct:=N,bk:=D.nx } δ' else D.nx δ'
theorem Zlc {cnd:Expr} {ss:List Stmt} (hp:PassesOwn (model X.prog X.w) X.A X.env X.xe) (hc:MT X io p cnd mt) (ha:MSs X io ss u):MS X io (.While cnd ss [] pos) (Zum mt u):=by
 obtain ⟨_,T,s⟩:=hc
 obtain ⟨_,A,sa⟩:=ha
 refine ⟨_,Zti hp T A,fun C H σ δ fp ex D D' R h E=>?_⟩
 obtain ⟨W,⟨n0,w0⟩,turn⟩:=h
 refine ⟨fun n σ' H'=>∃ δ' fp',Rel C io H' σ' δ' fp' ex/\Kp H fp H' fp'/\W n δ',⟨n0,δ,fp,R,.refl _ _,w0⟩,?_⟩
 rintro n σ1 H1 ⟨δ1,fp1,R1,k1,w1⟩
 refine s C H1 σ1 δ1 fp1 ex _ _ R1 (turn n δ1 w1) fun H2 b δ2 fp2 R2 S2 h2=>?_
 have k2:=k1.trans S2.kp
 cases b with
 | true =>
  rw [if_pos rfl] at h2 |-
  obtain ⟨N,hN,h2⟩:=h2
  refine ⟨fun σ' H'=>∃ δ' fp',Rel C io H' σ' δ' fp' ex/\Kp H fp H' fp'/\N δ',fun σ' H' ⟨δ',fp',R',k',n'⟩=>?_,?_⟩
  .obtain ⟨n1,hn1,w1⟩:=hN δ' n'
   exact ⟨n1,hn1,δ',fp',R',k',w1⟩
  .refine sa C H2 σ1 δ2 fp2 ex _ _ R2 h2 ⟨fun H' σ' δ' fp' R' k' n'=>⟨δ',fp',R',k2.trans k',n'⟩,fun H' σ' δ' fp' R' k' n'=>E.nx H' σ' δ' fp' R' (k2.trans k') n',fun H' σ' δ' fp' R' k' n'=>⟨δ',fp',R',k2.trans k',n'⟩,E.rt⟩
 | false =>
  rw [if_neg Bool.false_ne_true] at h2 |-
  exact E.nx H2 σ1 δ2 fp2 R2 k2 h2
end
end L2
namespace L2
open PySem PySem.Spec PyProof.Rows
def Zqh (N:List Str) (ds:List PyData):Zc:=ds.map (fun d=>some (.fz d)) ++ List.replicate (N.length - ds.length) none
section
variable   {vs:List V}  
theorem Zqm  {t:OT} {n:Nat} (h:(ds.map (fun d=>some (.fz d)) ++ List.replicate n none:Zc)[i]? = some (some t)):∃ d,ds[i]? = some d/\t = .fz d:=by
 rw [List.getElem?_append] at h
 split at h
 .rw [List.getElem?_map] at h
  cases e:ds[i]? with
  | none=>rw [e] at h; cases h
  | some d=>rw [e] at h; cases h; exact ⟨d,rfl,rfl⟩
 .rw [List.getElem?_replicate] at h
  split at h
  .cases h
  .cases h
theorem Rel.entry (h:Das G H L vs ds):Rel (G:=G) ⟨H,fun _=>False,L,start N vs⟩ [] H (start N vs) (Zqh N ds) (fun _=>[]) (fun _=>False):=by
 refine ⟨?_,fun i t e=>?_,fun _ _=>rfl,fun _=>.nil,fun i j a m=>(nomatch m),fun i a m=>(nomatch m),fun a z=>z.elim,fun b o e _=>e,fun b e=>e,fun i a m=>(nomatch m),fun i m=>nomatch m⟩
 .unfold start Zqh
  simp [h.length]
 .obtain ⟨d,e',rfl⟩:=Zqm e
  obtain ⟨x,e1,q⟩:=h.get e'
  refine ⟨x,?_,.fz (q.wide fun a l _=>⟨fun ⟨j,z⟩=>(nomatch z),fun z=>z,.inl l⟩)⟩
  unfold L2.start
  rw [List.getElem?_append_left (by rw [List.length_map]; exact (List.getElem?_eq_some_iff.mp e1).1),List.getElem?_map,e1]
  rfl
variable     {base:Heap}
def Zyr (k:OT→Prop):Zf1:={ nx:=fun _=>k (.fz .none),rt:=fun r _=>k r }
theorem Fun.okD   {f:Addr} {fd:FuncData}  {n:Nat} {S:List PyData→(OT→Prop)→Prop} (F:Fun K x qual st f fd) (Sc:Zr N ps (Zh st)) (len:∀ ds k,S ds k→ds.length = ps.length)
  (hbody:∀ (cdv:Value) (A:Around) (outer:List Env) (s:Shared) (H:Hp) (E:XK),Room n (A.deeper (envOfC qual (Zh st) s.heap.objs.size f cdv)) →
   ∃ m,MSs (Zvp CX0 P w K mg base N qual (Zh st) f cdv A outer s H E).nox [] (Zad st) m/\∀ ds k,S ds k→m (Zyr k) (Zqh N ds)):FnOk P w K mg base CX0 (n + 1) f fd ps (spD K S):=by
 refine F.ok Sc (fun vs H Q E h=>?_) (fun cdv A outer s H vs Q E hr h=>?_)
 .obtain ⟨L,ds,k,h1,h2,_⟩:=h
  rw [h1.length]
  exact len ds k h2
 .obtain ⟨L,ds,k,h1,h2,h3⟩:=h
  obtain ⟨m,⟨t,A1,s1⟩,q⟩:=hbody cdv A outer s H E hr
  refine ⟨t,A1,s1 ⟨H,fun _=>False,L,start N vs⟩ H _ _ _ _ (Zyr k) _ (Rel.entry h1) (q ds k h2) ⟨fun H' σ' δ' fp' R _ hk=>?_,fun _ _ _ _ _ _ z=>z.elim,fun _ _ _ _ _ _ z=>z.elim,fun H' σ' v r δ' fp' new R o nd hn hk=>?_⟩⟩
  .exact h3 _ .non H' [] hk (fun b o e=>R.fr b o e id) (.fz .non) .nil fun a m=>nomatch m
  .refine h3 r v H' new hk (fun b o e=>R.fr b o e id) (o.wide fun a l _=>⟨?_,fun z=>l.2.1 (.inr z)⟩) nd hn
   exact l.2.2
end
abbrev MGt:=PyData→Zc→(Zc→Prop)→Prop
abbrev Zq2:=List PyData→Zc→(Zc→Prop)→Prop
def SG (G:PySem.W.Frag) (io:List Nat) (c:Bool) (t:TG) (g:MGt):Prop:=∀ (C:MC G) (H:Hp) (σ:St) (δ:Zc) (fp:Fp) (ex:Addr→Prop) (v:V) (d:PyData) (k:Zc→Prop) (Q:St→Hp→Prop),Rel C io H σ δ fp ex→Da G H (fun a=>c = true→Lf C fp ex a) v d→g d δ k →
 (∀ σ' δ' fp',Rel C io H σ' δ' fp' ex→Kp H fp H fp'→k δ'→Q σ' H)→t v σ H Q
def SGs (G:PySem.W.Frag) (io:List Nat) (c:Bool) (t:TGs) (g:Zq2):Prop:=∀ (C:MC G) (H:Hp) (σ:St) (δ:Zc) (fp:Fp) (ex:Addr→Prop) (v:List V) (d:List PyData) (k:Zc→Prop) (Q:St→Hp→Prop),Rel C io H σ δ fp ex→Das G H (fun a=>c = true→Lf C fp ex a) v d→g d δ k →
 (∀ σ' δ' fp',Rel C io H σ' δ' fp' ex→Kp H fp H fp'→k δ'→Q σ' H)→t v σ H Q
def MG (X:Cx) (io:List Nat) (c:Bool) (tg:Expr) (g:MGt):Prop:=∃ t,PG X tg t/\SG X.K io c t g
def MGs (X:Cx) (io:List Nat) (c:Bool) (tg:List Expr) (g:Zq2):Prop:=∃ t,PGs X tg t/\SGs X.K io c t g
section
variable  {io:List Nat} {c:Bool}   
def dName (i:Nat):MGt:=fun d δ k=>k (δ.set i (some (.fz d)))
theorem Rel.putD {C:MC G}  {σ:St} {δ:Zc} {fp:Fp} {ex:Addr→Prop}  {d:PyData} (R:Rel C io H σ δ fp ex) (hio:i ∉ io) (q:Da G H (Lf C fp ex) v d) :
  ∃ fp',Rel C io H (σ.set i (some v)) (δ.set i (some (.fz d))) fp' ex/\Kp H fp H fp':=by
 obtain ⟨fp',R',g⟩:=(R.drop fun a z=>Zaf.mp z).put (new:=[]) hio (.fz (q.wide fun a l _=>⟨l.1,fun z=>l.2.1 (Zaf.mp z),l.2.2⟩)) .nil (fun a m=>nomatch m)
 exact ⟨fp',R',fun b o e _=>e,fun z=>(nomatch z),fun a z=>(g a z).imp id fun z=>(nomatch z),fun b e=>e⟩
theorem Zki (hN:X.N.Nodup) (hi:X.N[i]? = some x:=by rfl) (hx:Loc X.env.scope x:=by first | exact Or.inl rfl | exact Or.inr rfl) (hio:i ∉ io:=by decide) (hf:X.fn x = true\/X.env.scope.names.lookup x = some .local:=by first | exact .inl rfl | exact .inr rfl | assumption):MG X io true (.Name x pos) (dName i) :=
 ⟨_,Zjz hN hi hx hf,fun C H σ δ fp ex v d k Q R q h kk=>by
  obtain ⟨fp',R',k'⟩:=R.putD hio (q.wide fun a l _=>l rfl)
  exact kk _ _ fp' R' k' h⟩
def Z88:Zq2:=fun ds δ k=>ds = []/\k δ
def Z35 (g:MGt) (gs:Zq2):Zq2:=fun ds δ k=>match ds with | d :: r=>g d δ fun δ'=>gs r δ' k | []=>False
theorem Zm7:MGs X io c [] Z88:=⟨_,Zqf,fun C H σ δ fp ex v d k Q R q h kk=>by
 obtain ⟨rfl,h⟩:=h
 cases q
 exact ⟨rfl,kk σ δ fp R (.refl _ _) h⟩⟩
theorem Rel.kp_das {C:MC G}  {σ:St} {δ:Zc} {fp fp':Fp} {ex:Addr→Prop} {vs:List V}  (R:Rel C io H σ δ fp ex) (S:Kp H fp H' fp') (h:Das G H (Lf C fp ex) vs ds):Das G H' (Lf C fp' ex) vs ds:=by
 have S':Stp false H δ fp H' δ fp':=⟨S.keep,fun z=>(nomatch z),S.grow,S.al⟩
 obtain ⟨f1,f2⟩:=R.frameL (c:=true) (ex':=ex) S' (.inr rfl) fun a z=>.inl z
 exact h.frame (fun a xs l q=>⟨(f1 a xs (fun _=>l) q).1 rfl,(f1 a xs (fun _=>l) q).2⟩) f2
theorem Zef   {g:MGt} {gs:Zq2} (h1:MG X io true e g) (h2:MGs X io true es gs)
  (hs:(assignEach (e :: es) X.env).map (·.2) = assign e X.env :: (assignEach es X.env).map (·.2):=by rfl):MGs X io true (e :: es) (Z35 g gs):=by
 obtain ⟨_,A,s⟩:=h1
 obtain ⟨_,B,s'⟩:=h2
 exact ⟨_,Zgz A B hs,fun C H σ δ fp ex v d k Q R q h kk=>by
  cases q with
  | nil=>exact h.elim
  | cons q qs =>
   refine ⟨_,_,rfl,s C H σ δ fp ex _ _ _ _ R q h fun σ1 δ1 fp1 R1 k1 h1=>?_⟩
   exact s' C H σ1 δ1 fp1 ex _ _ _ _ R1 ((R.kp_das k1 (qs.wide fun a l _=>l rfl)).wide fun a l _ _=>l) h1 fun σ2 δ2 fp2 R2 k2 h2=>kk σ2 δ2 fp2 R2 (k1.trans k2) h2⟩
def dTup (n:Nat) (gs:Zq2):MGt:=fun d δ k=>match d with | .tuple ds=>ds.length = n/\gs ds δ k | _=>False
theorem Zvb  {k:Nat} {gs:Zq2} {n:Nat} (hc:X.calm = true) (h:MGs X io c es gs)
  (hn:(assignEach es X.env).length = n:=by rfl) (hst:(assignEach es X.env).findIdx? (·.1) = none:=by rfl):MG X io c (.Tuple es k pos) (dTup n gs):=by
 obtain ⟨_,A,s⟩:=h
 exact ⟨_,Zu1 hc A hn hst,fun C H σ δ fp ex v d k Q R q h kk=>by
  cases q with
  | tup e qs=>exact ⟨_,_,rfl,.inl (.inl e),by rw [qs.length]; exact h.1,s C H σ δ fp ex _ _ _ _ R qs h.2 kk⟩
  | _=>exact h.elim⟩
end
end L2
namespace L2
open PySem PySem.Spec PyProof.Rows
def IterOk (C:MC G) (fp:Fp) (ex:Addr→Prop) (H1:Hp) (c:Bool) (J:It) (ds:List PyData):Prop:=∀ H':Hp,(∀ b o,H1 b = some o→(c = false\/¬ Foot fp b)→H' b = some o)→∀ i:Nat,
 (∀ d,ds[i]? = some d→J.go i H'/\∀ x H'',J.yld i H' x H''→Same H' H''/\Da G H'' (fun a=>c = true→(Lf C fp ex a/\H1 a ≠ none)) x d)/\(ds[i]? = none→J.stop i H')
abbrev MIt:=Zc→(List PyData→Zc→Prop)→Prop
def SI (G:PySem.W.Frag) (io:List Nat) (p c:Bool) (t:TI) (m:MIt):Prop:=∀ (C:MC G) (H:Hp) (σ:St) (δ:Zc) (fp:Fp) (ex:Addr→Prop) (K:List PyData→Zc→Prop) (Q:It→Hp→Prop),Rel C io H σ δ fp ex→m δ K →
 (∀ J H1 ds δ1 fp1,Rel C io H1 σ δ1 fp1 ex→Stp p H δ fp H1 δ1 fp1→IterOk C fp1 ex H1 c J ds→K ds δ1→Q J H1)→t σ H Q
def MI (X:Cx) (io:List Nat) (p c:Bool) (tg iter:Expr) (m:MIt):Prop:=∃ t,PI X tg iter t/\SI X.K io p c t m
end L2
variable {ex ex':Addr→Prop}{c p p' c' p'':Bool}{cnd:Expr}{fp fp' fp1:Fp}{H'':Hp}{io:List Nat}{rs:List OT}{sts ss ss':List Stmt}{mr:MAt}{m ma mb:MEt}{mi:MIt}{pp:Pos}{δ δ' δ1:Zc}{gs:Zq2}
namespace L2
open PySem PySem.Spec PyProof.Rows
section
variable    {a:Expr}   
def iL (m:MEt):MIt:=fun δ K=>m δ fun r δ'=>match r.data with | .list ds=>K ds δ' | _=>False
theorem Rel.kept {C:MC G}  {σ:St}    (R:Rel C io H σ δ fp ex) (kp:∀ b o,H b = some o→(c = false\/¬ Foot fp b)→H' b = some o) :
  (∀ a (xs:MuO),(c = true→Lf C fp ex a)→Rd H a xs.ho→(c = true→(Lf C fp ex a/\H a ≠ none))/\Rd H' a xs.ho)/\(∀ a (xs:ImO),H a = some xs.ho→H' a = some xs.ho):=by
 refine ⟨fun a xs l q=>⟨fun hc=>⟨l hc,q.some⟩,?_⟩,fun a xs q=>kp a _ q (.inr fun z=>?_)⟩
 .have hk:c = false\/¬ Foot fp a:=by
   cases c with
   | false=>exact .inl rfl
   | true=>exact .inr (l rfl).1
  rcases q with q | ⟨o,q⟩
  .exact .inl (kp a _ q hk)
  .exact .inr ⟨o,kp a _ q hk⟩
 .obtain ⟨ys,e⟩:=R.foot z
  exact ImO.nm q e
theorem Zy8 (h:ME X io p c e m):MI X io p c tg e (iL m):=by
 obtain ⟨_,A,s⟩:=h
 exact ⟨_,Zrt rfl A,fun C H σ δ fp ex K' Q R h kk=>s C H σ δ fp ex _ _ R h fun H1 v r δ1 fp1 new r1 h1=>by
  have q:=r1.da R
  generalize r.data = d at q h1
  cases q with
  | lst l e qs =>
   refine ⟨_,rfl,⟨_,.inl e⟩,kk _ H1 _ δ1 fp1 r1.base r1.stp (fun H' kp i=>?_) h1⟩
   obtain ⟨f1,f2⟩:=r1.base.kept kp
   have e':=(f1 _ (.lst _) l e).2
   have qs':=qs.frame f1 f2
   refine ⟨fun d hd=>?_,fun hd=>?_⟩
   .obtain ⟨x,hx,qx⟩:=qs'.get hd
    refine ⟨⟨_,x,.inl e',hx⟩,fun y H'' hy=>?_⟩
    obtain ⟨rfl,hy⟩:=hy
    have:=hy _ (.inl e')
    rw [hx] at this
    cases this
    exact ⟨Same.refl _,qx⟩
   .exact ⟨_,.inl e',by rw [qs'.length]; exact List.getElem?_eq_none_iff.mp hd⟩
  | scr ks =>
   refine ⟨_,rfl,⟨_,ks.sq⟩,kk _ H1 _ δ1 fp1 r1.base r1.stp (fun H' kp i=>?_) h1⟩
   refine ⟨fun d hd=>?_,fun hd=>?_⟩
   .obtain ⟨x,hx,qx⟩:=(Das.ints (G:=X.K) (H:=H') (L:=fun a=>c = true→(Lf C fp1 ex a/\H1 a ≠ none)) _).get hd
    refine ⟨⟨_,x,ks.sq,hx⟩,fun y H'' hy=>?_⟩
    obtain ⟨rfl,hy⟩:=hy
    have:=hy _ ks.sq
    rw [hx] at this
    cases this
    exact ⟨Same.refl _,qx⟩
   .refine ⟨_,ks.sq,?_⟩
    have:=List.getElem?_eq_none_iff.mp hd
    simpa using this
  | _=>exact h1.elim⟩
def Zmc (lo:Int) (n:Nat):List PyData:=(List.range n).map fun (i:Nat)=>PyData.int (lo + (i:Int))
@[simp] theorem Zx5 (lo:Int) (n:Nat):(Zmc lo n).length = n:=by simp [Zmc]
theorem Ztr {lo:Int} {n:Nat} {d:PyData} (h:(Zmc lo n)[i]? = some d):i < n/\d = .int (lo + i):=by
 have hi:i < n:=by
  have:=(List.getElem?_eq_some_iff.mp h).1
  simpa using this
 unfold Zmc at h
 rw [List.getElem?_map,List.getElem?_range hi] at h
 cases h
 exact ⟨hi,rfl⟩
theorem Zrv {C:MC G}    {lo:Int} {n:Nat}:IterOk C fp ex H1 true (Itr lo n) (Zmc lo n):=fun H' _ i=>by
 refine ⟨fun d hd=>?_,fun hd=>?_⟩
 .obtain ⟨hi,rfl⟩:=Ztr hd
  refine ⟨hi,fun x H'' hy=>?_⟩
  obtain ⟨rfl,rfl⟩:=hy
  exact ⟨Same.refl _,.int _⟩
 .have:=List.getElem?_eq_none_iff.mp hd
  show n <= i
  simpa using this
def iR1 (mr:MAt):MIt:=fun δ K=>mr δ fun rs δ'=>match OT.datas rs with | [.int j]=>(-(2 ^ 62) <= j/\j < 2 ^ 62)/\K (Zmc 0 j.toNat) δ' | _=>False
theorem Zm3 {p':Pos} (hg:Gl X "range") (hm:X.mg "range" = none) (ha:MA X io p c [a] mr) (hs:starEach [a] X.env = [(false,eval a X.env)]:=by rfl):MI X io p true tg (.Call (.Name "range" p') [a] [] pos) (iR1 mr):=by
 obtain ⟨_,A,s⟩:=ha
 exact ⟨_,Zqc hg hm A hs,fun C H σ δ fp ex K' Q R h kk=>s C H σ δ fp ex _ _ R h fun H1 vs rs δ1 fp1 new r1 h1=>by
  have q:=r1.das R
  generalize OT.datas rs = d at q h1
  split at h1
  case h_2=>exact h1.elim
  cases q with
  | cons q1 q2 =>
   cases q1
   cases q2
   exact ⟨_,rfl,h1.1.1,h1.1.2,kk _ H1 _ δ1 fp1 r1.base r1.stp Zrv h1.2⟩⟩
theorem IterOk.at {C:MC G}   {H':Hp} {J:It} {ds:List PyData} {x:V} {d:PyData} (g:∀ a,Foot fp' a→Foot fp a\/H1 a = none) (h:Da G H'' (fun a=>true = true→(Lf C fp ex a/\H1 a ≠ none)) x d):Da G H'' (fun a=>true = true→Lf C fp' ex a) x d :=
 h.wide fun a l _ z=>⟨fun w=>(g a w).elim (l z).1.1 (l z).2,(l z).1.2.1,(l z).1.2.2⟩
def Z8g (ds:List PyData) (g:MGt) (u:MSt) (D:Zf1) (δ1:Zc):Prop:=∃ I:Nat→Zc→Prop,I 0 δ1/\(∀ (i:Nat) (d:PyData) (δ':Zc),ds[i]? = some d→I i δ'→g d δ' fun δ2=>u { D with nx:=I (i + 1),ct:=I (i + 1),bk:=D.nx } δ2)/\∀ δ',I ds.length δ'→D.nx δ'
def Z9r (mi:MIt) (g:MGt) (u:MSt):MSt:=fun D δ=>mi δ fun ds δ1=>Z8g ds g u D δ1
theorem Rel.mk0 {C:MC G}  {σ:St}    (R:Rel C io H σ δ fp ex) (s:Same H H'):Rel C io H' σ δ fp ex:=(R.made (new:=[]) s fun a m=>nomatch m).drop fun a z=>.inl z
theorem Zuy    {g:MGt} {u:MSt}  (hp:PassesOwn (model X.prog X.w) X.A X.env X.xe) (hc:X.calm = true) (hi:MI X io p true tg iter mi) (hg:MG X io true tg g) (hb:MSs X io body u)
  (hs:∀ x,foldedSetIterable iter X.env x = pure x:=by intro _; rfl):MS X io (.For tg iter body [] pos) (Z9r mi g u):=by
 obtain ⟨_,A,s⟩:=hi
 obtain ⟨_,G,sg⟩:=hg
 obtain ⟨_,B,sb⟩:=hb
 refine ⟨_,Zvq hp hc A G B hs,fun C H σ δ fp ex D D' R h E=>s C H σ δ fp ex _ _ R h fun J H1 ds δ1 fp1 R1 S1 it h1=>?_⟩
 obtain ⟨I,h0,turn,fin⟩:=h1
 refine ⟨fun i n σ' H'=>n = ds.length - i/\i <= ds.length/\∃ δ' fp',Rel C io H' σ' δ' fp' ex/\Kp H1 fp1 H' fp'/\I i δ',⟨ds.length,rfl,Nat.zero_le _,δ1,fp1,R1,.refl _ _,h0⟩,?_⟩
 rintro i n σ2 H2 ⟨rfl,hle,δ2,fp2,R2,k2,i2⟩
 have itk:=it H2 (fun b o e q=>k2.keep b o e (.inr (q.resolve_left (by decide)))) i
 by_cases hlt:i < ds.length
 .have hd:ds[i]? = some ds[i]:=List.getElem?_eq_getElem hlt
  obtain ⟨go,yl⟩:=itk.1 _ hd
  refine .inr ⟨go,fun σ' H'=>∃ δ' fp',Rel C io H' σ' δ' fp' ex/\Kp H1 fp1 H' fp'/\I (i + 1) δ',fun σ' H' ⟨δ',fp',R',k',i'⟩=>⟨ds.length - (i + 1),by omega,rfl,hlt,δ',fp',R',k',i'⟩,fun x H3 hy=>?_⟩
  obtain ⟨s3,q3⟩:=yl x H3 hy
  have R3:=R2.mk0 s3
  have k3:Kp H1 fp1 H3 fp2:=k2.trans ⟨fun b o e _=>s3 _ _ e,fun z=>(nomatch z),fun a z=>.inl z,s3.al⟩
  refine sg C H3 σ2 δ2 fp2 ex x _ _ _ R3 (IterOk.at (H':=H2) (J:=J) (ds:=ds) k2.grow q3) (turn i _ δ2 hd i2) fun σ4 δ4 fp4 R4 k4 h4=>?_
  have k5:=k3.trans k4
  refine sb C H3 σ4 δ4 fp4 ex _ _ R4 h4 ⟨fun H' σ' δ' fp' R' k' n'=>⟨δ',fp',R',k5.trans k',n'⟩,fun H' σ' δ' fp' R' k' n'=>E.nx H' σ' δ' fp' R' (S1.kp.trans (k5.trans k')) n',fun H' σ' δ' fp' R' k' n'=>⟨δ',fp',R',k5.trans k',n'⟩,E.rt⟩
 .have e:i = ds.length:=by omega
  subst e
  exact .inl ⟨itk.2 (by simp),E.nx H2 σ2 δ2 fp2 R2 (S1.kp.trans k2) (fin δ2 i2)⟩
end
def gM (G:PySem.W.Frag) (io:List Nat) (c:Bool) (g:MGt):TG:=fun v σ H Q=>∃ (C:MC G) (δ:Zc) (fp:Fp) (ex:Addr→Prop) (d:PyData) (k:Zc→Prop),Rel C io H σ δ fp ex/\Da G H (fun a=>c = true→Lf C fp ex a) v d/\g d δ k /\
 ∀ σ' δ' fp',Rel C io H σ' δ' fp' ex→Kp H fp H fp'→k δ'→Q σ' H
def tM (G:PySem.W.Frag) (io:List Nat) (p c:Bool) (m:MEt):TE:=fun σ H Q=>∃ (C:MC G) (δ:Zc) (fp:Fp) (ex:Addr→Prop) (K:OT→Zc→Prop),Rel C io H σ δ fp ex/\m δ K/\∀ H' v r δ' fp' new,RE C io p c H σ δ fp ex H' v r δ' fp' new→K r δ'→Q v H'
def ttM (G:PySem.W.Frag) (io:List Nat) (p:Bool) (m:MTt):TT:=fun σ H Q=>∃ (C:MC G) (δ:Zc) (fp:Fp) (ex:Addr→Prop) (K:Bool→Zc→Prop),Rel C io H σ δ fp ex/\m δ K/\∀ H' b δ' fp',Rel C io H' σ δ' fp' ex→Stp p H δ fp H' δ' fp'→K b δ'→Q b H'
def MIfs (X:Cx) (io:List Nat) (p:Bool) (ifs:List Expr) (m:MTt):Prop:=∃ t,Zy2 X ifs t/\STt X.K io p t m
section
variable      {mt:MTt} {g:MGt} 
theorem MG.canon (h:MG X io c tg g):PG X tg (gM X.K io c g):=by
 obtain ⟨t,A,s⟩:=h
 rintro pins sh σ H v u Q I r ⟨C,δ,fp,ex,d,k,R,q,h,kk⟩
 exact A pins sh σ H v u Q I r (s C H σ δ fp ex v d k Q R q h kk)
theorem ME.canon (h:ME X io p c e m):PE X e (tM X.K io p c m):=by
 obtain ⟨t,A,s⟩:=h
 rintro pins sh σ H Q I ⟨C,δ,fp,ex,K,R,h,kk⟩
 exact A pins sh σ H Q I (s C H σ δ fp ex K Q R h kk)
theorem MIfs.canon (h:MIfs X io p ifs mt):Zy2 X ifs (ttM X.K io p mt):=by
 obtain ⟨t,A,s⟩:=h
 rintro pins sh σ H Q I ⟨C,δ,fp,ex,K,R,h,kk⟩
 exact A pins sh σ H Q I (s C H σ δ fp ex K Q R h kk)
def Z4a:MTt:=fun δ K=>K true δ
theorem Jw:MIfs X io true [] Z4a:=⟨_,Zy9,fun C H σ δ fp ex K Q R h kk=>kk H true δ fp R (.refl _ _ _ _) h⟩
theorem Zv2  (h:MT X io p cnd mt):MIfs X io p [cnd] mt:=by
 obtain ⟨_,A,s⟩:=h
 exact ⟨_,Zxr A,s⟩
end
end L2
namespace L2
open PySem PySem.Spec PyProof.Rows
def blk (n:Nat) (caps:List Nat) (δ:Zc):Zc:=List.replicate n none ++ caps.map fun i=>(δ[i]?).getD none
def Wm (n:Nat) (caps:List Nat) (fp:Fp):Fp:=fun k=>if k < n then [] else match caps[k - n]? with | some i=>fp i | none=>[]
def J3 (n:Nat) (caps:List Nat):List Nat:=(List.range caps.length).map (· + n)
def Zub (C:MC G) (H1:Hp) (fp:Fp) (σ0:St):MC G:=⟨H1,Foot fp,fun a=>(C.L a\/C.H₀ a = none)/\¬ Foot fp a,σ0⟩
def Zdz (ex:Addr→Prop) (D:Addr) (fp fpb:Fp) (a:Addr):Prop:=ex a\/a = D\/(Foot fp a/\¬ Foot fpb a)
section
variable {C:MC G}   {σ:St}      {D:Addr} {n:Nat}
theorem Zbj {k:Nat}  (h:a ∈ Wm n caps fp k):∃ i,n <= k/\caps[k - n]? = some i/\a ∈ fp i:=by
 unfold Wm at h
 split at h
 .exact nomatch h
 .split at h
  .rename_i i e
   exact ⟨i,by omega,e,h⟩
  .exact nomatch h
theorem Zrk  (h:caps[j]? = some i):Wm n caps fp (n + j) = fp i:=by
 unfold Wm
 rw [if_neg (by omega),show n + j - n = j by omega,h]
theorem Z0w {k:Nat} {t:OT} (h:(blk n caps δ)[k]? = some (some t)):∃ i,n <= k/\caps[k - n]? = some i/\δ[i]? = some (some t):=by
 unfold blk at h
 rw [List.getElem?_append] at h
 split at h
 .rw [List.getElem?_replicate] at h
  split at h <;> cases h
 .rename_i hk
  rw [List.length_replicate] at hk h
  rw [List.getElem?_map] at h
  cases e:caps[k - n]? with
  | none=>rw [e] at h; cases h
  | some i =>
   rw [e] at h
   refine ⟨i,by omega,rfl,?_⟩
   simp only [Option.map_some] at h
   cases e2:δ[i]? with
   | none=>rw [e2] at h; cases h
   | some o =>
    rw [e2] at h
    simpa using h
theorem Rel.block (R:Rel C io H1 σ δ fp ex) (nd:caps.Nodup) (hD:H1 D = none) :
  Rel (Zub C H1 fp (W4 own caps σ)) (J3 own.length caps) (upd H1 D (.lst [])) (W4 own caps σ) (blk own.length caps δ) (Wm own.length caps fp) (Zdz ex D fp (Wm own.length caps fp)):=by
 have s:=Z6 hD (.lst [])
 have sub:∀ a,Foot (Wm own.length caps fp) a→Foot fp a:=fun a q91=>by
  obtain ⟨k,z⟩:=q91
  obtain ⟨i,_,_,z⟩:=Zbj z
  exact ⟨i,z⟩
 have neD:∀ a,H1 a ≠ none→a ≠ D:=fun a h z=>h (z ▸ hD)
 refine ⟨by unfold W4 blk; simp,fun k t e=>?_,fun k h=>?_,fun k=>?_,fun k l a h1 h2=>?_,fun k a h z=>?_,fun a z=>?_,fun b o e _=>s _ _ e,fun b e=>s.free e,fun k a h=>?_,fun k _=>rfl⟩
 .obtain ⟨i,hk,e1,e2⟩:=Z0w e
  obtain ⟨v,e3,o⟩:=R.own i t e2
  refine ⟨v,?_,?_⟩
  .unfold W4
   rw [List.getElem?_append_right (by simpa using hk),List.length_map,List.getElem?_map,e1]
   simp [e3]
  .have ef:Wm own.length caps fp k = fp i:=by
    have:=Zrk (n:=own.length) (fp:=fp) e1
    rwa [show own.length + (k - own.length) = k by omega] at this
   rw [ef]
   refine (o.wide fun a l q=>⟨fun z=>l.1 (sub a z),fun z=>?_,.inl ⟨l.2.2,l.1⟩⟩).same s
   rcases z with z | z | z
   .exact l.2.1 z
   .exact neD a q z
   .exact l.1 z.1
 .unfold Wm
  split
  .rfl
  .split
   .rename_i i e1
    refine R.emp i fun t z=>h t ?_
    unfold blk
    rw [List.getElem?_append_right (by rw [List.length_replicate]; omega),List.length_replicate,List.getElem?_map,e1]
    simp [z]
   .rfl
 .unfold Wm
  split
  .exact .nil
  .split
   .exact R.nd _
   .exact .nil
 .obtain ⟨i,hk,e1,m1⟩:=Zbj h1
  obtain ⟨j,hl,e2,m2⟩:=Zbj h2
  have:=R.dj i j a m1 m2
  subst this
  have hlt:=(List.getElem?_eq_some_iff.mp e1).1
  have:=(List.getElem?_inj hlt nd).mp (e1.trans e2.symm)
  omega
 .obtain ⟨i,hk,e1,m⟩:=Zbj h
  rcases z with z | z | z
  .exact R.dx i a m z
  .exact R.footSome (z ▸ hD) ⟨i,m⟩
  .exact z.2 ⟨k,h⟩
 .rcases z with z | z | z
  .intro q; exact R.xa a z (s.free q)
  .subst z; rw [Zu]; intro q; cases q
  .obtain ⟨xs,e⟩:=R.foot z.1
   rw [s _ _ e]; intro q; cases q
 .obtain ⟨i,hk,e1,m⟩:=Zbj h
  refine .inl ⟨?_,⟨i,m⟩⟩
  have:=(List.getElem?_eq_some_iff.mp e1).1
  exact List.mem_map.mpr ⟨k - own.length,by simpa using this,by omega⟩
theorem Z2s {σ0:St}    (hx:∀ a,ex a→ex' a) (l:Lf (Zub C H1 fp σ0) fp' ex' a):Lf C fp ex a\/H1 a = none:=by
 obtain ⟨l1,l2,l3⟩:=l
 rcases l3 with l3 | l3
 .exact .inl ⟨l3.2,fun z=>l2 (hx a z),l3.1⟩
 .exact .inr l3
theorem Rel.poke (R:Rel C io H' σ δ fp ex)  (hx:ex D) (hD:H' D = some (.lst xs)) (h0:C.H₀ D = none):Rel C io (upd H' D (.lst ys)) σ δ fp ex:=by
 have nf:¬ Foot fp D:=fun ⟨i,z⟩=>R.dx i D z hx
 have kp:∀ b o,b ≠ D→H' b = some o→upd H' D (.lst ys) b = some o:=fun b o n e=>by rw [Zk n]; exact e
 refine ⟨R.len,fun i t e=>?_,R.emp,R.nd,R.dj,R.dx,fun a z=>?_,fun b o e n=>?_,fun b e=>?_,R.new,R.io⟩
 .obtain ⟨v,e1,o⟩:=R.own i t e
  refine ⟨v,e1,o.frame (fun a zs l q=>⟨l,?_⟩) (fun a zs q=>kp a _ (fun z=>?_) q) fun a m zs q=>kp a _ (fun z=>nf ⟨i,z ▸ m⟩) q⟩
  .have na:a ≠ D:=fun z=>l.2.1 (z ▸ hx)
   rcases q with q | ⟨u,q⟩
   .exact .inl (kp a _ na q)
   .exact .inr ⟨u,kp a _ na q⟩
  .exact ImO.nl q (z ▸ hD)
 .by_cases e:a = D
  .subst e; rw [Zu]; intro q; cases q
  .rw [Zk e]; exact R.xa a z
 .refine kp b o (fun z=>?_) (R.fr b o e n)
  rw [z,h0] at e; cases e
 .refine R.al b ?_
  by_cases q:b = D
  .subst q; rw [Zu] at e; cases e
  .rwa [Zk q] at e
theorem Owns.poke     (o:Owns G H' L zs rs as) (hD:H' D = Option.some (HO.lst xs)) (hL:¬ L D) (hn:D ∉ as):Owns G (upd H' D (.lst ys)) L zs rs as:=by
 refine o.frame (fun a zs l q=>⟨l,?_⟩) (fun a zs q=>?_) fun a m zs q=>?_
 .have na:a ≠ D:=fun z=>hL (z ▸ l)
  rcases q with q | ⟨u,q⟩
  .exact .inl (by rw [Zk na]; exact q)
  .exact .inr ⟨u,by rw [Zk na]; exact q⟩
 .rw [Zk (fun z=>ImO.nl q (z ▸ hD))]; exact q
 .have na:a ≠ D:=fun z=>hn (by rw [<- z]; exact m)
  rw [Zk na]; exact q
theorem Owns.snoc    {bs:List Addr} {x:V} {r:OT} (h:Owns G H' L xs rs as) (k:Own G H' L x r bs):Owns G H' L (xs ++ [x]) (rs ++ [r]) (as ++ bs) :=
 Owns.rec (motive_1:=fun _ _ _ _=>True) (motive_2:=fun xs rs as _=>Owns G H' L (xs ++ [x]) (rs ++ [r]) (as ++ bs)) (fun _=>trivial) (fun _ _ _=>trivial) (fun _ _ _=>trivial) (fun _ _ _=>trivial) (by have:=Owns.cons k .nil; rwa [List.append_nil] at this) (fun k _ _ ih=>by rw [List.append_assoc]; exact .cons k ih) h
end
structure Zvc (C:MC G) (H1:Hp) (fp1:Fp) (ex:Addr→Prop) (n:Nat) (caps:List Nat) (σ0:St) (D:Addr) (pb:Bool) (H':Hp) (σ':St) (δ':Zc) (fp':Fp) (ys:List V) (rs:List OT) (new:List Addr):Prop where
 keep:∀ b o,H1 b = some o→(pb = true\/¬ Foot (Wm n caps fp1) b)→H' b = some o
 al:∀ b,H' b = none→H1 b = none
 dat:H' D = some (.lst ys)
 rel:Rel (Zub C H1 fp1 σ0) (J3 n caps) H' σ' δ' fp' (exu (Zdz ex D fp1 (Wm n caps fp1)) new)
 grow:∀ a,Foot fp' a→Foot (Wm n caps fp1) a\/H1 a = none
 own:Owns G H' (fun a=>true = true→Lf (Zub C H1 fp1 σ0) fp' (exu (Zdz ex D fp1 (Wm n caps fp1)) new) a) ys rs new
 nd:new.Nodup
 fresh:∀ a ∈ new,H1 a = none/\a ≠ D
section
variable  {pt pe ci:Bool} {g:MGt} {mt:MTt} {me:MEt}  
theorem Zqe {C:MC G}  {σ:St}      {D:Addr} {Qf:Hp→Prop} (I:Nat→List OT→Zc→Prop) (R1:Rel C io H1 σ δ1 fp1 ex)
  (it:∀ H':Hp,(∀ b o,H1 b = some o→((pt && pe) = true\/¬ Foot (Wm own.length caps fp1) b)→H' b = some o)→∀ i:Nat,(∀ d,ds[i]? = some d→J.go i H'/\∀ x H'',J.yld i H' x H''→Same H' H''/\Da G H'' (fun a=>ci = true→(Lf C fp1 ex a/\H1 a ≠ none)) x d)/\(ds[i]? = none→J.stop i H'))
  (nd:caps.Nodup) (hD:H1 D = none) (hz:ds.length <= sizeLine) (h0:I 0 [] (blk own.length caps δ1))
  (turn:∀ (i:Nat) (d:PyData) (rs:List OT) (δ':Zc),ds[i]? = some d→I i rs δ'→g d δ' fun δ2=>mt δ2 fun b δ3=>if b = true then me δ3 fun r δ4=>I (i + 1) (rs ++ [r]) δ4 else I (i + 1) rs δ3)
  (fin:∀ H' σ' δ' fp' ys rs new,Zvc C H1 fp1 ex own.length caps (W4 own caps σ) D (pt && pe) H' σ' δ' fp' ys rs new→I ds.length rs δ'→Qf H') :
  Zw9 J (gM G (J3 own.length caps) ci g) (ttM G (J3 own.length caps) pt mt) (tM G (J3 own.length caps) pe true me) (W4 own caps σ) D Qf H1:=by
 have hx:Zdz ex D fp1 (Wm own.length caps fp1) D:=.inr (.inl rfl)
 refine ⟨fun i n σ' H'=>n = ds.length - i/\i <= ds.length/\∃ rs ys new δ' fp',Zvc C H1 fp1 ex own.length caps (W4 own caps σ) D (pt && pe) H' σ' δ' fp' ys rs new/\ys.length <= i/\I i rs δ',⟨ds.length,rfl,Nat.zero_le _,[],[],[],_,_,⟨fun b o e _=>Z6 hD _ _ _ e,(Z6 hD _).al,Zu,?_,fun a z=>.inl z,.nil,.nil,fun a m=>(nomatch m)⟩,Nat.le_refl _,h0⟩,?_⟩
 .exact (R1.block nd hD).drop fun a z=>Zaf.mp z
 rintro i n σ2 H2 ⟨rfl,hle,rs,ys,new,δ2,fp2,B,hl,i2⟩
 have subB:∀ b,Foot (Wm own.length caps fp1) b→Foot fp1 b:=fun b q92=>by
  obtain ⟨k,z⟩:=q92
  obtain ⟨i,_,_,z⟩:=Zbj z
  exact ⟨i,z⟩
 have itk:=it H2 B.keep i
 by_cases hlt:i < ds.length
 case neg =>
  have e:i = ds.length:=by omega
  subst e
  exact .inl ⟨itk.2 (by simp),fin H2 σ2 δ2 fp2 ys rs new B i2⟩
 have hd:ds[i]? = some ds[i]:=List.getElem?_eq_getElem hlt
 obtain ⟨go,yl⟩:=itk.1 _ hd
 refine .inr ⟨go,fun x H3 hy=>?_⟩
 obtain ⟨s3,q3⟩:=yl x H3 hy
 have R3:=B.rel.mk0 s3
 have D3:H3 D = some (.lst ys):=s3 _ _ B.dat
 -- the item,clean in the block
 have q3':Da G H3 (fun a=>ci = true→Lf (Zub C H1 fp1 (W4 own caps σ)) fp2 (exu (Zdz ex D fp1 (Wm own.length caps fp1)) new) a) x ds[i]:=by
  refine q3.wide fun a l _ z=>?_
  obtain ⟨⟨l1,l2,l3⟩,l4⟩:=l z
  refine ⟨fun w=>?_,fun w=>?_,.inl ⟨l3,l1⟩⟩
  .rcases B.grow a w with w | w
   .exact l1 (subB a w)
   .exact l4 w
  .rcases w with (w | w | w) | w
   .exact l2 w
   .subst w; exact l4 hD
   .exact l1 w.1
   .exact l4 (B.fresh a w).1
 refine ⟨_,δ2,fp2,_,_,_,R3,q3',turn i _ rs δ2 hd i2,fun σ4 δ4 fp4 R4 k4 h4=>?_⟩
 refine ⟨_,δ4,fp4,_,_,R4,h4,fun H5 b δ5 fp5 R5 S5 h5=>?_⟩
 -- the state behind the test
 have keep5:∀ b o,H1 b = some o→((pt && pe) = true\/¬ Foot (Wm own.length caps fp1) b)→H5 b = some o:=fun b o e q=>by
  refine S5.keep b o (s3 _ _ (B.keep b o e q)) ?_
  rcases q with q | q
  .rw [Bool.and_eq_true] at q; exact .inl q.1
  .refine .inr fun z=>?_
   rcases k4.grow b z with z | z
   .rcases B.grow b z with z | z
    .exact q z
    .rw [e] at z; cases z
   .rw [s3 _ _ (B.keep b o e (.inr q))] at z; cases z
 have al5:∀ b,H5 b = none→H1 b = none:=fun b e=>B.al b (s3.al b (S5.al b e))
 have grow4:∀ a,Foot fp4 a→Foot (Wm own.length caps fp1) a\/H1 a = none:=fun a z=>by
  rcases k4.grow a z with z | z
  .exact B.grow a z
  .exact .inr (B.al a (s3.al a z))
 have grow5:∀ a,Foot fp5 a→Foot (Wm own.length caps fp1) a\/H1 a = none:=fun a z=>by
  rcases S5.grow a z with z | z
  .exact grow4 a z
  .exact .inr (B.al a (s3.al a z))
 have D5:H5 D = some (.lst ys):=S5.keep D _ D3 (.inr fun ⟨k,z⟩=>R4.dx k D z (.inl hx))
 have own3:=B.own.same s3
 -- the items so far behind the target and the test
 have own4:Owns G H3 (fun a=>true = true→Lf (Zub C H1 fp1 (W4 own caps σ)) fp4 (exu (Zdz ex D fp1 (Wm own.length caps fp1)) new) a) ys rs new:=by
  refine own3.wide fun a l q z=>?_
  obtain ⟨l1,l2,l3⟩:=l z
  exact ⟨fun w=>(k4.grow a w).elim l1 q,l2,l3⟩
 have own5:=R4.owns_step (ex':=exu (Zdz ex D fp1 (Wm own.length caps fp1)) new) S5 (c:=true) (.inr rfl) (fun a z=>.inl z) (fun a m=>.inr m) own4
 dsimp only at h5 |-
 cases b with
 | false =>
  rw [if_neg Bool.false_ne_true] at h5 |-
  exact ⟨ds.length - (i + 1),by omega,rfl,hlt,rs,ys,new,δ5,fp5,⟨keep5,al5,D5,R5,grow5,own5,B.nd,B.fresh⟩,by omega,h5⟩
 | true =>
  rw [if_pos rfl] at h5 |-
  refine ⟨_,δ5,fp5,_,_,R5,h5,fun H6 v r δ6 fp6 nr r6 h6=>?_⟩
  have D6:H6 D = some (.lst ys):=r6.stp.keep D _ D5 (.inr fun ⟨k,z⟩=>R5.dx k D z (.inl hx))
  have hDnr:D ∉ nr:=fun z=>by
   have:=r6.fresh D z
   rw [D5] at this; cases this
  have own6:=R5.owns_step (ex':=exu (exu (Zdz ex D fp1 (Wm own.length caps fp1)) new) nr) r6.stp (c:=true) (.inr rfl) (fun a z=>z.imp id fun z=>r6.fresh a z) (fun a m=>.inr m) own5
  have eqx:∀ a,exu (Zdz ex D fp1 (Wm own.length caps fp1)) (new ++ nr) a→exu (exu (Zdz ex D fp1 (Wm own.length caps fp1)) new) nr a:=fun a z=>by
   rcases z with z | z
   .exact .inl (.inl z)
   .rcases List.mem_append.mp z with z | z
    .exact .inl (.inr z)
    .exact .inr z
  have lw:∀ a,(true = true→Lf (Zub C H1 fp1 (W4 own caps σ)) fp6 (exu (exu (Zdz ex D fp1 (Wm own.length caps fp1)) new) nr) a)→H6 a ≠ none→(true = true→Lf (Zub C H1 fp1 (W4 own caps σ)) fp6 (exu (Zdz ex D fp1 (Wm own.length caps fp1)) (new ++ nr)) a) :=
   fun a l _ z=>⟨(l z).1,fun w=>(l z).2.1 (eqx a w),(l z).2.2⟩
  have ownA:=(own6.snoc r6.own).wide lw
  refine ⟨ys,D6,by omega,ds.length - (i + 1),by omega,rfl,hlt,rs ++ [r],ys ++ [v],new ++ nr,δ6,fp6,⟨fun b o e q=>?_,fun b e=>?_,Zu,?_,fun a z=>?_,?_,?_,fun a m=>?_⟩,by rw [List.length_append]; show ys.length + 1 <= i + 1; omega,h6⟩
  .have nD:b ≠ D:=fun z=>by rw [z,hD] at e; cases e
   rw [Zk nD]
   refine r6.stp.keep b o (keep5 b o e q) ?_
   rcases q with q | q
   .rw [Bool.and_eq_true] at q; exact .inl q.2
   .refine .inr fun z=>?_
    rcases grow5 b z with z | z
    .exact q z
    .rw [e] at z; cases z
  .by_cases q:b = D
   .subst q; rw [Zu] at e; cases e
   .rw [Zk q] at e
    exact al5 b (r6.stp.al b e)
  .exact (r6.rel.drop eqx).poke (.inl hx) D6 hD
  .rcases r6.stp.grow a z with z | z
   .exact grow5 a z
   .exact .inr (al5 a z)
  .exact ownA.poke D6 (fun z=>(z rfl).2.1 (.inl hx)) (fun m=>by
    rcases List.mem_append.mp m with m | m
    .exact (B.fresh D m).2 rfl
    .exact hDnr m)
  .refine List.nodup_append.mpr ⟨B.nd,r6.nd,fun a m b m' z=>?_⟩
   subst z
   obtain ⟨xs,e⟩:=own5.some a m
   rw [r6.fresh a m'] at e; cases e
  .rcases List.mem_append.mp m with m | m
   .exact B.fresh a m
   .exact ⟨al5 a (r6.fresh a m),fun z=>hDnr (z ▸ m)⟩
end
end L2
namespace L2
open PySem PySem.Spec PyProof.Rows
section
variable   {pt pe ci:Bool} {g:MGt} {mt:MTt} {me:MEt}    
def Z2e (n:Nat) (caps:List Nat) (ds:List PyData) (g:MGt) (mt:MTt) (me:MEt) (δ1:Zc) (K:OT→Zc→Prop):Prop:=ds.length <= sizeLine/\∃ I:Nat→List OT→Zc→Prop,I 0 [] (blk n caps δ1) /\
 (∀ (i:Nat) (d:PyData) (rs:List OT) (δ':Zc),ds[i]? = some d→I i rs δ'→g d δ' fun δ2=>mt δ2 fun b δ3=>if b = true then me δ3 fun r δ4=>I (i + 1) (rs ++ [r]) δ4 else I (i + 1) rs δ3) /\
 ∀ rs δ',I ds.length rs δ'→K (.nd rs) δ1
def Zfs (n:Nat) (caps:List Nat) (mi:MIt) (g:MGt) (mt:MTt) (me:MEt):MEt:=fun δ K=>mi δ fun ds δ1=>Z2e n caps ds g mt me δ1 K
theorem Zw2 {wi:TI} (si:SI G io p ci wi mi) (nd:caps.Nodup) (hp:(pt && pe) = true) :
  SE G io p true (Zyj own caps wi (gM G (J3 own.length caps) ci g) (ttM G (J3 own.length caps) pt mt) (tM G (J3 own.length caps) pe true me)) (Zfs own.length caps mi g mt me):=by
 intro C H σ δ fp ex K Q R h k
 refine si C H σ δ fp ex _ _ R h fun J H1 ds δ1 fp1 R1 S1 it h1 D hD=>?_
 obtain ⟨hz,I,h0,turn,fin⟩:=h1
 refine Zqe I R1 (fun H' kp=>it H' fun b o e _=>kp b o e (.inl hp)) nd hD hz h0 turn fun H' σ' δ' fp' ys rs new B i'=>?_
 have s:Same H1 H':=fun b o e=>B.keep b o e (.inl hp)
 refine k H' (.ref D) (.nd rs) δ1 fp1 (D :: new) (RE.tree R R1 S1 s (fun a m=>?_) (List.nodup_cons.mpr ⟨fun m=>(B.fresh D m).2 rfl,B.nd⟩) (.nd B.dat (B.own.wide fun a l _=>?_))) (fin rs δ' i')
 .rcases List.mem_cons.mp m with rfl | m
  .exact hD
  .exact (B.fresh a m).1
 .refine ⟨?_,fun m=>?_⟩
  .rcases Z2s (fun a z=>.inl (.inl z)) (l rfl) with z | z
   .exact .inl fun _=>z
   .exact .inr z
  .rcases List.mem_cons.mp m with z | z
   .exact (l rfl).2.1 (.inl (.inr (.inl z)))
   .exact (l rfl).2.1 (.inr z)
theorem Z2w (S:CompScope X own caps N' sc) (hc:X.calm = true) (nd:caps.Nodup) (hi:MI X io p ci tg iter mi)
  (hg:∀ C cells s₂ H₂ fp,MG (Yr X N' sc C cells s₂ H₂ fp) (J3 own.length caps) ci tg g) (ht:∀ C cells s₂ H₂ fp,MIfs (Yr X N' sc C cells s₂ H₂ fp) (J3 own.length caps) pt ifs mt) (he:∀ C cells s₂ H₂ fp,ME (Yr X N' sc C cells s₂ H₂ fp) (J3 own.length caps) pe true elt me)
  (hp:(pt && pe) = true:=by rfl) (hs:∀ x,foldedSetIterable iter X.env x = pure x:=by intro _; rfl):ME X io p true (.ListComp elt [⟨tg,iter,ifs,0⟩] sc pos) (Zfs own.length caps mi g mt me):=by
 obtain ⟨_,A,si⟩:=hi
 exact ⟨_,Zy3 S hc A (fun C cells s₂ H₂ fp=>(hg C cells s₂ H₂ fp).canon) (fun C cells s₂ H₂ fp=>(ht C cells s₂ H₂ fp).canon) (fun C cells s₂ H₂ fp=>(he C cells s₂ H₂ fp).canon) hs,Zw2 si nd hp⟩
section
variable   {spos:Pos}
theorem Zc5 (own':Bool) (hN:X.N.Nodup) (hy:X.N[i]? = some y) (hx:Loc X.env.scope y) (S:CompScope X own caps N' sc) (hc:X.calm = true) (nd:caps.Nodup) (hi:MI X io p ci tg iter mi)
  (hg:∀ C cells s₂ H₂ fp,MG (Yr X N' sc C cells s₂ H₂ fp) (J3 own.length caps) ci tg g) (ht:∀ C cells s₂ H₂ fp,MIfs (Yr X N' sc C cells s₂ H₂ fp) (J3 own.length caps) pt ifs mt) (he:∀ C cells s₂ H₂ fp,ME (Yr X N' sc C cells s₂ H₂ fp) (J3 own.length caps) pe true elt me)
  (hp:(pt && pe) = true:=by rfl) (hio:i ∉ io:=by decide)
  (hsw:swapsWith (.ListComp elt [⟨tg,iter,ifs,0⟩] sc pos) (some (.Name y py)) spos.line X.env = pure true:=by rfl)
  (hs:∀ x,foldedSetIterable iter X.env x = pure x:=by intro _; rfl) (hf:X.fn y = true\/X.env.scope.names.lookup y = some .local:=by first | exact .inl rfl | exact .inr rfl | assumption) :
  MS X io (.Assign [.Name y py] (.ListComp elt [⟨tg,iter,ifs,0⟩] sc pos) spos) (if own' = true then Zmj i (Zfs own.length caps mi g mt me) else Zzl i (Zfs own.length caps mi g mt me)):=by
 obtain ⟨_,A,si⟩:=hi
 refine ⟨_,Zmp (g:=gM X.K (J3 own.length caps) ci g) (tt:=ttM X.K (J3 own.length caps) pt mt) (te:=tM X.K (J3 own.length caps) pe true me) hN hy hx S hc A (fun C cells s₂ H₂ fp=>(hg C cells s₂ H₂ fp).canon) (fun C cells s₂ H₂ fp=>(ht C cells s₂ H₂ fp).canon) (fun C cells s₂ H₂ fp=>(he C cells s₂ H₂ fp).canon) hsw hs hf,?_⟩
 cases own'
 .exact Z91 (Zw2 si nd hp) hio
 .exact Z2l (Zw2 si nd hp) hio
end
end
end L2
namespace L2
open PySem PySem.Spec PyProof.Rows
section
variable   {σ:St}   {l:Addr} 
theorem Inv.lstQ  (hK:X.K = K) (I:Inv X pins σ H s) (hH:SqL K H l xs):∃ (its:List Value) (n:Nat),Vals xs its/\xs.length = its.length/\∃ o,s.heap.get? l = some o/\o.cls = .type "list" /\ o.dict = none/\o.data = .seq its.toArray n:=by
 subst hK
 obtain ⟨its,r,⟨o,n,e,h1,h2,h3⟩,_⟩:=I.list hH
 exact ⟨its,n,r,r.length,o,e,h1,h2,h3⟩
end
def asI (d:PyData) (k:Int→Prop):Prop:=match d with | .int i=>k i | _=>False
def asL (d:PyData) (k:List PyData→Prop):Prop:=match d with | .list ds=>k ds | _=>False
section
variable    {d:PyData}
theorem Da.intInv {k:Int→Prop} (q:Da G H L v d) (h:asI d k):∃ i,v = .int i/\k i:=by
 cases q with
 | int b=>exact ⟨b,rfl,h⟩
 | _=>exact h.elim
theorem Da.lstInv {k:List PyData→Prop} (q:Da G H L v d) (h:asL d k):∃ a xs ds,v = .ref a/\SqL G H a xs/\Das G H L xs ds/\k ds:=by
 cases q with
 | lst l e r=>exact ⟨_,_,_,rfl,.inl e,r,h⟩
 | scr s=>exact ⟨_,_,_,rfl,s.sq,.ints _,h⟩
 | _=>exact h.elim
end
def d2I (C:Int→Int→Prop) (g:Int→Int→PyData):PyData→PyData→(PyData→Prop)→Prop:=fun d e k=>asI d fun i=>asI e fun j=>C i j/\k (g i j)
def Zru (g:Int→Int→PyData):PyData→PyData→(PyData→Prop)→Prop:=fun d e k=>asI d fun i=>asI e fun j=>k (g i j)
theorem Z2x {C:Int→Int→Prop} {f:Int→Int→Int}:P2s G (rI C fun i j=>.int (f i j)) (d2I C fun i j=>.int (f i j)):=fun H L x y d e k Q hx hy h kk=>by
 obtain ⟨i,rfl,h⟩:=hx.intInv h
 obtain ⟨j,rfl,h⟩:=hy.intInv h
 exact ⟨i,j,rfl,rfl,h.1,kk _ _ (.int _) h.2⟩
structure MulOk (i j:Int):Prop where
 ok:IntMulOk i j
structure Z8n (i j:Int):Prop where
 ok:DivOk i j
structure Ya4 (i j:Int):Prop where
 ok:Z47 i j
theorem Z38 {f:Int→Int→Int}:P2s G (rI DivOk fun i j=>.int (f i j)) (d2I Z8n fun i j=>.int (f i j)):=fun H L x y d e k Q hx hy h kk=>by
 obtain ⟨i,rfl,h⟩:=hx.intInv h
 obtain ⟨j,rfl,h⟩:=hy.intInv h
 exact ⟨i,j,rfl,rfl,h.1.ok,kk _ _ (.int _) h.2⟩
theorem Z3w {f:Int→Int→Int}:P2s G (rI Z47 fun i j=>.int (f i j)) (d2I Ya4 fun i j=>.int (f i j)):=fun H L x y d e k Q hx hy h kk=>by
 obtain ⟨i,rfl,h⟩:=hx.intInv h
 obtain ⟨j,rfl,h⟩:=hy.intInv h
 exact ⟨i,j,rfl,rfl,h.1.ok,kk _ _ (.int _) h.2⟩
theorem Zoh {f:Int→Int→Int}:P2s G (rI0 fun i j=>.int (f i j)) (Zru fun i j=>.int (f i j)):=fun H L x y d e k Q hx hy h kk=>by
 obtain ⟨i,rfl,h⟩:=hx.intInv h
 obtain ⟨j,rfl,h⟩:=hy.intInv h
 exact ⟨i,j,rfl,rfl,kk _ _ (.int _) h⟩
theorem Zft {f:Int→Int→Bool}:P2s G (rI0 fun i j=>.bl (f i j)) (Zru fun i j=>.bool (f i j)):=fun H L x y d e k Q hx hy h kk=>by
 obtain ⟨i,rfl,h⟩:=hx.intInv h
 obtain ⟨j,rfl,h⟩:=hy.intInv h
 exact ⟨i,j,rfl,rfl,kk _ _ (.bl _) h⟩
def Z9o (K:PySem.W.Frag):R2:=fun x y H Q=>∃ (L L':Addr→Prop) (d e:PyData),Da K H L x d/\Da K H L' y e/\Shp d/\Shp e/\Q (.bl (PyData.eqv d e)) H
def Yba (K:PySem.W.Frag):R2:=fun x y H Q=>∃ (L L':Addr→Prop) (d e:PyData),Da K H L x d/\Da K H L' y e/\Shp d/\Shp e/\Q (.bl (!PyData.eqv d e)) H
theorem Ze3 (hu:X.A.units + 64 < cLine):OpR X (compareOp .Eq) (Z9o X.K):=by
 intro pins s σ H x y v u Q I rx ry h
 obtain ⟨L,L',d,e,h1,h2,s1,s2,q⟩:=h
 obtain ⟨as,k1⟩:=h1.reads rfl I rx (SeqAt.canLay_of_shaped s1)
 obtain ⟨bs,k2⟩:=h2.reads rfl I ry (SeqAt.canLay_of_shaped s2)
 exact eq_dataH k1 k2 s1 s2 hu ⟨.bl _,H,I,rfl,q⟩
theorem Zhx (hu:X.A.units + 64 < cLine):OpR X (compareOp .NotEq) (Yba X.K):=by
 intro pins s σ H x y v u Q I rx ry h
 obtain ⟨L,L',d,e,h1,h2,s1,s2,q⟩:=h
 obtain ⟨as,k1⟩:=h1.reads rfl I rx (SeqAt.canLay_of_shaped s1)
 obtain ⟨bs,k2⟩:=h2.reads rfl I ry (SeqAt.canLay_of_shaped s2)
 exact ne_dataH k1 k2 s1 s2 hu ⟨.bl _,H,I,rfl,q⟩
structure Z0u (d:PyData):Prop where
 ok:Shp d
def dEq:PyData→PyData→(PyData→Prop)→Prop:=fun d e k=>Z0u d/\Z0u e/\k (.bool (PyData.eqv d e))
def dNe:PyData→PyData→(PyData→Prop)→Prop:=fun d e k=>Z0u d/\Z0u e/\k (.bool (!PyData.eqv d e))
theorem Zkj:P2s G (Z9o G) dEq:=fun H L x y d e k Q hx hy h kk=>⟨L,L,d,e,hx,hy,h.1.ok,h.2.1.ok,kk _ _ (.bl _) h.2.2⟩
theorem Zqs:P2s G (Yba G) dNe:=fun H L x y d e k Q hx hy h kk=>⟨L,L,d,e,hx,hy,h.1.ok,h.2.1.ok,kk _ _ (.bl _) h.2.2⟩
def Zax:PyData→Bool
 | .none=>true
 | _=>false
theorem Da.isNone    {d:PyData} (h:Da G H L v d):decide (v = .non) = Zax d:=by
 cases h <;> rfl
def Z8s:PyData→PyData→(PyData→Prop)→Prop:=fun d e k=>e = .none/\k (.bool (Zax d))
theorem Zvi:P2s G (fun x y H Q=>y = .non/\Q (.bl (decide (x = .non))) H) Z8s:=fun H L x y d e k Q hx hy h kk=>by
 obtain ⟨rfl,h⟩:=h
 cases hy
 exact ⟨rfl,by rw [hx.isNone]; exact kk _ _ (.bl _) h⟩
def ixD (d e:PyData):Option PyData:=match d,e with
 | .list ds,.int i=>atI ds i
 | .tuple ds,.int i=>atI ds i
 | _,_=>none
def dIx:PyData→PyData→(OT→Prop)→Prop:=fun d e k=>match ixD d e with | some x=>k (.fz x) | none=>False
theorem Das.atI     {i:Int} {d:PyData} (h:Das G H L xs ds) (e:L2.atI ds i = some d):∃ x,L2.atI xs i = some x/\Da G H L x d:=by
 unfold L2.atI at *
 rw [h.length]
 cases q:ixN ds.length i with
 | none=>rw [q] at e; cases e
 | some j =>
  rw [q] at e
  exact h.get e
theorem Z6m:P2 G (rIx G) dIx:=fun H L x y d e k Q hx hy h kk=>by
 unfold dIx at h
 split at h
 case h_2=>exact h.elim
 rename_i z ez
 have fin:∀ v,Da G H L v z→Q v H:=fun v q=>kk H v (.fz z) [] (Same.refl _) (.fz (q.wide fun a l _=>⟨.inl l,fun m=>nomatch m⟩)) .nil (fun a m=>nomatch m) h
 cases hx with
 | lst l e1 r =>
  cases hy with
  | int i =>
   obtain ⟨v,e2,q⟩:=r.atI (show L2.atI _ i = some z from ez)
   exact .inl ⟨_,_,i,v,rfl,rfl,.inl e1,e2,fin v q⟩
  | _=>cases ez
 | tup e1 r =>
  cases hy with
  | int i =>
   obtain ⟨v,e2,q⟩:=r.atI (show L2.atI _ i = some z from ez)
   exact .inr (.inl ⟨_,_,i,v,rfl,rfl,.inl (.inl e1),e2,fin v q⟩)
  | _=>cases ez
 | scr ks =>
  cases hy with
  | int i =>
   obtain ⟨v,e2,q⟩:=(Das.ints (G:=G) (H:=H) (L:=L) _).atI (show L2.atI _ i = some z from ez)
   exact .inl ⟨_,_,i,v,rfl,rfl,ks.sq,e2,fin v q⟩
  | _=>cases ez
 | _=>cases ez
theorem Own.list   {p:Addr}   (hp:H p = none) (h:Das G H L xs ds):Own G (upd H p (.lst xs)) (fun a=>(L a\/H a = none)/\a ∉ [p]) (.ref p) (.nd (ds.map OT.fz)) [p] :=
 .nd Zu (((h.wide fun a l q=>⟨.inl l,fun m=>q (by rw [List.mem_singleton.mp m]; exact hp)⟩).same (Z6 hp _)).owns)
theorem Za6  {p:Addr} (hp:H p = none):∀ a ∈ [p],H a = none:=fun a m=>by rw [List.mem_singleton.mp m]; exact hp
theorem Zcv (p:Addr):[p].Nodup:=List.nodup_cons.mpr ⟨fun m=>(nomatch m),.nil⟩
def n1 (k:PyData→Prop) (ds:List PyData):Prop:=match ds with | [d]=>k d | _=>False
def n2 (k:PyData→PyData→Prop) (ds:List PyData):Prop:=match ds with | [d,e]=>k d e | _=>False
theorem Das.one   {vs:List V}  {k:PyData→Prop} (q:Das G H L vs ds) (h:n1 k ds):∃ v d,vs = [v]/\ds = [d]/\Da G H L v d/\k d:=by
 cases q with
 | nil=>exact h.elim
 | cons q r =>
  cases r with
  | nil=>exact ⟨_,_,rfl,rfl,q,h⟩
  | cons _ _=>exact h.elim
def Zsz:PyData→Option Nat
 | .list ds=>some ds.length
 | .tuple ds=>some ds.length
 | _=>none
def Yas:List PyData→(PyData→Prop)→Prop:=fun ds k=>n1 (fun d=>match Zsz d with | some n=>k (.int n) | none=>False) ds
theorem Znl:PNs G (Z8p G) Yas:=fun H L xs ds k Q hx h kk=>by
 obtain ⟨v,d,rfl,rfl,q,h⟩:=hx.one h
 cases q with
 | lst l e r=>exact ⟨_,_,rfl,.inl (.inl e),by rw [r.length]; exact kk _ _ (.int _) h⟩
 | tup e r=>exact ⟨_,_,rfl,.inr (.inl (.inl e)),by rw [r.length]; exact kk _ _ (.int _) h⟩
 | scr ks=>exact ⟨_,_,rfl,.inl ks.sq,by rw [(Das.ints (G:=G) (H:=H) (L:=L) _).length]; exact kk _ _ (.int _) h⟩
 | _=>exact h.elim
def Yai:List PyData→(PyData→Prop)→Prop:=fun ds k=>n1 (fun d=>asI d fun i=>k (.int (if i < 0 then -i else i))) ds
theorem Znk:PNs G (fun xs H Q=>∃ i,xs = [.int i]/\Q (.int (if i < 0 then -i else i)) H) Yai:=fun H L xs ds k Q hx h kk=>by
 obtain ⟨v,d,rfl,rfl,q,h⟩:=hx.one h
 obtain ⟨i,rfl,h⟩:=q.intInv h
 exact ⟨i,rfl,kk _ _ (.int _) h⟩
def Zfa:PyData→Option (List PyData)
 | .list ds=>some ds
 | .tuple ds=>some ds
 | _=>none
def Z1n:List PyData→(OT→Prop)→Prop:=fun ds k=>n1 (fun d=>match Zfa d with | some es=>k (.nd (es.map OT.fz)) | none=>False) ds
theorem Zni:PN G (Zpd G) Z1n:=fun H L xs ds k Q hx h kk=>by
 obtain ⟨v,d,rfl,rfl,q,h⟩:=hx.one h
 cases q with
 | lst l e r=>exact ⟨_,_,rfl,.inl (.inl e),fun p hp=>kk _ _ _ [p] (Z6 hp _) (Own.list hp r) (Zcv p) (Za6 hp) h⟩
 | tup e r=>exact ⟨_,_,rfl,.inr (.inl (.inl e)),fun p hp=>kk _ _ _ [p] (Z6 hp _) (Own.list hp r) (Zcv p) (Za6 hp) h⟩
 | scr ks=>exact ⟨_,_,rfl,.inl ks.sq,fun p hp=>kk _ _ _ [p] (Z6 hp _) (Own.list hp (Das.ints _)) (Zcv p) (Za6 hp) h⟩
 | _=>exact h.elim
section
variable    {a:Expr}  
def Ya9 (m:MEt):MEt:=fun δ K=>m δ fun r δ'=>asI r.data fun i=>K (.fz (.int (-i))) δ'
theorem Z57 (ha:ME X io p c a ma):ME X io p true (.UnaryOp .USub a pos) (Ya9 ma):=by
 obtain ⟨_,A,s⟩:=ha
 exact ⟨_,Z60 Z0v A,fun C H σ δ fp ex K Q R h k=>s C H σ δ fp ex _ _ R h fun H' v r δ' fp' new r1 h1=>by
  obtain ⟨i,rfl,h1⟩:=(r1.da R).intInv h1
  exact ⟨i,rfl,k H' _ _ δ' fp' [] (.fz r1.base r1.stp (.int _)) h1⟩⟩
def Zj4 (T:String):PyData→Bool
 | .none=>false
 | .bool _=>T == "bool" || T == "int"
 | .int _=>T == "int"
 | .str _=>T == "str"
 | .list _=>T == "list"
 | .tuple _=>T == "tuple"
 | .dict _=>false
def Z8o (T:String) (m:MEt):MEt:=fun δ K=>m δ fun r δ'=>Zfm r.data = false/\K (.fz (.bool (Zj4 T r.data))) δ'
end
end L2
namespace L2
open PySem PySem.Spec PyProof.Rows
section
variable      {g:Array GenState} {d:Drawn} {t:Nat} {os:OsState}  {o:Obj} 
theorem Zx7 (M:Model) (hx:h.get? a = some o) (hc:o.cls = .ref C):PySem.W.Looks M h (typeOf (.ref a)) (.ref C):=hc ▸ (PySem.W.Looks.ld hx).andThen .now
theorem Zr9  (X:K.In h) (Z:Zen K C) (hx:h.get? a = some o) (hc:o.cls = .ref C) (hq:R (.ok (.ret (.ref C))) ⟨h,g,d,t,os⟩) :
  codeAny (model prog w) A (.call (.builtin "getset_descriptor.__get__") ⟨[.builtin "object.__class__", .ref a,.ref C],[]⟩) R ⟨h,g,d,t,os⟩:=by
 have L1:PySem.W.Looks (model prog w) h (isSubtype (.ref C) (.type (".".intercalate ("object.__class__".cutAt '.').dropLast))) true:=by
  rw [F.owner_object_class]
  exact PySem.W.looks_subIn X Z.isO
 have T5:(⟨h,g,d,t,os⟩:Shared).TypeIs (.builtin "object.__class__") "getset_descriptor" := F.typeOf_object_class
 refine codeAny_call_builtin F.slot_gs_get.plain F.entry_gs_get (F.slot_gs_get.check _ _ _ _ _ _ _ _ T5 (F.args_gs_get _ _ _) ?_)
 repeat (any_goals (first | assumption | (with_reducible refine wpAny_loadPart_at hx ?_; rw [hc]) | (with_reducible refine wpAny_bind (PySem.W.Looks.at L1 ?_)) | (with_reducible refine PySem.W.Looks.at L1 ?_) | wp_step))
 refine ⟨Code.quiet_builtin _ (by decide +kernel),codeAny_builtin F.entry_object_class ?_⟩
 repeat (any_goals (first | assumption | (with_reducible refine wpAny_loadPart_at hx ?_; rw [hc]) | wp_step))
theorem Zmm {tk:Tok} {Q:Fin→Shared→Prop} (X:K.In h) (Z:Zen K C) (hx:h.get? a = some o) (hc:o.cls = .ref C) (hq:Q (.done (.ret (.ref C))) ⟨h,g,d,t,os⟩) :
  wpAny (model prog w) A (Builtin.«object.__getattribute__» ⟨[.ref a,.str "__class__" tk],[]⟩) Q E ⟨h,g,d,t,os⟩:=by
 have T5:(⟨h,g,d,t,os⟩:Shared).TypeIs (.builtin "object.__class__") "getset_descriptor" := F.typeOf_object_class
 have g5:=F.typeOf_object_class
 have g6:=F.slot_gs_get.lookup
 have g7:=F.slot_gs_set.lookup
 have L4:=PySem.W.looks_findIn (M:=model prog w) X Z.cl
 repeat (any_goals (first | assumption | (with_reducible refine wpAny_loadPart_at hx ?_; rw [hc]) | (with_reducible refine wpAny_bind (PySem.W.Looks.at L4 ?_)) | (with_reducible refine PySem.W.Looks.at L4 ?_) | wp_step))
 refine Zr9 X Z hx hc ?_
 repeat (any_goals (first | assumption | wp_step))
theorem Zmy  {nameV:Value} {Q:Unit→Shared→Prop} (X:K.In h) (Z:Zen K C) (hx:h.get? a = some o) (hc:o.cls = .ref C) (hq:Q () ⟨h,g,d,t,os⟩) :
  wpAny M A (checkBuiltinCall "BaseException.__getattribute__" ⟨[.ref a,nameV],[]⟩) Q E ⟨h,g,d,t,os⟩:=by
 have e1:builtinKind "BaseException.__getattribute__" = some .slot:=by decide +kernel
 have e2:splitId "BaseException.__getattribute__" = some ("BaseException", "__getattribute__"):=by decide +kernel
 have L1:=PySem.W.looks_subIn (M:=M) X Z.isB
 have e3:=F.args_bexc_ga (.ref a) nameV
 simp only [checkBuiltinCall,e1,e2]
 refine wpAny_bind ?_
 unfold isInstance
 repeat (first | (with_reducible refine wpAny_loadPart_at hx ?_; rw [hc]) | (with_reducible refine wpAny_bind (PySem.W.Looks.at L1 ?_)) | (with_reducible refine PySem.W.Looks.at L1 ?_) | wp_step)
 exact hq
theorem Znp {tk:Tok}  (X:K.In h) (Z:Zen K C) (hx:h.get? a = some o) (hc:o.cls = .ref C) (hq:R (.ok (.ret (.ref C))) ⟨h,g,d,t,os⟩) :
  codeAny (model prog w) A (.call (.builtin "BaseException.__getattribute__") ⟨[.ref a,.str "__class__" tk],[]⟩) R ⟨h,g,d,t,os⟩ :=
 codeAny_call_builtin F.excAttr_ValueError.ga.plain F.entry_bexc_ga (Zmy X Z hx hc (Zmm X Z hx hc hq))
theorem Zw4 {tk:Tok} {fill expr:Bool}  (X:K.In h) (Z:Zen K C) (hx:h.get? a = some o) (hc:o.cls = .ref C) (hq:Q (.ref C) ⟨h,g,d,t,os⟩) :
  wpAny (model prog w) A (getAttrBy (.ref a) (.str "__class__" tk) fill expr) Q E ⟨h,g,d,t,os⟩:=by
 have f3:=F.excAttr_ValueError.ga.bind (.ref a)
 have y0:(expr && onTheHeap (Value.builtin "BaseException.__getattribute__")) = false:=by cases expr <;> rfl
 have y2:(Value.builtin "BaseException.__getattribute__" == Value.builtin "object.__getattribute__") = false:=by decide +kernel
 have y1:(onTheHeap (Value.ref C) && Value.builtin "BaseException.__getattribute__" == Value.builtin "object.__getattribute__") = false:=by rw [y2]; rfl
 have L2:=PySem.W.looks_findIn (M:=model prog w) X Z.ga
 have L3:=PySem.W.looks_findIn (M:=model prog w) X Z.gt
 repeat (any_goals (first | assumption | (with_reducible refine wpAny_loadPart_at hx ?_; rw [hc]) | (with_reducible refine PySem.W.Looks.at L2 ?_) | (with_reducible refine PySem.W.Looks.at L3 ?_) | (with_reducible refine wpAny_bind (PySem.W.Looks.at L2 ?_)) | (with_reducible refine wpAny_bind (PySem.W.Looks.at L3 ?_)) | wp_step))
 refine Znp X Z hx hc ?_
 repeat (any_goals (first | assumption | wp_step))
theorem Zpp {Q:Option Value→Shared→Prop} (X:K.In h) (Z:Zen K C) (hx:h.get? a = some o) (hc:o.cls = .ref C) (hq:Q (some (.ref C)) ⟨h,g,d,t + 1,os⟩) :
  wpAny (model prog w) A (getAttr? (.ref a) "__class__") Q E ⟨h,g,d,t,os⟩:=by
 unfold getAttr? getAttrBy?
 repeat (any_goals (first | assumption | with_reducible apply Zw4 X Z hx hc | wp_step))
end
theorem Zto   (Z:Zen K C):PySem.W.KitX K (.ref a) (.ref C) (fun h=>∃ o,h.get? a = some o/\o.cls = .ref C) where
 ty:=fun M h _ p=>let ⟨_,hx,hc⟩:=p; Zx7 M hx hc
 it:=fun M h X _=>by
  have z:=Z.isC
  unfold PySem.W.clsIn at z
  split at z
  .rename_i ho
   intro A' Q' E' s' k q
   unfold isType loadHead
   exact wpAny_bind (wpAny_loadPart (k _ _ (X _ _ ho)) (wpAny_pure q))
  .cases z
 ne:=fun h tp dd its n sl X htp=>by
  have z:=Z.isC
  refine Bool.eq_false_iff.mpr fun q=>?_
  have e:C = tp:=Value.ref.inj (beq_iff_eq.mp q)
  subst e
  unfold PySem.W.clsIn at z
  split at z
  .rename_i ho
   have z:=(X _ _ ho).symm.trans htp
   cases z
  .cases z
 ca:=fun {_ _ _ _ _ s} X p k=>by
  obtain ⟨h,g,d,t,os⟩:=s
  obtain ⟨_,hx,hc⟩:=p
  exact Zpp X Z hx hc k
end L2
namespace L2
open PySem PySem.Spec PyProof.Rows
def tyD:PyData→String
 | .none => "NoneType"
 | .bool _ => "bool"
 | .int _ => "int"
 | .str _ => "str"
 | .list _ => "list"
 | .tuple _ => "tuple"
 | .dict _ => "dict"
theorem Zun  {T:String} {d:PyData} (h:T = "int" \/ T = "bool" \/ T = "str" \/ T = "list" \/ T = "tuple") (hd:∀ kvs,d ≠ .dict kvs):PySem.W.kitOne K (.type (tyD d)) (.type T) = some (Zj4 T d):=by
 rcases h with rfl | rfl | rfl | rfl | rfl <;> cases d <;> first | rfl | (exact absurd rfl (hd _)) | (unfold PySem.W.kitOne PySem.W.kitCls; rfl) | (simp only [tyD,Zj4]; decide +kernel)
def Z6k (G:PySem.W.Frag):List V→Hp→VK→Prop:=fun xs H Q=>∃ (x:V) (T:String) (L:Addr→Prop) (d:PyData),xs = [x,.ty T]/\Da G H L x d/\Zfm d = false/\(T = "int" \/ T = "bool" \/ T = "str" \/ T = "list" \/ T = "tuple")/\Q (.bl (Zj4 T d)) H
theorem Znd  (hK:X.K = G):Zac X (.builtin "isinstance") (Z6k G):=by
 subst hK
 intro pins s σ H xs us Q I r h
 obtain ⟨x,T,L,d,rfl,q,hf,hT,h⟩:=h
 obtain ⟨u,w',rfl,r1,r2⟩:=vals2 r
 cases (show w' = Value.type T from r2)
 have fin:∀ tk:Nat,EP X pins σ Q (.bool (Zj4 T d)) { s with toks:=tk }:=fun tk=>⟨.bl _,H,I.tok tk,rfl,h⟩
 cases q with
 | non=>exact Jh I r1 .non (Zun (d:=.none) hT fun _ z=>by cases z) fin
 | bl b=>exact Jh I r1 (.bl b) (Zun (d:=.bool b) hT fun _ z=>by cases z) fin
 | int b=>exact Jh I r1 (.int b) (Zun (d:=.int b) hT fun _ z=>by cases z) fin
 | str b=>exact Jh I r1 (.str b) (Zun (d:=.str b) hT fun _ z=>by cases z) fin
 | lst l e qs =>
  rename_i ds
  rcases e with e | ⟨o,e⟩
  .exact Jh I r1 (.lst e) (Zun (d:=.list ds) hT fun _ z=>by cases z) fin
  .exact Jh I r1 (.frz e) (Zun (d:=.list ds) hT fun _ z=>by cases z) fin
 | tup e qs =>
  rename_i ds
  exact Jh I r1 (.tup e) (Zun (d:=.tuple ds) hT fun _ z=>by cases z) fin
 | scr ks =>
  rename_i a ns
  cases (show u = Value.ref a from r1)
  obtain ⟨its,vs,⟨o,n,ho,hc,hd,hs⟩,_⟩:=I.list (ks.sq (H:=H))
  exact PySem.W.kia_one PySem.W.kitx_list I.kIn ⟨o,ho,hc⟩ (Zun (d:=.list (ns.map PyData.int)) hT fun _ z=>by cases z) (fun z=>nomatch z) fin
 | exc Z hn e =>
  rename_i a C x
  cases (show u = Value.ref a from r1)
  obtain ⟨⟨o,vs,ho,hc,_⟩,_,_⟩:=(show ObjOk X.prog X.w H s.heap a (.ext (ExO C a)) from I.hok a _ e)
  refine PySem.W.kia_one (Zto Z) I.kIn ⟨o,ho,hc⟩ (b:=Zj4 T (exD x)) ?_ (fun z=>nomatch z) fin
  rcases hT with rfl | rfl | rfl | rfl | rfl
  .exact Z.k1
  .exact Z.k2
  .exact Z.k3
  .exact Z.k4
  .exact Z.k5
 | fn _=>cases hf
 | dic _ _ _ _=>unfold dcD Zfm at hf; cases hf
section
variable    {a:Expr}   
theorem Zab {T:Str} {T':String} (hT:T' = "int" \/ T' = "bool" \/ T' = "str" \/ T' = "list" \/ T' = "tuple") (hg:Gl X "isinstance") (hm:X.mg "isinstance" = none) (hv:bootBuiltins "isinstance" = some (.builtin "isinstance"))
  (hg2:Gl X T) (hm2:X.mg T = none) (hv2:bootBuiltins T = some (.type T')) (ha:ME X io p c a ma) (hn:T ≠ "__name__" := by decide) (hd:(T == ("__debug__" : Str)) = false:=by decide)
  (he:starEach [a,.Name T p2] X.env = (false,eval a X.env) :: starEach [.Name T p2] X.env:=by rfl) (he2:starEach [.Name T p2] X.env = (false,eval (.Name T p2) X.env) :: starEach [] X.env:=by rfl) (hpl:(backTo pos (starEach [.Name T p2] X.env)).any (·.1) = false:=by rfl) :
  ME X io p true (.Call (.Name "isinstance" pp) [a,.Name T p2] [] pos) (Z8o T' ma):=by
 obtain ⟨_,A,s⟩:=ha
 refine ⟨_,Zhm (Znd rfl) hg hm hv (Ze7 A (Ze7 (Zy7 (v:=.ty T') hg2 hm2 hv2 rfl hn hd) Zky he2) he) (by decide) (by decide) he hpl,?_⟩
 intro C H σ δ fp ex K' Q R h k
 refine s C H σ δ fp ex _ _ R h fun H' v r δ' fp' new r1 h1=>?_
 exact ⟨v,T',_,_,rfl,r1.da R,h1.1,hT,k H' _ _ δ' fp' [] (.fz r1.base r1.stp (.bl _)) h1.2⟩
abbrev MOt:=Zc→(Option Int→Zc→Prop)→Prop
def MO (X:Cx) (io:List Nat) (p:Bool) (e:Option Expr) (m:MOt):Prop:=∃ t,PO X e t/\∀ (C:MC X.K) (H:Hp) (σ:St) (δ:Zc) (fp:Fp) (ex:Addr→Prop) (K:Option Int→Zc→Prop) (Q:Option Int→Hp→Prop),Rel C io H σ δ fp ex→m δ K →
 (∀ H' b δ' fp',Rel C io H' σ δ' fp' ex→Stp p H δ fp H' δ' fp'→K b δ'→Q b H')→t σ H Q
def Zn8:MOt:=fun δ K=>K none δ
def Z2b (m:MEt):MOt:=fun δ K=>m δ fun r δ'=>asI r.data fun i=>K (some i) δ'
theorem Zv5:MO X io true none Zn8:=⟨_,Zxu,fun C H σ δ fp ex K Q R h k=>k H none δ fp R (.refl _ _ _ _) h⟩
theorem Zjm (h:ME X io p c e m):MO X io p (some e) (Z2b m):=by
 obtain ⟨_,A,s⟩:=h
 exact ⟨_,Zwy A,fun C H σ δ fp ex K Q R h k=>s C H σ δ fp ex _ _ R h fun H' v r δ' fp' new r1 h1=>by
  obtain ⟨i,rfl,h1⟩:=(r1.da R).intInv h1
  exact ⟨i,rfl,k H' _ δ' fp' r1.base r1.stp h1⟩⟩
def cutD (ds:List PyData) (lo hi:Option Int):List PyData:=(ds.drop (HT.sIx ds.length 0 lo)).take (HT.sIx ds.length ds.length hi - HT.sIx ds.length 0 lo)
theorem Das.cut     (h:Das G H L xs ds) (lo hi:Option Int):Das G H L (Zzm xs lo hi) (cutD ds lo hi):=by
 unfold Zzm cutD
 rw [h.length]
 exact (h.drop _).take _
def mSl (m:MEt) (ml mh:MOt):MEt:=fun δ K=>m δ fun r δ1=>ml δ1 fun lo δ2=>mh δ2 fun hi δ3=>asL r.data fun ds=>K (.nd ((cutD ds lo hi).map OT.fz)) δ3
theorem Z2t  {ml mh:MOt} (ha:ME X io true c a ma) (hl:MO X io true lo ml) (hh:MO X io true hi mh):ME X io true c (.Subscript a (.Slice lo hi none p2) pos) (mSl ma ml mh):=by
 obtain ⟨_,A,s⟩:=ha
 obtain ⟨_,B,sl⟩:=hl
 obtain ⟨_,D,sh⟩:=hh
 refine ⟨_,Zq4 (Zta rfl) A B D,?_⟩
 intro C H σ δ fp ex K' Q R h k
 refine s C H σ δ fp ex _ _ R h fun H1 v r δ1 fp1 new r1 h1=>?_
 refine sl C H1 σ δ1 fp1 ex _ _ r1.base h1 fun H2 l δ2 fp2 R2 S2 h2=>?_
 refine sh C H2 σ δ2 fp2 ex _ _ R2 h2 fun H3 u δ3 fp3 R3 S3 h3=>?_
 have s2:Same H1 H2:=fun b o e=>S2.keep b o e (.inl rfl)
 have s3:Same H2 H3:=fun b o e=>S3.keep b o e (.inl rfl)
 obtain ⟨e1,e2⟩:=r1.stp.env rfl
 obtain ⟨e3,e4⟩:=S2.env rfl
 obtain ⟨e5,e6⟩:=S3.env rfl
 have q:=((r1.da R).same s2).same s3
 obtain ⟨a',xs,ds,rfl,e,qs,h3⟩:=q.lstInv h3
 refine ⟨a',xs,rfl,e,fun p hp=>?_⟩
 have S:=(r1.stp.trans S2).trans S3
 refine k _ _ _ δ3 fp3 [p] (RE.tree R R3 S (Z6 hp _) (Za6 hp) (Zcv p) (Own.list hp ((qs.cut l u).wide fun a l _=>?_))) h3
 rw [e6,e4]
 exact l
theorem Owns.set   {x:V} {r:OT} (hr:Own G H L x r []):∀ {xs:List V} {ts:List OT} {as:List Addr} (j:Nat),Owns G H L xs ts as→∃ bs,Owns G H L (xs.set j x) (ts.set j r) bs/\bs.Sublist as
 | _,_,_,_,.nil=>⟨[],.nil,.refl _⟩
 | _,_,_,0,.cons k t=>⟨_,.cons hr t,by simp⟩
 | _,_,_,j + 1,.cons (as:=as) k t=>by
  obtain ⟨bs,o,s⟩:=Owns.set hr j t
  exact ⟨as ++ bs,.cons k o,List.Sublist.append_left s as⟩
theorem Owns.get  :∀ {xs:List V} {ts:List OT} {as:List Addr} {j:Nat} {t:OT},Owns G H L xs ts as→ts[j]? = Option.some t→∃ x bs,xs[j]? = Option.some x/\Own G H L x t bs/\bs.Sublist as
 | _,_,_,_,_,.nil,e=>by simp at e
 | _,_,_,0,_,.cons k _,e=>by simp at e; subst e; exact ⟨_,_,rfl,k,List.sublist_append_left _ _⟩
 | _,_,_,j + 1,t,.cons _ r,e=>by
  obtain ⟨x,bs,h1,h2,h3⟩:=Owns.get (j:=j) (t:=t) r (by simpa using e)
  exact ⟨x,bs,by simpa using h1,h2,h3.trans (List.sublist_append_right _ _)⟩
theorem Rel.top {C:MC G}  {σ:St}     {ts':List OT} {a':Addr}  {bs bs':List Addr} (R:Rel C io H σ δ fp ex) (hi:δ[i]? = some (some (.nd ts))) (hv:σ[i]? = some (some (.ref a')))
  (hf:fp i = a' :: bs) (hx:H a' = some (.lst xs)) (o:Owns G H (Lf C fp ex) ys ts' bs') (hs:bs'.Sublist bs) :
  Rel C io (upd H a' (.lst ys)) σ (δ.set i (some (.nd ts'))) (fpu fp i (a' :: bs')) ex/\Stp false H δ fp (upd H a' (.lst ys)) (δ.set i (some (.nd ts'))) (fpu fp i (a' :: bs')):=by
 have nd:=R.nd i
 rw [hf] at nd
 have hn:=List.nodup_cons.mp nd
 have hm:a' ∈ fp i:=by rw [hf]; exact .head _
 have ne':∀ a,¬ Foot fp a→a ≠ a':=fun a h z=>h ⟨i,by rw [z]; exact hm⟩
 have kp:∀ b o,H b = some o→b ≠ a'→upd H a' (.lst ys) b = some o:=fun b o e n=>by rw [Zk n]; exact e
 have sub:∀ a,a ∈ a' :: bs'→a ∈ fp i:=fun a m=>by
  rw [hf]
  rcases List.mem_cons.mp m with rfl | m
  .exact .head _
  .exact .tail _ (hs.subset m)
 have o':Owns G (upd H a' (.lst ys)) (Lf C (fpu fp i (a' :: bs')) (exu ex [])) ys ts' bs':=by
  have f0:∀ a,¬ Foot fp a→¬ Foot (fpu fp i (a' :: bs')) a:=fun a h z=>by
   rcases z.of_u with z | ⟨j,_,z⟩
   .exact h ⟨i,sub a z⟩
   .exact h ⟨j,z⟩
  have f1:∀ a (zs:MuO),Lf C fp ex a→Rd H a zs.ho→Lf C (fpu fp i (a' :: bs')) (exu ex []) a/\Rd (upd H a' (.lst ys)) a zs.ho:=fun a zs l q=>by
   refine ⟨⟨f0 a l.1,fun z=>l.2.1 (Zaf.mp z),l.2.2⟩,?_⟩
   rcases q with q | ⟨u,q⟩
   .exact .inl (kp a _ q (ne' a l.1))
   .exact .inr ⟨u,kp a _ q (ne' a l.1)⟩
  have f2:∀ a (zs:ImO),H a = some zs.ho→upd H a' (.lst ys) a = some zs.ho:=fun a zs q=>kp a _ q fun z=>ImO.nl q (z ▸ hx)
  exact o.frame f1 f2 fun a m zs q=>kp a _ q fun z=>hn.1 (hs.subset (z ▸ m))
 have key:=R.change (new:=[]) (as':=a' :: bs') (t':=.nd ts') (H':=upd H a' (.lst ys)) hi hv (fun b o e nb=>kp b o e fun z=>nb (by rw [z]; exact hm)) (fun b e=>by
   by_cases q:b = a'
   .subst q; rw [Zu] at e; cases e
   .rwa [Zk q] at e) (.nd Zu o') (List.nodup_cons.mpr ⟨fun m=>hn.1 (hs.subset m),hn.2.sublist hs⟩) (fun a m=>.inl (sub a m)) (fun a m=>nomatch m)
 exact ⟨key.1.drop fun a z=>.inl z,key.2⟩
end
end L2
namespace L2
open PySem PySem.Spec PyProof.Rows
section
variable    {a:Expr} {mi mj:MEt}    
theorem Rel.ownNd {C:MC G}  {σ:St}     (R:Rel C io H σ δ fp ex) (hi:δ[i]? = some (some (.nd ts))) :
  ∃ a' xs bs,σ[i]? = some (some (.ref a'))/\H a' = some (.lst xs)/\Owns G H (Lf C fp ex) xs ts bs/\fp i = a' :: bs:=by
 obtain ⟨v,e,o⟩:=R.own i _ hi
 generalize hf:fp i = as at o
 cases o with
 | nd h r=>exact ⟨_,_,_,e,h,r,rfl⟩
def Zg6 (i:Nat) (m:MEt):MSt:=fun D δ=>match δ[i]? with
 | some (some (.nd _))=>m δ fun r δ1=>match δ1[i]? with
  | some (some (.nd ts))=>ts.length < sizeLine/\D.nx (δ1.set i (some (.nd (ts ++ [.fz r.data]))))
  | _=>False
 | _=>False
theorem Zht (i:Nat) (he:ME X io p true e m) (hN:X.N[i]? = some x:=by rfl) (hv:Vis X.env.scope x:=by first | exact Or.inl rfl | exact Or.inr (Or.inl rfl) | exact Or.inr (Or.inr rfl)) (hd:(x == ("__debug__" : Str)) = false:=by decide)
  (hcd:(x == ("__classdict__" : Str)) = false:=by decide)
  (hbase:attributeBase (.Name x px) "append" X.env (eval (.Name x px) X.env) = eval (.Name x px) X.env:=by rfl)
  (hfew:((backTo cpos (starEach [e] X.env)).all (fun x=>!x.1) && (backToKw cpos (keywordEach [] X.env)).all (fun x=>x.1.isSome)
   && decide ([e].length + ([]:List Keyword).length + (if ([]:List Keyword).isEmpty then 0 else 1) < 30)) = true:=by rfl)
  (hline:(apos.endLine == cpos.line) = true:=by rfl) (hs:starEach [e] X.env = (false,eval e X.env) :: starEach [] X.env:=by rfl) (hplain:(backTo cpos (starEach [] X.env)).any (·.1) = false:=by rfl)
  (hsw:swapsWith (.Call (.Attribute (.Name x px) "append" apos) [e] [] cpos) none pos.line X.env = pure false:=by rfl) :
  MS X io (.Expr (.Call (.Attribute (.Name x px) "append" apos) [e] [] cpos) pos) (Zg6 i m):=by
 obtain ⟨_,A,s⟩:=he
 refine ⟨_,Zke (Zsq PySem.F.plainAttrs_list PySem.F.slot_list_append PySem.F.type_list_append Zfj (pv i hN hv hd hcd) (Ze7 A Zky hs) hbase hfew hline hs hplain) hsw,fun C H σ δ fp ex D D' R h E=>?_⟩
 unfold Zg6 at h
 split at h
 case h_2=>exact h.elim
 rename_i ts0 hi0
 obtain ⟨a',xs0,bs0,hv0,hx0,_,_⟩:=R.ownNd hi0
 refine ⟨_,hv0,.inl ⟨rfl,xs0,.inl (.inl hx0)⟩,?_⟩
 refine s C H σ δ fp ex _ _ R h fun H1 v r δ1 fp1 new r1 h1=>?_
 split at h1
 case h_2=>exact h1.elim
 rename_i ts1 hi1
 have R1:=r1.base
 obtain ⟨a1,xs1,bs1,hv1,hx1,o1,hf1⟩:=R1.ownNd hi1
 rw [hv0] at hv1
 cases hv1
 have q:=(r1.da R).wide (L':=Lf C fp1 ex) fun a l _=>l rfl
 refine ⟨a',xs1,v,rfl,rfl,hx1,by rw [o1.length]; exact h1.1,?_⟩
 have o2:=o1.snoc (.fz q)
 obtain ⟨R2,S2⟩:=R1.top hi1 hv0 hf1 hx1 o2 (by simp)
 exact E.nx _ σ _ _ R2 (r1.stp.kp.trans S2.kp) h1.2
theorem SE.pureAfter {t:TE} {C:MC G}  {σ:St}    {K':OT→Zc→Prop} {Q:VK} (s:SE G io true c t m) (R:Rel C io H σ δ fp ex) (h:m δ K') (k:∀ H' v r,Rel C io H' σ δ fp ex→Same H H'→Da G H' (fun a=>c = true→Lf C fp ex a) v r.data→K' r δ→Q v H'):t σ H Q :=
 s C H σ δ fp ex _ _ R h fun H1 v r δ1 fp1 new r1 h1=>by
  obtain ⟨e1,e2⟩:=r1.stp.env rfl
  have q:=r1.da R
  have R1:=r1.base
  rw [e1] at R1 h1
  rw [e2] at R1 q
  exact k H1 v r R1 (fun b o e=>r1.stp.keep b o e (.inl rfl)) q h1
theorem Owns.deep   {b':Addr} {ws ws':List V} {us us':List OT} (hb:H b' = Option.some (HO.lst ws)) (hL:¬ L b') (hc:∀ cs,Owns G H L ws us cs→∃ cs',Owns G H L ws' us' cs'/\cs'.Sublist cs) :
  ∀ {xs:List V} {ts:List OT} {as:List Addr} {j:Nat},Owns G H L xs ts as→as.Nodup→xs[j]? = Option.some (.ref b')→ts[j]? = Option.some (.nd us)→∃ as',Owns G (upd H b' (.lst ws')) L xs (ts.set j (.nd us')) as'/\as'.Sublist as/\b' ∈ as
 | _,_,_,_,.nil,_,e,_=>by simp at e
 | _,_,_,0,.cons (as:=as) (bs:=bs) k t,nd,e,e'=>by
  simp at e e'
  subst e e'
  have nd':=List.nodup_append.mp nd
  have kp:∀ a o,a ≠ b'→H a = Option.some o→upd H b' (.lst ws') a = Option.some o:=fun a o n q=>by rw [Zk n]; exact q
  have f1:∀ a (zs:MuO),L a→Rd H a zs.ho→L a/\Rd (upd H b' (.lst ws')) a zs.ho:=fun a zs l q=>⟨l,by
   have na:a ≠ b':=fun z=>hL (z ▸ l)
   rcases q with q | ⟨u,q⟩
   .exact .inl (kp a _ na q)
   .exact .inr ⟨u,kp a _ na q⟩⟩
  have f2:∀ a (zs:ImO),H a = Option.some zs.ho→upd H b' (.lst ws') a = Option.some zs.ho:=fun a zs q=>kp a _ (fun z=>ImO.nl q (z ▸ hb)) q
  cases k with
  | nd h r =>
   rename_i xs0 as0
   rw [hb] at h
   cases h
   have nd2:=List.nodup_cons.mp nd'.1
   obtain ⟨cs',o',s'⟩:=hc _ r
   refine ⟨b' :: cs' ++ bs,.cons (.nd Zu (o'.frame f1 f2 fun a m zs q=>kp a _ (fun z=>nd2.1 (s'.subset (z ▸ m))) q)) (t.frame f1 f2 fun a m zs q=>kp a _ (fun z=>nd'.2.2 b' (.head _) a m z.symm) q),List.Sublist.append_right (List.Sublist.cons₂ _ s') bs,List.mem_append_left _ (.head _)⟩
 | _,_,_,j + 1,.cons (as:=as) (bs:=bs) k t,nd,e,e'=>by
  have nd':=List.nodup_append.mp nd
  obtain ⟨as',o,s,m⟩:=Owns.deep hb hL hc (j:=j) t nd'.2.1 (by simpa using e) (by simpa using e')
  have nb:b' ∉ as:=fun z=>nd'.2.2 b' z b' m rfl
  refine ⟨as ++ as',.cons ?_ o,List.Sublist.append_left s as,List.mem_append_right _ m⟩
  have kp:∀ a o,a ≠ b'→H a = Option.some o→upd H b' (.lst ws') a = Option.some o:=fun a o n q=>by rw [Zk n]; exact q
  refine k.frame (fun a zs l q=>⟨l,?_⟩) (fun a zs q=>kp a _ (fun z=>ImO.nl q (z ▸ hb)) q) fun a m' zs q=>kp a _ (fun z=>nb (z ▸ m')) q
  have na:a ≠ b':=fun z=>hL (z ▸ l)
  rcases q with q | ⟨u,q⟩
  .exact .inl (kp a _ na q)
  .exact .inr ⟨u,kp a _ na q⟩
end
end L2
namespace L2
open PySem PySem.Spec PyProof.Rows
mutual
def Zxs:OT→Bool
 | .fz d=>J8 d
 | .nd ts=>Zqg ts
 | .tp ts=>Zqg ts
 | .dc _ _ _=>false
def Zqg:List OT→Bool
 | []=>true
 | t :: ts=>Zxs t && Zqg ts
end
theorem Rel.freeze {C:MC G}  {σ:St}     {t:OT} (R:Rel C io H σ δ fp ex) (hio:i ∉ io) (hi:δ[i]? = some (some t)):Rel C io H σ (δ.set i (some (.fz t.data))) (fpu fp i []) ex:=by
 have hil:i < δ.length:=(List.getElem?_eq_some_iff.mp hi).1
 have sub:∀ j a,a ∈ fpu fp i [] j→j ≠ i/\a ∈ fp j:=fun j a m=>by
  by_cases ej:j = i
  .subst ej; rw [Zx] at m; exact nomatch m
  .rw [Yh ej] at m; exact ⟨ej,m⟩
 have lw:∀ a,Lf C fp ex a→Lf C (fpu fp i []) ex a:=fun a l=>⟨fun ⟨j,z⟩=>l.1 ⟨j,(sub j a z).2⟩,l.2.1,l.2.2⟩
 have ln:∀ a ∈ fp i,Lf C (fpu fp i []) ex a:=fun a m=>⟨fun ⟨j,z⟩=>(sub j a z).1 (R.dj j i a (sub j a z).2 m),R.dx i a m,.inr (by
  rcases R.new i a m with z | z
  .exact absurd z.1 hio
  .exact z)⟩
 refine ⟨by rw [List.length_set]; exact R.len,fun j t' e=>?_,fun j h=>?_,fun j=>?_,fun j k a h1 h2=>R.dj j k a (sub j a h1).2 (sub k a h2).2,fun j a h z=>R.dx j a (sub j a h).2 z,R.xa,R.fr,R.al,fun j a h=>R.new j a (sub j a h).2,R.io⟩
 .by_cases ej:j = i
  .subst ej
   rw [List.getElem?_set_self hil] at e
   cases e
   obtain ⟨v,e1,o⟩:=R.own j t hi
   exact ⟨v,e1,by rw [Zx]; exact .fz (o.da (fun a l _=>lw a l) ln)⟩
  .rw [List.getElem?_set_ne (Ne.symm ej)] at e
   obtain ⟨w,e1,o⟩:=R.own j t' e
   exact ⟨w,e1,by rw [Yh ej]; exact o.wide fun a l _=>lw a l⟩
 .by_cases ej:j = i
  .subst ej; rw [Zx]
  .rw [Yh ej]
   exact R.emp j fun t' z=>h t' (by rw [List.getElem?_set_ne (Ne.symm ej)]; exact z)
 .by_cases ej:j = i
  .subst ej; rw [Zx]; exact .nil
  .rw [Yh ej]; exact R.nd j
def Zg8 (i:Nat) (u:MSt):MSt:=fun D δ=>match δ[i]? with | some (some t)=>u D (δ.set i (some (.fz t.data))) | _=>False
theorem Zoy  {u:MSt} (i:Nat) (h:MS X io st u) (hio:i ∉ io:=by decide):MS X io st (Zg8 i u):=by
 obtain ⟨_,A,s⟩:=h
 exact ⟨_,A,fun C H σ δ fp ex D D' R h E=>by
  unfold Zg8 at h
  split at h
  case h_2=>exact h.elim
  rename_i t hi
  refine s C H σ _ _ ex D D' (R.freeze hio hi) h (E.shift ⟨fun b o e _=>e,fun z=>(nomatch z),fun a z=>?_,fun b e=>e⟩)
  rcases z.of_u with z | ⟨j,_,z⟩
  .exact nomatch z
  .exact .inl ⟨j,z⟩⟩
end L2
namespace L2
open PySem PySem.Spec PyProof.Rows
def Zzs (ds:List PyData) (k:OT→Prop):Prop:=∃ ns:List Int,ds = [.list (ns.map PyData.int)]/\ns.length <= 63/\k (.fz (.bool true))
theorem Z0f    {E:XK} (hl:ns.length <= 63) (h:SqL G H a (ns.map V.int)):spD G Zzs [.ref a] H (fun v _=>v = .bl true) E:=by
 refine ⟨fun _=>True,[.list (ns.map PyData.int)],fun r=>r = .fz (.bool true),.cons ?_ .nil,⟨ns,rfl,hl,rfl⟩,fun r v H' new kr s o _ _=>?_⟩
 .rcases h with h | h
  .exact .lst trivial h (.ints ns)
  .exact .scr h
 .subst kr
  cases o with
  | fz q=>cases q; rfl
section
variable    {base:Heap}  {n:Nat} {f:Addr} {fd:FuncData} 
end
end L2
namespace L2
open PySem PySem.Spec PyProof.Rows
@[simp] theorem Zfp:OT.datas [] = []:=rfl
@[simp] theorem Zdi (t:OT) (ts:List OT):OT.datas (t :: ts) = t.data :: OT.datas ts:=rfl
theorem Zlo  {xs:List α} {i:Int} (h0:0 <= i):atI xs i = xs[i.toNat]?:=by
 unfold atI ixN
 rw [if_pos h0]
 split
 .rfl
 .rename_i h
  symm
  exact List.getElem?_eq_none_iff.mpr (by omega)
@[simp] theorem Yb1 {α:Type} (x:α) (xs:List α):atI (x :: xs) 0 = some x:=by
 rw [Zlo (by decide)]; rfl
@[simp] theorem Yca {α:Type} (x y:α) (xs:List α):atI (x :: y :: xs) 1 = some y:=by
 rw [Zlo (by decide)]; rfl
@[simp] theorem Ycm {α:Type} (x y z:α) (xs:List α):atI (x :: y :: z :: xs) 2 = some z:=by
 rw [Zlo (by decide)]; rfl
@[simp] theorem Z5g (ds:List PyData) (i:Int):ixD (.list ds) (.int i) = atI ds i:=rfl
@[simp] theorem Z8d (ds:List PyData) (i:Int):ixD (.tuple ds) (.int i) = atI ds i:=rfl
@[simp] theorem Z02 (ds:List PyData):Zsz (.list ds) = some ds.length:=rfl
@[simp] theorem Z42 (ds:List PyData):Zsz (.tuple ds) = some ds.length:=rfl
def Z3o (r:List Rat):PyData:=.list (r.map frD)
def tbD (T:List (List Rat)):PyData:=.list (T.map Z3o)
def Z49 (r:List Rat):OT:=.nd (r.map fun q=>.fz (frD q))
def tbT (T:List (List Rat)):OT:=.nd (T.map Z49)
@[simp] theorem Znf (r:List Rat):(Z49 r).data = Z3o r:=by
 unfold Z49 Z3o
 rw [OT.data_nd,List.map_map]
 rfl
@[simp] theorem Z40 (T:List (List Rat)):(tbT T).data = tbD T:=by
 unfold tbT tbD
 rw [OT.data_nd,List.map_map]
 exact congrArg PyData.list (List.map_congr_left fun r _=>Znf r)
def Sq (n:Nat) (T:List (List Rat)):Prop:=T.length = n/\∀ r ∈ T,r.length = n
def dd (T:List (List Rat)) (i j:Nat):Rat:=(T.getD i []).getD j 0
@[simp] theorem Z6z (T:List (List Rat)):Zsz (tbD T) = some T.length:=by unfold tbD Zsz; simp
@[simp] theorem Z41 (r:List Rat):Zsz (Z3o r) = some r.length:=by unfold Z3o Zsz; simp
@[simp] theorem Z7f (q:Rat):J8 (frD q) = true:=by unfold frD fr; simp [J8,Zij]
end L2
namespace L2
open PySem PySem.Spec PyProof.Rows
end L2
namespace L2
open PySem PySem.Spec PyProof.Rows
end L2
namespace L2
open PySem PySem.Spec PyProof.Rows
end L2
namespace L2
open PySem PySem.Spec PyProof.Rows
end L2
namespace L2
open PySem PySem.Spec PyProof.Rows
end L2
namespace L2
open PySem PySem.Spec PyProof.Rows
theorem Z24 {n a:Nat} (h:a < n):ixN n (a:Int) = some a:=by
 unfold ixN
 rw [if_pos (by omega),if_pos (by omega)]; simp
theorem Sq.ixN {n a:Nat} {T:List (List Rat)} (h:Sq n T) (ha:a < n):ixN (T.map Z49).length (a:Int) = some a:=Z24 (by rw [List.length_map,h.1]; exact ha)
end L2
namespace L2
open PySem PySem.Spec PyProof.Rows
end L2
namespace L2
open PySem PySem.Spec PyProof.Rows
end L2
namespace L2
open PySem PySem.Spec PyProof.Rows
theorem Zk7 {d:PyData} (h:Yu d = true):PyData.eqv d d = true:=Z2i h h rfl
end L2
namespace L2
open PySem PySem.Spec PyProof.Rows
structure Sh (n:Nat) (d:PyData):Prop where
 lay:PyData.canLay0 d = true
 dep:PyData.depth d <= n
theorem Sh.shp {n:Nat} {d:PyData} (h:Sh n d) (hn:n <= 64:=by decide):Z0u d:=⟨by
 show (PyData.canLay0 d && decide (PyData.depth d <= 64)) = true
 rw [h.lay,decide_eq_true (Nat.le_trans h.dep hn)]; rfl⟩
theorem Zhp {n:Nat}:∀ {ds:List PyData},(∀ d ∈ ds,Sh n d)→PyData.canLayAll0 ds = true/\PyData.depthAll ds <= n
 | [],_=>⟨by rw [PyData.canLayAll0],by rw [PyData.depthAll]; exact Nat.zero_le _⟩
 | d :: ds,h=>by
  obtain ⟨h1,h2⟩:=Zhp fun e m=>h e (.tail _ m)
  have h3:=h d (.head _)
  refine ⟨by rw [PyData.canLayAll0,h3.lay,h1]; rfl,?_⟩
  rw [PyData.depthAll]
  exact Nat.max_le.mpr ⟨h3.dep,h2⟩
theorem Zjs {n:Nat}  (h:∀ d ∈ ds,Sh n d):Sh (n + 1) (.list ds) :=
 ⟨by rw [PyData.canLay0]; exact (Zhp h).1,by rw [PyData.depth]; exact Nat.succ_le_succ (Zhp h).2⟩
theorem Zug {n:Nat}  (h:∀ d ∈ ds,Sh n d):Sh (n + 1) (.tuple ds) :=
 ⟨by rw [PyData.canLay0]; exact (Zhp h).1,by rw [PyData.depth]; exact Nat.succ_le_succ (Zhp h).2⟩
theorem Zo8 (i:Int):Sh 0 (.int i):=⟨rfl,Nat.le_of_eq rfl⟩
end L2
namespace L2
open PySem PySem.Spec PyProof.Rows
section
variable   {σ:St}  
theorem Inv.turnTup   {T:Addr}  {its:List Value} (I:Inv X pins σ H s) (f:∀ b ∈ ch,Zgn X pins H b) (k:∀ b o,b ∉ ch→s.heap.get? b = some o→h'.get? b = some o)
  (th:∀ b ∈ ch,∃ o,h'.get? b = some o) (hT:s.heap.objs.size <= T) (hz:xs.length <= sizeLine) (r:Vals xs its) (ht:IsTup h' T its.toArray):Inv X pins σ (upd H T (.tup xs)) { s with heap:=h' }:=by
 have hn:H T = none:=I.hok.fresh hT
 have nch:∀ b u,H b = some u→b ∉ ch:=fun b u e z=>by rw [(f b z).1] at e; cases e
 have new:ObjOk X.prog X.w (upd H T (.tup xs)) h' T (.tup xs):=⟨hz,its,r,ht⟩
 refine I.call (ch:=ch) (g':=s.gens) (d':=s.drawn) (t':=s.toks) ⟨fun b o e _ _ hc=>k b o hc e,fun b o e _ _ hc=>⟨o.slots,k b o hc e⟩,fun b o e n _=>?_,fun b o e hc=>?_,fun b ys e=>?_,fun b o u e=>?_,fun b ps e=>?_⟩ (fun b u e=>?_) I.bare (fun b hb=>?_)
 .rw [Zk (fun z=>by rw [z] at e; exact absurd (Heap.lt_size e) (Nat.not_lt.mpr hT))]; exact n
 .exact ⟨o,k b o hc e⟩
 .rw [Zk (Yl e hn)]; exact e
 .rw [Zk (Yl e hn)]; exact e
 .exact ⟨#[],by rw [Zk (Yl e hn),e]; simp⟩
 .by_cases hb:b = T
  .subst hb; rw [Zu] at e; cases e; exact new
  .rw [Zk hb] at e
   refine (I.hok b u e).stay (fun c v hc q=>k c v ?_ q) (fun c q=>by rw [Zk (Yl q hn)]; exact q) fun c ys q=>by rw [Zk (Yl q hn)]; exact q
   rcases hc with rfl | hc
   .exact nch _ _ e
   .exact nch _ _ hc
 .obtain ⟨f0,f1,f2,f3,f4,f5⟩:=f b hb
  exact ⟨f3,f1,f4,f5⟩
theorem Inv.turnAll   (I:Inv X pins σ H s) (f:∀ b ∈ ch,Zgn X pins H b) (k:∀ b o,b ∉ ch→s.heap.get? b = some o→h'.get? b = some o):Inv X pins σ H { s with heap:=h' }:=by
 have nch:∀ b u,H b = some u→b ∉ ch:=fun b u e z=>by rw [(f b z).1] at e; cases e
 refine I.call (ch:=ch) (g':=s.gens) (d':=s.drawn) (t':=s.toks) ⟨fun b o e _ _ hc=>k b o hc e,fun b o e _ _ hc=>⟨o.slots,k b o hc e⟩,fun b o e n _=>n,fun b o e hc=>⟨o,k b o hc e⟩,fun b ys e=>e,fun b o u e=>e,fun b ps e=>⟨#[],by rw [e]; simp⟩⟩ (fun b u e=>?_) I.bare (fun b hb=>?_)
 .refine (I.hok b u e).stay (fun c v hc q=>k c v ?_ q) (fun c q=>q) fun c ys q=>q
  rcases hc with rfl | hc
  .exact nch _ _ e
  .exact nch _ _ hc
 .obtain ⟨f0,f1,f2,f3,f4,f5⟩:=f b hb
  exact ⟨f3,f1,f4,f5⟩
end
end L2
namespace L2
open PySem PySem.Spec PyProof.Rows
section
variable    {a:Expr}  
theorem Rel.keptList {C:MC G}  {σ:St}      (R:Rel C io H σ δ fp ex) (q:Da G H (fun a=>c = true→Lf C fp ex a) v (.list ds)) :
  ∃ a xs,v = .ref a/\∀ H':Hp,(∀ b o,H b = some o→(c = false\/¬ Foot fp b)→H' b = some o)→SqL G H' a xs/\Das G H' (fun a=>c = true→(Lf C fp ex a/\H a ≠ none)) xs ds:=by
 generalize hd:PyData.list ds = d at q
 cases q with
 | lst l e r =>
  cases hd
  rename_i a0 xs0
  refine ⟨a0,xs0,rfl,fun H' kp=>?_⟩
  obtain ⟨f1,f2⟩:=R.kept kp
  exact ⟨.inl (f1 _ (.lst _) l e).2,r.frame f1 f2⟩
 | scr k =>
  rename_i a ns
  have:=PyData.list.inj hd
  subst this
  exact ⟨a,_,rfl,fun H' _=>⟨k.sq,.ints ns⟩⟩
 | _=>cases hd
def Zj8 (as bs:List PyData):List PyData:=(as.zip bs).map fun x=>.tuple [x.1,x.2]
theorem Zlf {as bs:List PyData}  {d:PyData} (h:(Zj8 as bs)[i]? = some d):∃ x y,as[i]? = some x/\bs[i]? = some y/\d = .tuple [x,y]:=by
 unfold Zj8 at h
 rw [List.getElem?_map] at h
 cases e:(as.zip bs)[i]? with
 | none=>rw [e] at h; cases h
 | some z =>
  rw [e] at h
  cases h
  obtain ⟨h1,h2⟩:=List.getElem?_zip_eq_some.mp e
  exact ⟨z.1,z.2,h1,h2,rfl⟩
theorem Zpy {as bs:List PyData}  (h:(Zj8 as bs)[i]? = none):as.length <= i\/bs.length <= i:=by
 unfold Zj8 at h
 have:=List.getElem?_eq_none_iff.mp h
 simp at this
 omega
@[simp] theorem Zv6 (as bs:List PyData):(Zj8 as bs).length = min as.length bs.length:=by simp [Zj8]
end
end L2
namespace L2
open PySem PySem.Spec PyProof.Rows
section
variable   {c1 c2 c3:Bool} {a:Expr} {mc:MEt}  {f g:Int→Int→Bool}
def Zgo (f g:Int→Int→Bool) (ma mb mc:MEt):MEt:=fun δ K=>ma δ fun x δ1=>mb δ1 fun y δ2=>asI x.data fun i=>asI y.data fun j=>if f i j = true then mc δ2 fun z δ3=>asI z.data fun k=>K (.fz (.bool (g j k))) δ3 else K (.fz (.bool false)) δ2
theorem Zty  (ha:SE G io true c1 ta ma) (hb:SE G io true c2 tb mb) (hc:SE G io true c3 tc mc):SE G io true true (Zpx (rI0 fun i j=>.bl (f i j)) (rI0 fun i j=>.bl (g i j)) ta tb tc) (Zgo f g ma mb mc):=by
 intro C H σ δ fp ex K Q R h k
 refine ha.pureAfter R h fun H1 x u R1 s1 q1 h1=>?_
 refine hb.pureAfter R1 h1 fun H2 y v R2 s2 q2 h2=>?_
 obtain ⟨i,rfl,h2⟩:=q1.intInv h2
 obtain ⟨j,rfl,h2⟩:=q2.intInv h2
 refine ⟨i,j,rfl,rfl,f i j,rfl,?_⟩
 by_cases hf:f i j = true
 .rw [if_pos hf] at h2 |-
  refine hc.pureAfter R2 h2 fun H3 z w R3 s3 q3 h3=>?_
  obtain ⟨l,rfl,h3⟩:=q3.intInv h3
  have s13:Same H H3:=(s1.trans s2).trans s3
  exact ⟨j,l,rfl,rfl,k H3 _ _ δ fp [] (.fz R3 (.same s13 s13.al) (.bl _)) h3⟩
 .rw [if_neg hf] at h2 |-
  have s12:Same H H2:=s1.trans s2
  exact k H2 _ _ δ fp [] (.fz R2 (.same s12 s12.al) (.bl _)) h2
theorem Zxm  (ho:OpR X (compareOp op) (rI0 fun i j=>.bl (f i j))) (ho':OpR X (compareOp op') (rI0 fun i j=>.bl (g i j))) (ha:ME X io true c1 a ma) (hb:ME X io true c2 b mb) (hc:ME X io true c3 e mc)
  (hm:lastMarks [op,op'] [b,e] = false:=by with_unfolding_all rfl):ME X io true true (.Compare a [op,op'] [b,e] pos) (Zgo f g ma mb mc):=by
 obtain ⟨_,A,sa⟩:=ha
 obtain ⟨_,B,sb⟩:=hb
 obtain ⟨_,D,sc⟩:=hc
 exact ⟨_,Zrq ho ho' A B D hm,Zty sa sb sc⟩
theorem Zsf  (ho:OpR X (compareOp op) (rI0 fun i j=>.bl (f i j))) (ho':OpR X (compareOp op') (rI0 fun i j=>.bl (g i j))) (ha:ME X io true c1 a ma) (hb:ME X io true c2 b mb) (hc:ME X io true c3 e mc)
  (hm:lastMarks [op,op'] [b,e] = false:=by with_unfolding_all rfl):MT X io true (.Compare a [op,op'] [b,e] pos) (fun δ K=>Zgo f g ma mb mc δ (kB K)):=by
 obtain ⟨_,A,sa⟩:=ha
 obtain ⟨_,B,sb⟩:=hb
 obtain ⟨_,D,sc⟩:=hc
 exact ⟨_,Zr3 ho ho' A B D hm,Z4f (Zty sa sb sc)⟩
end
end L2
variable {pe ci c2:Bool}{mj:MEt}{pl:Pos}{tk:Tok}
namespace L2
open PySem PySem.Spec PyProof.Rows
section
variable    {a:Expr}  
end
end L2
namespace L2
open PySem PySem.Spec PyProof.Rows
end L2
namespace L2
open PySem PySem.Spec PyProof.Rows PySem.SeqAt
section
variable    {a:Expr}   {pr:Pos}
end
section
variable    {a:Expr}   {pr:Pos}
end
end L2
namespace L2
open PySem PySem.Spec PyProof.Rows
section
variable    {a:Expr}  
end
end L2
namespace L2
open PySem PySem.Spec PyProof.Rows
structure Apart (X:Cx) (pins:List (Addr × Obj)) (H:Hp) (b:Addr):Prop where
 fr:H b = none
 new:X.s₀.heap.get? b = none
 loc:b ≠ X.env.locals
 cel:∀ x c,X.env.cells.lookup x = some c→c ≠ b
 pin:∀ p ∈ X.pn ++ pins,p.1 ≠ b
section
variable   {σ:St}    {b:Addr}
def Fl (ap:Addr→Prop) (C a:Addr) (fl:Value) (h:Heap):Prop:=∃ a0 oe vs T oT ts,h.get? a = some oe/\(oe.cls = .ref C/\vs[0]? = some a0)/\oe.data = .fields vs/\vs[1]? = some (.ref T)/\T ≠ a/\h.get? T = some oT/\oT.data = .fields ts/\ts[3]? = some fl/\ap a/\ap T
def Fl0 (ap:Addr→Prop) (C a:Addr) (h:Heap):Prop:=∃ a0 oe vs,h.get? a = some oe/\(oe.cls = .ref C/\vs[0]? = some a0)/\oe.data = .fields vs/\vs[1]? = some .none/\ap a
def FlA (ap:Addr→Prop) (fl:Value) (C a:Addr) (h:Heap):Prop:=Fl ap C a .none h\/Fl0 ap C a h\/Fl ap C a fl h
section
variable    {Q:Unit→Shared→Prop} 
end
end
end L2
namespace L2
open PySem PySem.Spec PyProof.Rows
def Z2p (K:PySem.W.Frag) (C:Addr):Prop:=PySem.W.excIn K C [.type "ValueError", .type "Exception", .type "BaseException", .type "object"] "ValueError.__new__" = true
abbrev MXt:=Zc→(Addr→Zc→Prop)→Prop
def XW (X:Cx) (C:MC X.K) (io:List Nat) (pins:List (Addr × Obj)) (ex:Addr→Prop) (H:Hp) (fp:Fp) (k:Addr→Zc→Prop) (e:Value) (s':Shared):Prop :=
 ∃ a cl σ' H' δ' fp',e = .ref a/\Inv X pins σ' H' s'/\FlA (Apart X pins H') (rawInt X.env.locals) cl a s'.heap/\Rel C io H' σ' δ' fp' ex/\Kp H fp H' fp'/\k cl δ'
def XS (X:Cx) (io:List Nat) (st:Stmt) (m:MXt):Prop:=∀ (C:MC X.K) (pins:List (Addr × Obj)) (s:Shared) (σ:St) (H:Hp) (δ:Zc) (fp:Fp) (ex:Addr→Prop) (k:Addr→Zc→Prop),Inv X pins σ H s→Rel C io H σ δ fp ex→m δ k →
 wpAny (model X.prog X.w) X.A (exec st X.env) (fun _ _=>False) (XW X C io pins ex H fp k) s
def XSs (X:Cx) (io:List Nat) (sts:List Stmt) (m:MXt):Prop:=∀ (C:MC X.K) (pins:List (Addr × Obj)) (s:Shared) (σ:St) (H:Hp) (δ:Zc) (fp:Fp) (ex:Addr→Prop) (k:Addr→Zc→Prop),Inv X pins σ H s→Rel C io H σ δ fp ex→m δ k →
 wpAny (model X.prog X.w) X.A (execs sts X.env) (fun _ _=>False) (XW X C io pins ex H fp k) s
section
variable       {m:MXt}   {a b:List Stmt} {u:MSt} {w v:MXt} {mt:MTt}  
end
end L2
namespace L2
open PySem PySem.Spec PyProof.Rows
section
variable     {base:Heap}
end
section
variable        {k:Nat} {f:Addr} {fd:FuncData}  
end
section
variable   {σ:St}   
abbrev Cx.suite (X:Cx) (a:Addr):Cx:={ X with A:=X.A.mark (some (.ref a)),calm:=false }
end
theorem Rel.forget  {C:MC G} {io:List Nat}  {σ:St}     (R:Rel C io H σ δ fp ex) (hio:i ∉ io):∃ fp',Rel C io H (σ.set i none) (δ.set i none) fp' ex/\Kp H fp H fp':=by
 have get:∀ j (t':OT),(δ.set i none)[j]? = some (some t')→j ≠ i/\δ[j]? = some (some t'):=fun j t' e=>by
  by_cases ej:j = i
  .subst ej
   have hl:j < δ.length:=by simpa using (List.getElem?_eq_some_iff.mp e).1
   rw [List.getElem?_set_self hl] at e; cases e
  .rw [List.getElem?_set_ne (Ne.symm ej)] at e; exact ⟨ej,e⟩
 have sub:∀ j a,a ∈ fpu fp i [] j→j ≠ i/\a ∈ fp j:=fun j a m=>by
  by_cases ej:j = i
  .subst ej; rw [Zx] at m; exact nomatch m
  .rw [Yh ej] at m; exact ⟨ej,m⟩
 have lw:∀ a,Lf C fp ex a→Lf C (fpu fp i []) ex a:=fun a l=>⟨fun ⟨j,z⟩=>l.1 ⟨j,(sub j a z).2⟩,l.2⟩
 refine ⟨fpu fp i [],⟨by rw [List.length_set,List.length_set]; exact R.len,fun j t' e=>?_,fun j h=>?_,fun j=>?_,fun j k a h1 h2=>R.dj j k a (sub j a h1).2 (sub k a h2).2,fun j a h z=>R.dx j a (sub j a h).2 z,R.xa,R.fr,R.al,fun j a h=>R.new j a (sub j a h).2,fun j h=>?_⟩,fun b o e _=>e,fun z=>(nomatch z),fun a ⟨j,z⟩=>.inl ⟨j,(sub j a z).2⟩,fun b e=>e⟩
 .obtain ⟨ej,e⟩:=get j t' e
  obtain ⟨w,e1,o⟩:=R.own j t' e
  exact ⟨w,by rw [List.getElem?_set_ne (Ne.symm ej)]; exact e1,by rw [Yh ej]; exact o.wide fun a l _=>lw a l⟩
 .by_cases ej:j = i
  .subst ej; rw [Zx]
  .rw [Yh ej]
   exact R.emp j fun t' z=>h t' (by rw [List.getElem?_set_ne (Ne.symm ej)]; exact z)
 .by_cases ej:j = i
  .subst ej; rw [Zx]; exact .nil
  .rw [Yh ej]; exact R.nd j
 .rw [List.getElem?_set_ne (fun z=>hio (by rw [z]; exact h))]; exact R.io j h
end L2
namespace L2
open PySem PySem.Spec PyProof.Rows
section
variable    {n:Str} {Dc:Addr} {b₀:Stmt} {suite:List Stmt} {hpos np:Pos} {u h:MSt} {x:MXt}
end
end L2
namespace L2
open PySem PySem.Spec PyProof.Rows
theorem Zk6 (b:Bool) (k:Bool→Prop):asB (.bool b) k = k b:=rfl
inductive Z8i:V→Value→Prop where
 | own (D:Addr):Z8i (.ref D) (.ref D)
 | ty (T:String):Z8i (.ty T) (.type T)
inductive ClsVs:List V→List Value→Prop where
 | nil:ClsVs [] []
 | cons {v:V} {c:Value} {vs:List V} {cs:List Value}:Z8i v c→ClsVs vs cs→ClsVs (v :: vs) (c :: cs)
theorem ClsVs.length:∀ {vs:List V} {cs:List Value},ClsVs vs cs→vs.length = cs.length
 | _,_,.nil=>rfl
 | _,_,.cons _ t=>by simp [t.length]
section
variable    {a:Expr}  
end
end L2
namespace L2
open PySem PySem.Spec PyProof.Rows PySem.P
section
variable      {e t0:Addr} {o:Obj} {vs:Array Value}  {m:Str} 
structure Yb4 (s:Shared) (e C t0:Addr) (m:Str) (tk:Tok):Prop where
 ob:∃ o vs,s.heap.get? e = some o/\o.cls = .ref C/\o.data = .fields vs/\vs[0]? = some (.ref t0)
 tx:s.heap.TupAt t0 [.str m tk]
end
section
variable   {j:Str} {jk:Nat} {np kp p1:Pos}
end
end L2
namespace L2
open PySem PySem.Spec PyProof.Rows
end L2
namespace L2
open PySem PySem.Spec PyProof.Rows
theorem Rel.forget2 {io:List Nat} {C:MC G}  {σ σ':St}     (R:Rel C io H σ δ fp ex) (hio:i ∉ io) (hl:σ'.length = σ.length) (hσ:∀ q,q ≠ i→σ'[q]? = σ[q]?) :
  ∃ fp',Rel C io H σ' (δ.set i none) fp' ex/\Kp H fp H fp':=by
 obtain ⟨fp',R',K'⟩:=R.forget hio
 refine ⟨fp',⟨by rw [hl,<- R'.len,List.length_set],fun j t e=>?_,R'.emp,R'.nd,R'.dj,R'.dx,R'.xa,R'.fr,R'.al,R'.new,fun j hj=>?_⟩,K'⟩
 .obtain ⟨v,e1,o⟩:=R'.own j t e
  have ej:j ≠ i:=fun z=>by
   subst z
   by_cases q:j < δ.length
   .rw [List.getElem?_set_self q] at e; cases e
   .rw [List.getElem?_eq_none (by simpa using Nat.le_of_not_lt q)] at e; cases e
  rw [List.getElem?_set_ne (Ne.symm ej)] at e1
  exact ⟨v,by rw [hσ j ej]; exact e1,o⟩
 .have ej:j ≠ i:=fun z=>hio (z ▸ hj)
  rw [hσ j ej]
  exact R.io j hj
section
variable    {pt:Pos}  
end
end L2
namespace L2
open PySem PySem.Spec PyProof.Rows
section
variable   {σ:St}      {Q:Unit→Shared→Prop} {L:Addr} {fl:Value}
end
end L2
namespace L2
open PySem PySem.Spec PyProof.Rows
section
variable       {g:MGt} {u:MSt} {x:MXt} 
end
end L2
namespace L2
open PySem PySem.Spec PyProof.Rows
abbrev FE:=Zc→Option (OT × Zc)
abbrev FA:=Zc→Option (List OT × Zc)
abbrev FT:=Zc→Option (Bool × Zc)
abbrev FI:=Zc→Option (List PyData × Zc)
abbrev FO:=Zc→Option (Option Int × Zc)
abbrev FG:=PyData→Zc→Option Zc
abbrev FGs:=List PyData→Zc→Option Zc
def o2  (f:Zc→Option (α × Zc)):Zc→(α→Zc→Prop)→Prop:=fun δ K=>∃ r δ',f δ = some (r,δ')/\K r δ'
def oG (g:FG):MGt:=fun d δ k=>∃ δ',g d δ = some δ'/\k δ'
def oGs (g:FGs):Zq2:=fun d δ k=>∃ δ',g d δ = some δ'/\k δ'
section
variable      {m':MEt} {mr':MAt} {mt mt':MTt} {mi':MIt} {g g':MGt} {gs':Zq2} {mo mo':MOt}   {u u':MSt} {eo:Option Expr}
theorem ME.weak (h:ME X io p c e m) (w:∀ δ K,m' δ K→m δ K):ME X io p c e m':=let ⟨t,A,s⟩:=h; ⟨t,A,fun C H σ δ fp ex K Q R h k=>s C H σ δ fp ex K Q R (w δ K h) k⟩
theorem MA.weak (h:MA X io p c es mr) (w:∀ δ K,mr' δ K→mr δ K):MA X io p c es mr':=let ⟨t,A,s⟩:=h; ⟨t,A,fun C H σ δ fp ex K Q R h k=>s C H σ δ fp ex K Q R (w δ K h) k⟩
theorem MT.weak (h:MT X io p e mt) (w:∀ δ K,mt' δ K→mt δ K):MT X io p e mt':=let ⟨t,A,s⟩:=h; ⟨t,A,fun C H σ δ fp ex K Q R h k=>s C H σ δ fp ex K Q R (w δ K h) k⟩
theorem MW.weak (h:MW X io p e mt) (w:∀ δ K,mt' δ K→mt δ K):MW X io p e mt':=let ⟨t,A,s⟩:=h; ⟨t,A,fun C H σ δ fp ex K Q R h k=>s C H σ δ fp ex K Q R (w δ K h) k⟩
theorem MIfs.weak (h:MIfs X io p es mt) (w:∀ δ K,mt' δ K→mt δ K):MIfs X io p es mt':=let ⟨t,A,s⟩:=h; ⟨t,A,fun C H σ δ fp ex K Q R h k=>s C H σ δ fp ex K Q R (w δ K h) k⟩
theorem MI.weak (h:MI X io p c tg e mi) (w:∀ δ K,mi' δ K→mi δ K):MI X io p c tg e mi':=let ⟨t,A,s⟩:=h; ⟨t,A,fun C H σ δ fp ex K Q R h k=>s C H σ δ fp ex K Q R (w δ K h) k⟩
theorem MO.weak (h:MO X io p eo mo) (w:∀ δ K,mo' δ K→mo δ K):MO X io p eo mo':=let ⟨t,A,s⟩:=h; ⟨t,A,fun C H σ δ fp ex K Q R h k=>s C H σ δ fp ex K Q R (w δ K h) k⟩
theorem MG.weak (h:MG X io c tg g) (w:∀ d δ K,g' d δ K→g d δ K):MG X io c tg g':=let ⟨t,A,s⟩:=h; ⟨t,A,fun C H σ δ fp ex v d k Q R q h kk=>s C H σ δ fp ex v d k Q R q (w d δ k h) kk⟩
theorem MGs.weak (h:MGs X io c es gs) (w:∀ d δ K,gs' d δ K→gs d δ K):MGs X io c es gs':=let ⟨t,A,s⟩:=h; ⟨t,A,fun C H σ δ fp ex v d k Q R q h kk=>s C H σ δ fp ex v d k Q R q (w d δ k h) kk⟩
theorem MS.weak (h:MS X io st u) (w:∀ D δ,u' D δ→u D δ):MS X io st u':=let ⟨t,A,s⟩:=h; ⟨t,A,fun C H σ δ fp ex D D' R h E=>s C H σ δ fp ex D D' R (w D δ h) E⟩
theorem MSs.weak (h:MSs X io sts u) (w:∀ D δ,u' D δ→u D δ):MSs X io sts u':=let ⟨t,A,s⟩:=h; ⟨t,A,fun C H σ δ fp ex D D' R h E=>s C H σ δ fp ex D D' R (w D δ h) E⟩
end
def Zv (i:Nat):FE:=fun δ=>match δ[i]? with | some (some (.fz d))=>some (.fz d,δ) | _=>none
def Ztp (i:Nat):FE:=fun δ=>match δ[i]? with | some (some t)=>some (.fz t.data,δ) | _=>none
def fC (d:PyData):FE:=fun δ=>some (.fz d,δ)
def Zd (g:PyData→PyData→Option PyData) (a b:FE):FE:=fun δ=>(a δ).bind fun p=>(b p.2).bind fun q=>(g p.1.data q.1.data).bind fun d=>some (.fz d,q.2)
def Zbz (g:PyData→PyData→Option OT) (a b:FE):FE:=fun δ=>(a δ).bind fun p=>(b p.2).bind fun q=>(g p.1.data q.1.data).bind fun d=>some (d,q.2)
def fUn (g:PyData→Option PyData) (a:FE):FE:=fun δ=>(a δ).bind fun p=>(g p.1.data).bind fun d=>some (.fz d,p.2)
def Zjh (a b:FE):FE:=fun δ=>(a δ).bind fun p=>match p.1.data with | .bool true=>b p.2 | .bool false=>some (.fz (.bool false),p.2) | _=>none
def fOr (a b:FE):FE:=fun δ=>(a δ).bind fun p=>match p.1.data with | .bool true=>some (.fz (.bool true),p.2) | .bool false=>b p.2 | _=>none
def fIf (t:FT) (a b:FE):FE:=fun δ=>(t δ).bind fun p=>if p.1 = true then a p.2 else b p.2
def tV (e:FE):FT:=fun δ=>(e δ).bind fun p=>match p.1 with | .fz (.bool b)=>some (b,p.2) | _=>none
def tNo (t:FT):FT:=fun δ=>(t δ).bind fun p=>some (!p.1,p.2)
def tAn (t u:FT):FT:=fun δ=>(t δ).bind fun p=>if p.1 = true then u p.2 else some (false,p.2)
def tO (t u:FT):FT:=fun δ=>(t δ).bind fun p=>if p.1 = true then some (true,p.2) else u p.2
def tD (e:FE):FT:=fun δ=>(e δ).bind fun p=>(Zr5 p.1.data).bind fun b=>some (b,p.2)
def Yb:FA:=fun δ=>some ([],δ)
def Zf (e:FE) (a:FA):FA:=fun δ=>(e δ).bind fun p=>(a p.2).bind fun q=>some (p.1 :: q.1,q.2)
def Zlm (a:FA):FE:=fun δ=>(a δ).bind fun p=>if p.1.length <= sizeLine then some (.fz (.tuple (OT.datas p.1)),p.2) else none
def Zmh (a:FA):FE:=fun δ=>(a δ).bind fun p=>if p.1.length <= sizeLine then some (.nd p.1,p.2) else none
def Z50 (e:FE):FE:=fun δ=>(e δ).bind fun p=>if J8 p.1.data = true then some (.fz p.1.data,p.2) else none
def Z1c (e:FE):FE:=fun δ=>(e δ).bind fun p=>if Zxs p.1 = true then some (p.1,p.2) else none
inductive RF where
 | ok (r:OT)
 | exn (c:Str)
 | bad
abbrev FD:=List PyData→RF
abbrev FIO:=OT→List PyData→Option (OT × OT)
def Zw (F:FD) (a:FA):FE:=fun δ=>(a δ).bind fun p=>match F (OT.datas p.1) with | .ok r=>some (r,p.2) | _=>none
def Zud (i:Nat) (F:FIO) (a:FA):FE:=fun δ=>match δ[i]? with
 | some (some _)=>(a δ).bind fun p=>match p.2[i]? with
  | some (some t)=>(F t (OT.datas p.1)).bind fun q=>some (q.1,p.2.set i (some q.2))
  | _=>none
 | _=>none
def Zc9 (g:List PyData→Option PyData) (a:FA):FE:=fun δ=>(a δ).bind fun p=>(g (OT.datas p.1)).bind fun d=>some (.fz d,p.2)
def fBl (g:List PyData→Option OT) (a:FA):FE:=fun δ=>(a δ).bind fun p=>(g (OT.datas p.1)).bind fun d=>some (d,p.2)
def Ze5 (T:String) (e:FE):FE:=fun δ=>(e δ).bind fun p=>if Zfm p.1.data = true then none else some (.fz (.bool (Zj4 T p.1.data)),p.2)
def oN:FO:=fun δ=>some (none,δ)
def oI (e:FE):FO:=fun δ=>(e δ).bind fun p=>match p.1.data with | .int i=>some (some i,p.2) | _=>none
def fSl (e:FE) (lo hi:FO):FE:=fun δ=>(e δ).bind fun p=>(lo p.2).bind fun q=>(hi q.2).bind fun r=>match p.1.data with | .list ds=>some (.nd ((cutD ds q.1 r.1).map OT.fz),r.2) | _=>none
def Zfe (f g:Int→Int→Bool) (a b c:FE):FE:=fun δ=>(a δ).bind fun p=>(b p.2).bind fun q=>match p.1.data,q.1.data with
 | .int i,.int j=>if f i j = true then (c q.2).bind fun r=>match r.1.data with | .int k=>some (.fz (.bool (g j k)),r.2) | _=>none else some (.fz (.bool false),q.2)
 | _,_=>none
def Zcl (e:FE):FI:=fun δ=>(e δ).bind fun p=>match p.1.data with | .list ds=>some (ds,p.2) | _=>none
def iTp (e:FE):FI:=fun δ=>(e δ).bind fun p=>match p.1.data with | .tuple ds=>some (ds,p.2) | _=>none
def rOk (j:Int):Bool:=decide (-(2 ^ 62) <= j) && decide (j < 2 ^ 62)
theorem Zyz {j:Int} (h:rOk j = true):-(2 ^ 62) <= j/\j < 2 ^ 62:=by
 unfold rOk at h
 rw [Bool.and_eq_true] at h
 exact ⟨of_decide_eq_true h.1,of_decide_eq_true h.2⟩
theorem Z4e {j:Int} (h0:-1000000 <= j) (h1:j <= 1000000):rOk j = true:=by
 unfold rOk
 rw [decide_eq_true (show -(2 ^ 62) <= j by omega),decide_eq_true (show j < 2 ^ 62 by omega)]; rfl
def iRa (a:FA):FI:=fun δ=>(a δ).bind fun p=>match OT.datas p.1 with | [.int j]=>if rOk j = true then some (Zmc 0 j.toNat,p.2) else none | _=>none
def iRb (a:FA):FI:=fun δ=>(a δ).bind fun p=>match OT.datas p.1 with | [.int i,.int j]=>if (rOk i && rOk j) = true then some (Zmc i (j - i).toNat,p.2) else none | _=>none
def Z17 (a:FA):FI:=fun δ=>(a δ).bind fun p=>match OT.datas p.1 with | [.list as,.list bs]=>some (Zj8 as bs,p.2) | _=>none
def gNm (i:Nat):FG:=fun d δ=>some (δ.set i (some (.fz d)))
def Yb2 (i:Nat):FG:=fun d δ=>if J8 d = true then some (δ.set i (some (.fz d))) else none
def gNl:FGs:=fun ds δ=>match ds with | []=>some δ | _=>none
def gCn (g:FG) (gs:FGs):FGs:=fun ds δ=>match ds with | d :: r=>(g d δ).bind (gs r) | []=>none
def gTp (n:Nat) (gs:FGs):FG:=fun d δ=>match d with | .tuple ds=>if ds.length = n then gs ds δ else none | _=>none
def gLs (n:Nat) (gs:FGs):FG:=fun d δ=>match d with | .list ds=>if ds.length = n then gs ds δ else none | _=>none
def compLoop (g:FG) (t:FT) (e:FE):List PyData→Zc→Option (List OT × Zc)
 | [],δ=>some ([],δ)
 | d :: ds,δ=>(g d δ).bind fun δ1=>(t δ1).bind fun p=>if p.1 = true then (e p.2).bind fun q=>(compLoop g t e ds q.2).bind fun z=>some (q.1 :: z.1,z.2) else compLoop g t e ds p.2
def Y4 (n:Nat) (caps:List Nat) (it:FI) (g:FG) (t:FT) (e:FE):FE:=fun δ=>(it δ).bind fun p=>if p.1.length <= sizeLine then (compLoop g t e p.1 (blk n caps p.2)).bind fun z=>some (.nd z.1,p.2) else none
def Zer:FT:=fun δ=>some (true,δ)
inductive RS where
 | nx (δ:Zc)
 | rt (r:OT) (δ:Zc)
 | bk (δ:Zc)
 | ct (δ:Zc)
 | ex (c:Str) (δ:Zc)
 | bad
abbrev FS:=Zc→RS
def RS.fits (D:Zf1):RS→Prop
 | .nx δ=>D.nx δ
 | .rt r δ=>D.rt r δ
 | .bk δ=>D.bk δ
 | .ct δ=>D.ct δ
 | _=>False
def oS (f:FS):MSt:=fun D δ=>(f δ).fits D
def xS (K:PySem.W.Frag) (f:FS):MXt:=fun δ k=>∃ c C δ',f δ = .ex c δ'/\ClsAt K c C/\k C δ'
def Yd (f g:FS):FS:=fun δ=>match f δ with | .nx δ'=>g δ' | r=>r
def fNx:FS:=fun δ=>.nx δ
def Ybw:FS:=fun δ=>.bk δ
def Yco:FS:=fun δ=>.ct δ
def wE (e:FE) (k:OT→Zc→RS):FS:=fun δ=>match e δ with | some (r,δ')=>k r δ' | none=>.bad
def wX (F:FD) (a:FA) (k:OT→Zc→RS):FS:=fun δ=>match a δ with
 | some (rs,δ1)=>match F (OT.datas rs) with
  | .ok r=>k r δ1
  | .exn c=>.ex c δ1
  | .bad=>.bad
 | none=>.bad
def Zs9:OT→Zc→RS:=fun _ δ=>.nx δ
def Wl:OT→Zc→RS:=fun r δ=>.rt r δ
def Z7a:OT→Zc→RS:=fun r δ=>if J8 r.data = true then .rt (.fz r.data) δ else .bad
def Zas (i:Nat):OT→Zc→RS:=fun r δ=>.nx (δ.set i (some (.fz r.data)))
def Zre (i:Nat):OT→Zc→RS:=fun r δ=>if J8 r.data = true then .nx (δ.set i (some (.fz r.data))) else .bad
def Zek (i:Nat):OT→Zc→RS:=fun r δ=>.nx (δ.set i (some r))
def Yb3 (g:FG):OT→Zc→RS:=fun r δ=>match g r.data δ with | some δ'=>.nx δ' | none=>.bad
def Z6t:FS:=fun δ=>.rt (.fz .none) δ
def Zmd (i:Nat):FS:=fun δ=>match δ[i]? with | some (some t)=>.rt t (δ.set i none) | _=>.bad
def W6 (t:FT) (u w:FS):FS:=fun δ=>match t δ with | some (b,δ')=>if b = true then u δ' else w δ' | none=>.bad
def Zhz (c:Str):FS:=fun δ=>.ex c δ
def Zah (i:Nat) (e:FE):FS:=fun δ=>match δ[i]? with
 | some (some (.nd _))=>wE e (fun r δ1=>match δ1[i]? with
  | some (some (.nd ts))=>if ts.length < sizeLine then .nx (δ1.set i (some (.nd (ts ++ [.fz r.data])))) else .bad
  | _=>.bad) δ
 | _=>.bad
def Zkv (i:Nat) (e:FE):FS:=fun δ=>match δ[i]? with
 | some (some (.nd _))=>wE e (fun r δ1=>match δ1[i]? with
  | some (some (.nd ts))=>if ts.length < sizeLine then .nx (δ1.set i (some (.nd (ts ++ [r])))) else .bad
  | _=>.bad) δ
 | _=>.bad
def Yax (i:Nat) (e j:FE):FS:=wE e fun r δ1=>match δ1[i]? with
 | some (some (.nd ts))=>wE j (fun n _=>match n.data with
  | .int k=>match ixN ts.length k with
   | some j=>.nx (δ1.set i (some (.nd (ts.set j (.fz r.data)))))
   | none=>.bad
  | _=>.bad) δ1
 | _=>.bad
def Zc2 (i:Nat) (u:FS):FS:=fun δ=>match δ[i]? with | some (some t)=>u (δ.set i (some (.fz t.data))) | _=>.bad
def forLoop (g:FG) (u:FS):List PyData→Zc→RS
 | [],δ=>.nx δ
 | d :: ds,δ=>match g d δ with
  | none=>.bad
  | some δ1=>match u δ1 with
   | .nx δ2=>forLoop g u ds δ2
   | .ct δ2=>forLoop g u ds δ2
   | .bk δ2=>.nx δ2
   | r=>r
def Zea (it:FI) (g:FG) (u:FS):FS:=fun δ=>match it δ with | some (ds,δ1)=>forLoop g u ds δ1 | none=>.bad
def whileLoop (t:FT) (u:FS):Nat→Zc→RS
 | 0,_=>.bad
 | n + 1,δ=>match t δ with
  | none=>.bad
  | some (b,δ1)=>if b = true then match u δ1 with
   | .nx δ2=>whileLoop t u n δ2
   | .ct δ2=>whileLoop t u n δ2
   | .bk δ2=>.nx δ2
   | .rt r δ2=>.rt r δ2
   | _=>.bad
   else .nx δ1
open Classical in
def Zgc (t:FT) (u:FS):FS:=fun δ=>if h:∃ n,whileLoop t u n δ ≠ .bad then whileLoop t u (Classical.choose h) δ else .bad
def Jq (n:Nat) (ds:List PyData):Zc:=ds.map (fun d=>some (.fz d)) ++ List.replicate (n - ds.length) none
def Z68 (n:Nat) (t:OT) (ds:List PyData):Zc:=some t :: (ds.map (fun d=>some (.fz d)) ++ List.replicate (n - (ds.length + 1)) none)
def RS.told:RS→RF
 | .nx _=>.ok (.fz .none)
 | .rt r _=>.ok r
 | .ex c _=>.exn c
 | _=>.bad
def W5 (np n:Nat) (S:FS):FD:=fun ds=>if ds.length = np then (S (Jq n ds)).told else .bad
end L2
namespace L2
open PySem PySem.Spec PyProof.Rows
def sD (F:FD):List PyData→(OT→Prop)→Prop:=fun ds k=>∃ r,F ds = .ok r/\k r
theorem bs  {x:Option α} {f:α→Option β} {b:β} (h:x.bind f = some b):∃ a,x = some a/\f a = some b:=Option.bind_eq_some_iff.mp h
end L2
variable {ra:FA}{F:FD}{me fa fb fc:FE}{it:FI}{pr:Pos}
namespace L2
open PySem PySem.Spec PyProof.Rows
section
variable        {eo:Option Expr}   {ta tb:FT} 
theorem Yq (h:ME X io p c e (Z4p i)):ME X io p c e (o2 (Zv i)):=h.weak fun δ K q91=>by
 obtain ⟨r,δ',h,k⟩:=q91
 unfold Zv at h; unfold Z4p
 split at h
 .rename_i d hd; (try rw [hd]); cases h; exact k
 .cases h
theorem Z33 (h:ME X io p c e (Z5e i)):ME X io p c e (o2 (Ztp i)):=h.weak fun δ K q92=>by
 obtain ⟨r,δ',h,k⟩:=q92
 unfold Ztp at h; unfold Z5e
 split at h
 .rename_i d hd; (try rw [hd]); cases h; exact k
 .cases h
theorem Jz {d:PyData} (h:ME X io p c e (mC d)):ME X io p c e (o2 (fC d)):=h.weak fun δ K ⟨r,δ',h,k⟩=>by cases h; exact k
def ByS (g:PyData→PyData→Option PyData) (rp:PyData→PyData→(PyData→Prop)→Prop):Prop:=∀ d e r k,g d e = some r→k r→rp d e k
def ByO (g:PyData→PyData→Option OT) (rp:PyData→PyData→(OT→Prop)→Prop):Prop:=∀ d e r k,g d e = some r→k r→rp d e k
theorem Zt3 {g rp} (G:ByS g rp)  {K:OT→Zc→Prop} (h:o2 (Zd g fa fb) δ K):Zju rp (o2 fa) (o2 fb) δ K:=by
 obtain ⟨r,δ',h,k⟩:=h
 obtain ⟨⟨x,δ1⟩,h1,h⟩:=bs h
 obtain ⟨⟨y,δ2⟩,h2,h⟩:=bs h
 obtain ⟨d,h3,h⟩:=bs h
 cases h
 exact ⟨x,δ1,h1,y,δ2,h2,G _ _ _ _ h3 k⟩
theorem Z7 {g rp} (G:ByS g rp) (h:ME X io p c e (Zju rp (o2 fa) (o2 fb))):ME X io p c e (o2 (Zd g fa fb)):=h.weak fun δ K z=>Zt3 G z
theorem Z8x {f:FE}  {K:Bool→Zc→Prop} (h:o2 (tV f) δ K):o2 f δ (kB K):=by
 obtain ⟨b,δ',h,k⟩:=h
 obtain ⟨⟨x,δ1⟩,h1,h⟩:=bs h
 refine ⟨x,δ1,h1,?_⟩
 unfold kB
 try dsimp only at h |-
 split at h
 .cases h; exact k
 .cases h
theorem Zb1 {g rp} (G:ByS g rp) (h:MT X io p e (fun δ K=>Zju rp (o2 fa) (o2 fb) δ (kB K))):MT X io p e (o2 (tV (Zd g fa fb))):=h.weak fun δ K z=>Zt3 G (Z8x z)
theorem Zqu {g rp} (G:ByO g rp) (h:ME X io p c e (Z4x rp (o2 fa) (o2 fb))):ME X io p c e (o2 (Zbz g fa fb)):=h.weak fun δ K h=>by
 obtain ⟨r,δ',h,k⟩:=h
 obtain ⟨⟨x,δ1⟩,h1,h⟩:=bs h
 obtain ⟨⟨y,δ2⟩,h2,h⟩:=bs h
 obtain ⟨d,h3,h⟩:=bs h
 cases h
 exact ⟨x,δ1,h1,y,δ2,h2,G _ _ _ _ h3 k⟩
def Z34:PyData→Option PyData | .int i=>some (.int (-i)) | _=>none
def Z5f:PyData→Option PyData | .bool b=>some (.bool (!b)) | _=>none
theorem Z4h (h:ME X io p c e (Ya9 (o2 fa))):ME X io p c e (o2 (fUn Z34 fa)):=h.weak fun δ K h=>by
 obtain ⟨r,δ',h,k⟩:=h
 obtain ⟨⟨x,δ1⟩,h1,h⟩:=bs h
 obtain ⟨d,h3,h⟩:=bs h
 cases h
 refine ⟨x,δ1,h1,?_⟩
 dsimp only at h3 |-
 cases q:x.data <;> rw [q] at h3 <;> cases h3
 exact k
theorem Zqp (h:ME X io p c e (Z10 (o2 fa))):ME X io p c e (o2 (fUn Z5f fa)):=h.weak fun δ K h=>by
 obtain ⟨r,δ',h,k⟩:=h
 obtain ⟨⟨x,δ1⟩,h1,h⟩:=bs h
 obtain ⟨d,h3,h⟩:=bs h
 cases h
 refine ⟨x,δ1,h1,?_⟩
 dsimp only at h3 |-
 cases q:x.data <;> rw [q] at h3 <;> cases h3
 exact k
theorem Jg (h:ME X io p c e (Z00 (o2 fa) (o2 fb))):ME X io p c e (o2 (Zjh fa fb)):=h.weak fun δ K h=>by
 obtain ⟨r,δ',h,k⟩:=h
 obtain ⟨⟨x,δ1⟩,h1,h⟩:=bs h
 refine ⟨x,δ1,h1,?_⟩
 try dsimp only at h |-
 split at h
 .rename_i q; (try rw [q]); rw [Zk6,if_pos rfl]; exact ⟨r,δ',h,k⟩
 .rename_i q; (try rw [q]); cases h; rw [Zk6,if_neg Bool.false_ne_true]; exact k
 .cases h
theorem Z0i (h:ME X io p c e (Z99 (o2 fa) (o2 fb))):ME X io p c e (o2 (fOr fa fb)):=h.weak fun δ K h=>by
 obtain ⟨r,δ',h,k⟩:=h
 obtain ⟨⟨x,δ1⟩,h1,h⟩:=bs h
 refine ⟨x,δ1,h1,?_⟩
 try dsimp only at h |-
 split at h
 .rename_i q; (try rw [q]); cases h; rw [Zk6,if_pos rfl]; exact k
 .rename_i q; (try rw [q]); rw [Zk6,if_neg Bool.false_ne_true]; exact ⟨r,δ',h,k⟩
 .cases h
theorem Z2r (h:ME X io p c e (mIf (o2 ta) (o2 fa) (o2 fb))):ME X io p c e (o2 (fIf ta fa fb)):=h.weak fun δ K h=>by
 obtain ⟨r,δ',h,k⟩:=h
 obtain ⟨⟨x,δ1⟩,h1,h⟩:=bs h
 refine ⟨x,δ1,h1,?_⟩
 try dsimp only at h |-
 split at h
 .rename_i q; rw [if_pos q]; exact ⟨r,δ',h,k⟩
 .rename_i q; rw [if_neg q]; exact ⟨r,δ',h,k⟩
theorem Zvl (h:MT X io p e (Yaf (o2 ta))):MT X io p e (o2 (tNo ta)):=h.weak fun δ K h=>by
 obtain ⟨r,δ',h,k⟩:=h
 obtain ⟨⟨x,δ1⟩,h1,h⟩:=bs h
 cases h
 exact ⟨x,δ1,h1,k⟩
theorem Zuw (h:MW X io p e (Yap (o2 ta) (o2 tb))):MW X io p e (o2 (tAn ta tb)):=h.weak fun δ K h=>by
 obtain ⟨r,δ',h,k⟩:=h
 obtain ⟨⟨x,δ1⟩,h1,h⟩:=bs h
 refine ⟨x,δ1,h1,?_⟩
 try dsimp only at h |-
 split at h
 .rename_i q; rw [if_pos q]; exact ⟨r,δ',h,k⟩
 .rename_i q; rw [if_neg q]; cases h; exact k
theorem Zit (h:MW X io p e (mOr (o2 ta) (o2 tb))):MW X io p e (o2 (tO ta tb)):=h.weak fun δ K h=>by
 obtain ⟨r,δ',h,k⟩:=h
 obtain ⟨⟨x,δ1⟩,h1,h⟩:=bs h
 refine ⟨x,δ1,h1,?_⟩
 try dsimp only at h |-
 split at h
 .rename_i q; rw [if_pos q]; cases h; exact k
 .rename_i q; rw [if_neg q]; exact ⟨r,δ',h,k⟩
theorem We (h:MT X io p e (Z80 (o2 fa))):MT X io p e (o2 (tD fa)):=h.weak fun δ K h=>by
 obtain ⟨r,δ',h,k⟩:=h
 obtain ⟨⟨x,δ1⟩,h1,h⟩:=bs h
 obtain ⟨d,h3,h⟩:=bs h
 cases h
 refine ⟨x,δ1,h1,?_⟩
 dsimp only at h3 |-
 rw [h3]
 exact k
theorem Zgd (h:MA X io p c es Z90):MA X io p c es (o2 Yb):=h.weak fun δ K ⟨r,δ',h,k⟩=>by cases h; exact k
theorem Zvu (h:MA X io p c es (Z2d (o2 fa) (o2 ra))):MA X io p c es (o2 (Zf fa ra)):=h.weak fun δ K h=>by
 obtain ⟨r,δ',h,k⟩:=h
 obtain ⟨⟨x,δ1⟩,h1,h⟩:=bs h
 obtain ⟨⟨y,δ2⟩,h2,h⟩:=bs h
 cases h
 exact ⟨x,δ1,h1,y,δ2,h2,k⟩
theorem Z4b (h:ME X io p c e (Z9g (o2 ra))):ME X io p c e (o2 (Zlm ra)):=h.weak fun δ K h=>by
 obtain ⟨r,δ',h,k⟩:=h
 obtain ⟨⟨x,δ1⟩,h1,h⟩:=bs h
 refine ⟨x,δ1,h1,?_⟩
 dsimp only at h
 split at h
 .rename_i q; cases h; exact ⟨q,k⟩
 .cases h
theorem Z3k (h:ME X io p c e (Yau (o2 ra))):ME X io p c e (o2 (Zmh ra)):=h.weak fun δ K h=>by
 obtain ⟨r,δ',h,k⟩:=h
 obtain ⟨⟨x,δ1⟩,h1,h⟩:=bs h
 refine ⟨x,δ1,h1,?_⟩
 dsimp only at h
 split at h
 .rename_i q; cases h; exact ⟨q,k⟩
 .cases h
theorem Zjx  (h:ME X io p c e (Zya (sD F) (o2 ra))):ME X io p c e (o2 (Zw F ra)):=h.weak fun δ K h=>by
 obtain ⟨r,δ',h,k⟩:=h
 obtain ⟨⟨x,δ1⟩,h1,h⟩:=bs h
 refine ⟨x,δ1,h1,?_⟩
 dsimp only at h
 split at h
 .rename_i q; cases h; exact ⟨_,q,k⟩
 .cases h
theorem Ja {g rp} (G:∀ ds r k,g ds = some r→k r→rp ds k) (h:ME X io p c e (Z4v rp (o2 ra))):ME X io p c e (o2 (Zc9 g ra)):=h.weak fun δ K h=>by
 obtain ⟨r,δ',h,k⟩:=h
 obtain ⟨⟨x,δ1⟩,h1,h⟩:=bs h
 obtain ⟨d,h3,h⟩:=bs h
 cases h
 exact ⟨x,δ1,h1,G _ _ _ h3 k⟩
theorem Zl6 {g rp} (G:∀ ds r k,g ds = some r→k r→rp ds k) (h:ME X io p c e (mBl rp (o2 ra))):ME X io p c e (o2 (fBl g ra)):=h.weak fun δ K h=>by
 obtain ⟨r,δ',h,k⟩:=h
 obtain ⟨⟨x,δ1⟩,h1,h⟩:=bs h
 obtain ⟨d,h3,h⟩:=bs h
 cases h
 exact ⟨x,δ1,h1,G _ _ _ h3 k⟩
theorem Y8 {T:String} (h:ME X io p c e (Z8o T (o2 fa))):ME X io p c e (o2 (Ze5 T fa)):=h.weak fun δ K h=>by
 obtain ⟨r,δ',h,k⟩:=h
 obtain ⟨⟨x,δ1⟩,h1,h⟩:=bs h
 by_cases hf:Zfm x.data = true
 .have h':(if Zfm x.data = true then none else some (OT.fz (.bool (Zj4 T x.data)),δ1)) = some (r,δ'):=h
  rw [if_pos hf] at h'
  cases h'
 .have h':(if Zfm x.data = true then none else some (OT.fz (.bool (Zj4 T x.data)),δ1)) = some (r,δ'):=h
  rw [if_neg hf] at h'
  injection h' with h'
  injection h' with e1 e2
  subst e1 e2
  exact ⟨x,_,h1,Bool.eq_false_iff.mpr hf,k⟩
theorem Zxk (h:MO X io p eo Zn8):MO X io p eo (o2 oN):=h.weak fun δ K ⟨r,δ',h,k⟩=>by cases h; exact k
theorem Zjt (h:MO X io p eo (Z2b (o2 fa))):MO X io p eo (o2 (oI fa)):=h.weak fun δ K h=>by
 obtain ⟨r,δ',h,k⟩:=h
 obtain ⟨⟨x,δ1⟩,h1,h⟩:=bs h
 refine ⟨x,δ1,h1,?_⟩
 try dsimp only at h |-
 split at h
 .rename_i q; (try rw [q]); cases h; exact k
 .cases h
theorem Zz4 {lo hi:FO} (h:ME X io p c e (mSl (o2 fa) (o2 lo) (o2 hi))):ME X io p c e (o2 (fSl fa lo hi)):=h.weak fun δ K h=>by
 obtain ⟨r,δ',h,k⟩:=h
 obtain ⟨⟨x,δ1⟩,h1,h⟩:=bs h
 obtain ⟨⟨y,δ2⟩,h2,h⟩:=bs h
 obtain ⟨⟨z,δ3⟩,h3,h⟩:=bs h
 refine ⟨x,δ1,h1,y,δ2,h2,z,δ3,h3,?_⟩
 try dsimp only at h |-
 split at h
 .rename_i q; (try rw [q]); cases h; exact k
 .cases h
theorem Zog {f g:Int→Int→Bool}  {K:OT→Zc→Prop} (h:o2 (Zfe f g fa fb fc) δ K):Zgo f g (o2 fa) (o2 fb) (o2 fc) δ K:=by
 obtain ⟨r,δ',h,k⟩:=h
 obtain ⟨⟨x,δ1⟩,h1,h⟩:=bs h
 obtain ⟨⟨y,δ2⟩,h2,h⟩:=bs h
 refine ⟨x,δ1,h1,y,δ2,h2,?_⟩
 try dsimp only at h |-
 split at h
 case h_2=>cases h
 rename_i i j q1 q2
 (try rw [q1,q2])
 show (if f i j = true then _ else _)
 split at h
 .rename_i hf
  rw [if_pos hf]
  obtain ⟨⟨z,δ3⟩,h3,h⟩:=bs h
  refine ⟨z,δ3,h3,?_⟩
  try dsimp only at h |-
  split at h
  .rename_i q; (try rw [q]); cases h; exact k
  .cases h
 .rename_i hf
  rw [if_neg hf]
  cases h
  exact k
theorem Zrr {f g:Int→Int→Bool} (h:ME X io p c e (Zgo f g (o2 fa) (o2 fb) (o2 fc))):ME X io p c e (o2 (Zfe f g fa fb fc)):=h.weak fun δ K z=>Zog z
theorem Zth {f g:Int→Int→Bool} (h:MT X io p e (fun δ K=>Zgo f g (o2 fa) (o2 fb) (o2 fc) δ (kB K))):MT X io p e (o2 (tV (Zfe f g fa fb fc))):=h.weak fun δ K z=>Zog (Z8x z)
theorem Zwa (h:MI X io p c tg e (iL (o2 fa))):MI X io p c tg e (o2 (Zcl fa)):=h.weak fun δ K h=>by
 obtain ⟨r,δ',h,k⟩:=h
 obtain ⟨⟨x,δ1⟩,h1,h⟩:=bs h
 refine ⟨x,δ1,h1,?_⟩
 try dsimp only at h |-
 split at h
 .rename_i q; (try rw [q]); cases h; exact k
 .cases h
theorem Z74 (h:MI X io p c tg e (iR1 (o2 ra))):MI X io p c tg e (o2 (iRa ra)):=h.weak fun δ K h=>by
 obtain ⟨r,δ',h,k⟩:=h
 obtain ⟨⟨x,δ1⟩,h1,h⟩:=bs h
 refine ⟨x,δ1,h1,?_⟩
 try dsimp only at h |-
 split at h
 case h_2=>cases h
 rename_i q
 (try rw [q])
 try dsimp only
 split at h
 .rename_i b; cases h; exact ⟨Zyz b,k⟩
 .cases h
theorem Zj5 (h:MG X io c tg (dName i)):MG X io c tg (oG (gNm i)):=h.weak fun d δ K ⟨δ',h,k⟩=>by cases h; exact k
theorem Zo4 (h:MGs X io c es Z88):MGs X io c es (oGs gNl):=h.weak fun d δ K q94=>by
 obtain ⟨δ',h,k⟩:=q94
 unfold gNl at h
 split at h
 .cases h; exact ⟨rfl,k⟩
 .cases h
theorem Zed {g:FG} {gs:FGs} (h:MGs X io c es (Z35 (oG g) (oGs gs))):MGs X io c es (oGs (gCn g gs)):=h.weak fun d δ K q95=>by
 obtain ⟨δ',h,k⟩:=q95
 unfold gCn at h
 split at h
 .obtain ⟨δ1,h1,h⟩:=bs h
  exact ⟨δ1,h1,δ',h,k⟩
 .cases h
theorem Zuv {n:Nat} {gs:FGs} (h:MG X io c tg (dTup n (oGs gs))):MG X io c tg (oG (gTp n gs)):=h.weak fun d δ K q96=>by
 obtain ⟨δ',h,k⟩:=q96
 unfold gTp at h
 split at h
 case h_2=>cases h
 split at h
 .rename_i q; exact ⟨q,δ',h,k⟩
 .cases h
theorem Jv (h:MIfs X io p es Z4a):MIfs X io p es (o2 Zer):=h.weak fun δ K ⟨r,δ',h,k⟩=>by cases h; exact k
theorem Zwm {g:FG} {t:FT}   {δ0:Zc} {zs:List OT} {δe:Zc} (h:compLoop g t me ds δ0 = some (zs,δe)) :
  ∃ I:Nat→List OT→Zc→Prop,I 0 [] δ0 /\
 (∀ (i:Nat) (d:PyData) (rs:List OT) (δ':Zc),ds[i]? = some d→I i rs δ'→oG g d δ' fun δ2=>o2 t δ2 fun b δ3=>if b = true then o2 me δ3 fun r δ4=>I (i + 1) (rs ++ [r]) δ4 else I (i + 1) rs δ3) /\
 ∀ rs δ',I ds.length rs δ'→rs = zs/\δ' = δe:=by
 refine ⟨fun i rs δ'=>∃ ys,rs ++ ys = zs/\compLoop g t me (ds.drop i) δ' = some (ys,δe),⟨zs,rfl,by rw [List.drop_zero]; exact h⟩,?_,?_⟩
 .rintro i d rs δ' hd ⟨ys,e,hl⟩
  obtain ⟨hi,hdi⟩:=List.getElem?_eq_some_iff.mp hd
  rw [List.drop_eq_getElem_cons hi,hdi] at hl
  unfold compLoop at hl
  obtain ⟨δ1,h1,hl⟩:=bs hl
  obtain ⟨⟨b,δ2⟩,h2,hl⟩:=bs hl
  refine ⟨δ1,h1,b,δ2,h2,?_⟩
  dsimp only at hl
  split at hl
  .rename_i hb
   rw [if_pos hb]
   obtain ⟨⟨r,δ3⟩,h3,hl⟩:=bs hl
   obtain ⟨⟨ws,δ4⟩,h4,hl⟩:=bs hl
   cases hl
   exact ⟨r,δ3,h3,ws,by rw [List.append_assoc]; exact e,h4⟩
  .rename_i hb
   rw [if_neg hb]
   exact ⟨ys,e,hl⟩
 .rintro rs δ' ⟨ys,e,hl⟩
  rw [List.drop_length] at hl
  unfold compLoop at hl
  cases hl
  exact ⟨by rw [<- e,List.append_nil],rfl⟩
theorem Zof {n:Nat}   {g:FG} {t:FT}   {K:OT→Zc→Prop} (h:o2 (Y4 n caps it g t me) δ K):Zfs n caps (o2 it) (oG g) (o2 t) (o2 me) δ K:=by
 obtain ⟨r,δ',h,k⟩:=h
 obtain ⟨⟨ds,δ1⟩,h1,h⟩:=bs h
 refine ⟨ds,δ1,h1,?_⟩
 dsimp only at h
 split at h
 case isFalse=>cases h
 rename_i hz
 obtain ⟨⟨zs,δe⟩,h2,h⟩:=bs h
 cases h
 obtain ⟨I,i0,st,en⟩:=Zwm h2
 refine ⟨hz,I,i0,st,fun rs δ'' q=>?_⟩
 obtain ⟨rfl,rfl⟩:=en rs δ'' q
 exact k
theorem Za5 {n:Nat}   {g:FG} {t:FT}  (h:ME X io p c e (Zfs n caps (o2 it) (oG g) (o2 t) (o2 me))):ME X io p c e (o2 (Y4 n caps it g t me)):=h.weak fun δ K z=>Zof z
end
end L2
namespace L2
open PySem PySem.Spec PyProof.Rows
section
variable          {ta tb:FT}  {f g u w:FS}
theorem Zdr (h:MSs X io sts (Z7j (oS f) (oS g))):MSs X io sts (oS (Yd f g)):=h.weak fun D δ h=>by
 unfold oS Yd at h; unfold Z7j oS
 cases q:f δ <;> rw [q] at h <;> exact h
theorem Za3 (h:MSs X io sts Z3d):MSs X io sts (oS fNx):=h.weak fun D δ h=>h
theorem Zqz {k:OT→Zc→RS} {D:Zf1}  (h:oS (wE fa k) D δ):o2 fa δ fun r δ'=>(k r δ').fits D:=by
 unfold oS wE at h
 split at h
 .rename_i q; exact ⟨_,_,q,h⟩
 .exact h.elim
theorem o2.imp  {f:Zc→Option (α × Zc)}  {K K':α→Zc→Prop} (h:o2 f δ K) (k:∀ r δ',K r δ'→K' r δ'):o2 f δ K':=let ⟨r,δ',e,q⟩:=h; ⟨r,δ',e,k r δ' q⟩
theorem Zd8 {P:Prop} [Decidable P] {a:RS} {D:Zf1} (h:(if P then a else .bad:RS).fits D):P/\a.fits D:=by
 split at h
 .exact ⟨‹_›,h⟩
 .exact h.elim
theorem Zw0 (h:MS X io st (Z16 (o2 fa))):MS X io st (oS (wE fa Zs9)):=h.weak fun D δ h=>Zqz h
theorem Zco (h:MS X io st (Ya8 (o2 fa))):MS X io st (oS (wE fa Wl)):=h.weak fun D δ h=>Zqz h
theorem Zwo (h:MS X io st (Zr4 i)):MS X io st (oS (Zmd i)):=h.weak fun D δ h=>by
 unfold oS Zmd at h; unfold Zr4
 split at h
 .rename_i q; (try rw [q]); exact h
 .exact h.elim
theorem Zi9 (h:MS X io st (Yag (o2 ta) (oS u) (oS w))):MS X io st (oS (W6 ta u w)):=h.weak fun D δ h=>by
 unfold oS W6 at h
 split at h
 .rename_i b δ' q
  refine ⟨b,δ',q,?_⟩
  split at h
  .rename_i hb; rw [if_pos hb]; exact h
  .rename_i hb; rw [if_neg hb]; exact h
 .exact h.elim
theorem Z3z (h:MS X io st (Zzl i (o2 fa))):MS X io st (oS (wE fa (Zas i))):=h.weak fun D δ h=>Zqz h
theorem Zwn (h:MS X io st (Zxx i (o2 fa))):MS X io st (oS (wE fa (Zre i))):=h.weak fun D δ h=>(Zqz h).imp fun r δ' q=>Zd8 q
theorem Zop (h:MS X io st (Zmj i (o2 fa))):MS X io st (oS (wE fa (Zek i))):=h.weak fun D δ h=>Zqz h
section
variable {n:Nat}  {o q:Nat}  {gg:FG} {t:FT} 
theorem Zsw (h:MS X io st (if true = true then Zmj i (Zfs n caps (o2 it) (oG gg) (o2 t) (o2 me)) else Zzl i (Zfs n caps (o2 it) (oG gg) (o2 t) (o2 me)))):MS X io st (oS (wE (Y4 n caps it gg t me) (Zek i))) :=
 h.weak fun D δ h=>by rw [if_pos rfl]; exact Zof (Zqz h)
theorem Zpo (h:MS X io st (if false = true then Zmj i (Zfs n caps (o2 it) (oG gg) (o2 t) (o2 me)) else Zzl i (Zfs n caps (o2 it) (oG gg) (o2 t) (o2 me)))):MS X io st (oS (wE (Y4 n caps it gg t me) (Zas i))) :=
 h.weak fun D δ h=>by rw [if_neg Bool.false_ne_true]; exact Zof (Zqz h)
end
theorem Zhs (h:MS X io st (Zg6 i (o2 fa))):MS X io st (oS (Zah i fa)):=h.weak fun D δ h=>by
 unfold oS Zah at h; unfold Zg6
 split at h
 case h_2=>exact h.elim
 rename_i q; (try rw [q])
 refine (Zqz h).imp fun r δ' z=>?_
 split at z
 .rename_i q2; (try rw [q2]); exact Zd8 z
 .exact z.elim
theorem Zob (h:MS X io st (Zg8 i (oS u))):MS X io st (oS (Zc2 i u)):=h.weak fun D δ h=>by
 unfold oS Zc2 at h; unfold Zg8
 split at h
 .rename_i q; (try rw [q]); exact h
 .exact h.elim
theorem Zdu {gg:FG} {d:PyData}  :forLoop gg u (d :: ds) δ = match gg d δ with
  | none=>.bad
  | some δ1=>match u δ1 with
   | .nx δ2=>forLoop gg u ds δ2
   | .ct δ2=>forLoop gg u ds δ2
   | .bk δ2=>.nx δ2
   | r=>r:=rfl
theorem Zt4  {gg:FG} (h:MS X io st (Z9r (o2 it) (oG gg) (oS u))):MS X io st (oS (Zea it gg u)):=h.weak fun D δ h=>by
 unfold oS Zea at h
 split at h
 case h_2=>exact h.elim
 rename_i ds δ1 q
 refine ⟨ds,δ1,q,fun i δ'=>(forLoop gg u (ds.drop i) δ').fits D,by show RS.fits D (forLoop gg u (ds.drop 0) δ1); rw [List.drop_zero]; exact h,fun i d δ' hd z=>?_,fun δ' z=>?_⟩
 .obtain ⟨hi,hdi⟩:=List.getElem?_eq_some_iff.mp hd
  replace z:RS.fits D (forLoop gg u (ds.drop i) δ'):=z
  rw [List.drop_eq_getElem_cons hi,hdi,Zdu] at z
  split at z
  case h_1=>exact z.elim
  rename_i δ2 q2
  refine ⟨δ2,q2,?_⟩
  unfold oS
  cases q3:u δ2 <;> rw [q3] at z <;> (try rw [q3]) <;> exact z
 .replace z:RS.fits D (forLoop gg u (ds.drop ds.length) δ'):=z
  rw [List.drop_length] at z; exact z
theorem Zk0 (h:MS X io st (Zum (o2 ta) (oS u))):MS X io st (oS (Zgc ta u)):=h.weak fun D δ h=>by
 unfold oS Zgc at h
 split at h
 case isFalse=>exact h.elim
 rename_i hn
 refine ⟨fun n δ'=>(whileLoop ta u n δ').fits D,⟨_,h⟩,fun n δ' z=>?_⟩
 cases n with
 | zero=>exact z.elim
 | succ n =>
  unfold whileLoop at z
  split at z
  case h_1=>exact z.elim
  rename_i b δ1 q
  refine ⟨b,δ1,q,?_⟩
  split at z
  .rename_i hb
   rw [if_pos hb]
   refine ⟨fun δ''=>(whileLoop ta u n δ'').fits D,fun δ'' y=>⟨n,Nat.lt_succ_self n,y⟩,?_⟩
   unfold oS
   cases q3:u δ1 <;> rw [q3] at z <;> exact z
  .rename_i hb
   rw [if_neg hb]
   exact z
theorem Zb0 {n m:Nat}:∀ {δ:Zc},whileLoop ta u n δ ≠ .bad→whileLoop ta u (n + m) δ = whileLoop ta u n δ:=by
 induction n with
 | zero=>intro δ h; exact absurd rfl h
 | succ n ih =>
  intro δ h
  rw [Nat.succ_add]
  unfold whileLoop at h |-
  cases q:ta δ with
  | none=>rfl
  | some x =>
   obtain ⟨b,δ1⟩:=x
   rw [q] at h
   try dsimp only at h |-
   split
   .rename_i hb
    rw [if_pos hb] at h
    cases q3:u δ1 <;> rw [q3] at h <;> first | exact ih h | rfl
   .rfl
theorem Zis {r:RS}  (n:Nat) (h:whileLoop ta u n δ = r) (hr:r ≠ .bad):Zgc ta u δ = r:=by
 have hn:∃ n,whileLoop ta u n δ ≠ .bad:=⟨n,by rw [h]; exact hr⟩
 unfold Zgc
 rw [dif_pos hn]
 have h1:=Classical.choose_spec hn
 have e1:=Zb0 (m:=n) h1
 have e2:=Zb0 (m:=Classical.choose hn) (show whileLoop ta u n δ ≠ .bad by rw [h]; exact hr)
 rw [Nat.add_comm] at e2
 rw [<- e1,e2,h]
theorem Zlj {cn:Str}:MS X io st (oS (Zhz cn)):=Ztm.weak fun D δ h=>h
class NoEx (f:FS):Prop where
 no:∀ δ cn δ',f δ ≠ .ex cn δ'
class NoExK (k:OT→Zc→RS):Prop where
 no:∀ r δ cn δ',k r δ ≠ .ex cn δ'
end
section
variable     {base:Heap}   {f:Addr} {fd:FuncData}  {n np nn:Nat} {S:FS}
theorem RS.told_fits {r:RS} {o:OT} {k:OT→Prop} (h:r.told = .ok o) (hk:k o):r.fits (Zyr k):=by
 cases r <;> unfold RS.told at h <;> first | (cases h; exact hk) | cases h
theorem Yi (F:Fun K x qual st f fd) (Sc:Zr N ps (Zh st)) (hN:N.length = nn) (hp:np = ps.length)
  (hb:∀ (cdv:Value) (A:Around) (outer:List Env) (s:Shared) (H:Hp) (E:XK),Room n (A.deeper (envOfC qual (Zh st) s.heap.objs.size f cdv))→MSs (Zvp CX0 P w K mg base N qual (Zh st) f cdv A outer s H E).nox [] (Zad st) (oS S)) :
  FnOk P w K mg base CX0 (n + 1) f fd ps (spD K (sD (W5 np nn S))):=by
 subst hN hp
 refine F.okD Sc (fun ds k h=>?_) fun cdv A outer s H E hr=>⟨_,hb cdv A outer s H E hr,fun ds k h=>?_⟩
 .obtain ⟨r,h,_⟩:=h
  unfold W5 at h
  split at h
  .assumption
  .cases h
 .obtain ⟨r,h,hk⟩:=h
  unfold W5 at h
  split at h
  .exact RS.told_fits h hk
  .cases h
end
end L2
namespace L2
open PySem PySem.Spec PyProof.Rows
def i2 (g:Int→Int→PyData):PyData→PyData→Option PyData:=fun d e=>match d,e with | .int i,.int j=>some (g i j) | _,_=>none
def i2c (c:Int→Int→Bool) (g:Int→Int→PyData):PyData→PyData→Option PyData:=fun d e=>match d,e with | .int i,.int j=>if c i j = true then some (g i j) else none | _,_=>none
theorem Zql {g:Int→Int→PyData}:ByS (i2 g) (Zru g):=fun d e r k h hk=>by
 unfold i2 at h
 split at h
 .cases h; exact hk
 .cases h
theorem Zp4 {c:Int→Int→Bool} {C:Int→Int→Prop} {g:Int→Int→PyData} (hc:∀ i j,c i j = true→C i j):ByS (i2c c g) (d2I C g):=fun d e r k h hk=>by
 unfold i2c at h
 split at h
 .split at h
  .cases h; exact ⟨hc _ _ ‹_›,hk⟩
  .cases h
 .cases h
def Ycf (a b:Int):Bool:=!(decide (Builtin.Int.intBits a > shortFactorBits) && decide (Builtin.Int.intBits b > shortFactorBits) && Builtin.Int.intTooBig (Builtin.Int.intBits a + Builtin.Int.intBits b))
def Z0e (_ j:Int):Bool:=decide (j ≠ 0) && decide (j.natAbs.log2 < 9000)
def Yaj (_ j:Int):Bool:=decide (j ≠ 0)
def Z7l (i j:Int):Bool:=decide (0 <= j/\j <= 1000000/\i.natAbs < 2 ^ 64)
def Zho:=i2 fun i j=>.int (i + j)
def gSb:=i2 fun i j=>.int (i - j)
def Zxq:=i2c Ycf fun i j=>.int (i * j)
def Jd:=i2c Z0e fun i j=>.int (i.fdiv j)
def Zc0:=i2c Yaj fun i j=>.int (i.fmod j)
def Zov:=i2c Z7l fun i j=>.int (i ^ j.toNat)
def gLt:=i2 fun i j=>.bool (decide (i < j))
def gLe:=i2 fun i j=>.bool (decide (i <= j))
def gGt:=i2 fun i j=>.bool (decide (j < i))
def gGe:=i2 fun i j=>.bool (decide (j <= i))
theorem Z8b:ByS Zho (Zru fun i j=>.int (i + j)):=Zql
theorem Z5w:ByS gSb (Zru fun i j=>.int (i - j)):=Zql
theorem Z3n:ByS Jd (d2I Z8n fun i j=>.int (i.fdiv j)):=Zp4 fun i j h=>⟨by
 unfold Z0e at h
 rw [Bool.and_eq_true] at h
 exact ⟨of_decide_eq_true h.1,of_decide_eq_true h.2⟩⟩
theorem Z5p:ByS Zc0 (d2I (fun _ j=>j ≠ 0) fun i j=>.int (i.fmod j)):=Zp4 fun i j h=>of_decide_eq_true h
theorem Z7k:ByS Zov (d2I Ya4 fun i j=>.int (i ^ j.toNat)):=Zp4 fun i j h=>⟨(of_decide_eq_true h:0 <= j/\j <= 1000000/\i.natAbs < 2 ^ 64)⟩
theorem Z6a:ByS gLt (Zru fun i j=>.bool (decide (i < j))):=Zql
theorem Z8u:ByS gGt (Zru fun i j=>.bool (decide (j < i))):=Zql
theorem Ya1:ByS gGe (Zru fun i j=>.bool (decide (j <= i))):=Zql
def gEq:PyData→PyData→Option PyData:=fun d e=>if (SeqAt.shaped d && SeqAt.shaped e) = true then some (.bool (PyData.eqv d e)) else none
def gNe:PyData→PyData→Option PyData:=fun d e=>if (SeqAt.shaped d && SeqAt.shaped e) = true then some (.bool (!PyData.eqv d e)) else none
theorem Zxo:ByS gEq dEq:=fun d e r k h hk=>by
 unfold gEq at h
 split at h
 .rename_i q
  rw [Bool.and_eq_true] at q
  cases h
  exact ⟨⟨q.1⟩,⟨q.2⟩,hk⟩
 .cases h
theorem Z0t:ByS gNe dNe:=fun d e r k h hk=>by
 unfold gNe at h
 split at h
 .rename_i q
  rw [Bool.and_eq_true] at q
  cases h
  exact ⟨⟨q.1⟩,⟨q.2⟩,hk⟩
 .cases h
def gIs:PyData→PyData→Option PyData:=fun d e=>match e with | .none=>some (.bool (Zax d)) | _=>none
def Z1a:PyData→PyData→Option PyData:=fun d e=>match e with | .none=>some (.bool (!Zax d)) | _=>none
theorem Z9n:ByS gIs Z8s:=fun d e r k h hk=>by
 unfold gIs at h
 split at h
 .cases h; exact ⟨rfl,hk⟩
 .cases h
def gIx:PyData→PyData→Option OT:=fun d e=>(ixD d e).bind fun x=>some (.fz x)
theorem Ybs:ByO gIx dIx:=fun d e r k h hk=>by
 obtain ⟨x,h1,h2⟩:=bs h
 cases h2
 unfold dIx
 rw [h1]
 exact hk
def Yc1:PyData→PyData→Option OT:=fun d e=>match d,e with | .list ds,.list es=>if ds.length + es.length <= sizeLine then some (.nd ((ds ++ es).map OT.fz)) else none | _,_=>none
def Zhn:List PyData→Option PyData:=fun ds=>match ds with | [d]=>(Zsz d).bind fun n=>some (.int n) | _=>none
theorem Zv3:∀ ds r k,Zhn ds = some r→k r→Yas ds k:=fun ds r k h hk=>by
 unfold Zhn at h
 split at h
 .obtain ⟨n,h1,h2⟩:=bs h
  cases h2
  show match Zsz _ with | some n=>_ | none=>_
  rw [h1]
  exact hk
 .cases h
def Zzo:List PyData→Option PyData:=fun ds=>match ds with | [.int i]=>some (.int (if i < 0 then -i else i)) | _=>none
theorem Zxt:∀ ds r k,Zzo ds = some r→k r→Yai ds k:=fun ds r k h hk=>by
 unfold Zzo at h
 split at h
 .cases h; exact hk
 .cases h
def Ybz:List PyData→Option PyData:=fun ds=>match ds with | [.int i,.int j]=>some (.int (if j > i then j else i)) | _=>none
def Yc0:List PyData→Option PyData:=fun ds=>match ds with | [.int i,.int j]=>some (.int (if j < i then j else i)) | _=>none
def Z9s:List PyData→Option PyData:=fun ds=>match ds with | [.int i]=>some (.int i) | [.bool b]=>some (.int (if b then 1 else 0)) | _=>none
def Zl5:List PyData→Option OT:=fun ds=>match ds with | [d]=>(Zfa d).bind fun es=>some (.nd (es.map OT.fz)) | _=>none
theorem Zu5:∀ ds r k,Zl5 ds = some r→k r→Z1n ds k:=fun ds r k h hk=>by
 unfold Zl5 at h
 split at h
 .obtain ⟨n,h1,h2⟩:=bs h
  cases h2
  show match Zfa _ with | some n=>_ | none=>_
  rw [h1]
  exact hk
 .cases h
def Zjb:List PyData→Option (List Int)
 | []=>some []
 | .int i :: r=>(Zjb r).bind fun l=>some (i :: l)
 | _ :: _=>none
theorem Zd9:∀ {ds:List PyData} {ns:List Int},Zjb ds = some ns→ds = ns.map PyData.int
 | [],_,h=>by cases h; rfl
 | .int i :: r,_,h=>by
  obtain ⟨l,h1,h2⟩:=bs h
  cases h2
  rw [Zd9 h1]; rfl
 | .none :: _,_,h=>by cases h
 | .bool _ :: _,_,h=>by cases h
 | .str _ :: _,_,h=>by cases h
 | .list _ :: _,_,h=>by cases h
 | .tuple _ :: _,_,h=>by cases h
 | .dict _ :: _,_,h=>by cases h
@[simp] theorem Zck:∀ ns:List Int,Zjb (ns.map PyData.int) = some ns
 | []=>rfl
 | n :: ns=>by rw [List.map_cons,Zjb,Zck ns]; rfl
def Z96 (a:FA):FE:=fun δ=>(a δ).bind fun p=>match OT.datas p.1 with | [.int j]=>if rOk j = true/\j.toNat <= sizeLine then some (.nd ((Zmc 0 j.toNat).map OT.fz),p.2) else none | _=>none
def Yay (a b:FE):FE:=fun δ=>(a δ).bind fun p=>(b p.2).bind fun q=>match q.1.data with | .int k=>if rOk k = true/\k.toNat <= sizeLine then some (.nd (List.replicate k.toNat (.fz p.1.data)),p.2) else none | _=>none
end L2
namespace L2
open PySem PySem.Spec PyProof.Rows
section
variable    {a:Expr}    {pt sp kp:Pos}     
def Zz6 (m:MAt):MEt:=fun δ K=>m δ fun rs δ'=>rs.length <= sizeLine/\K (.tp rs) δ'
theorem Ztz {x1} (h:MA X io p c es mr):ME X io p c (.Tuple es x1 pos) (Zz6 mr):=by
 obtain ⟨tA,A,sa⟩:=h
 refine ⟨_,Zt1 A,fun C H σ δ fp ex K Q R h k=>?_⟩
 refine sa C H σ δ fp ex _ _ R h fun H1 vs rs δ1 fp1 new1 r1 h1=>⟨by rw [r1.own.length]; exact h1.1,fun q hq=>?_⟩
 have s:=Z6 hq (.tup vs)
 have S:=r1.stp.trans (p':=true) (Stp.same (p:=true) (δ:=δ1) (fp:=fp1) s s.al)
 rw [Bool.and_true] at S
 exact k _ _ _ δ1 fp1 new1 ⟨(r1.rel.made (new:=[]) s fun a m=>nomatch m).drop fun a z=>.inl z,S,.tp Zu (r1.own.same s),r1.nd,r1.fresh⟩ h1.2
def Zms (a:FA):FE:=fun δ=>(a δ).bind fun p=>if p.1.length <= sizeLine then some (.tp p.1,p.2) else none
theorem Zoq (h:ME X io p c e (Zz6 (o2 ra))):ME X io p c e (o2 (Zms ra)):=h.weak fun δ K h=>by
 obtain ⟨r,δ',h,k⟩:=h
 obtain ⟨⟨x,δ1⟩,h1,h⟩:=bs h
 refine ⟨x,δ1,h1,?_⟩
 dsimp only at h
 split at h
 .rename_i q; cases h; exact ⟨q,k⟩
 .cases h
def Zui (i c:Nat) (e:FE):FS:=fun δ=>match δ[i]? with
 | some (some (.tp ts))=>match ts[c]? with
  | some (.nd us)=>wE e (fun r _=>if us.length < sizeLine then .nx (δ.set i (some (.tp (ts.set c (.nd (us ++ [.fz r.data])))))) else .bad) δ
  | _=>.bad
 | _=>.bad
def Ya6 (i j:Nat) (mr:MAt):MSt:=fun D δ=>mr δ fun rs δ1=>∃ d e,OT.datas rs = [d,e]/\D.nx ((δ1.set i (some (.fz d))).set j (some (.fz e)))
theorem Zzv {kt k2:Nat} {pt2:Pos} (hc:X.calm = true) (hN:X.N.Nodup) (hi:X.N[i]? = some x) (hj:X.N[j]? = some y) (hij:i ≠ j) (hx:X.env.scope.names.lookup x = some .local) (hy:X.env.scope.names.lookup y = some .local) (ha:MA X io p true [a,b] mr)
  (hi':i ∉ io:=by decide) (hj':j ∉ io:=by decide)
  (hw:swappedStores [.Tuple [.Name x px,.Name y py] kt pt] (.Tuple [a,b] k2 pt2) X.env = pure (some [x,y]):=by rfl)
  (hs:swapsWithSole [.Tuple [.Name x px,.Name y py] kt pt] (.Tuple [a,b] k2 pt2) pos.line X.env = pure false:=by rfl) :
  MS X io (.Assign [.Tuple [.Name x px,.Name y py] kt pt] (.Tuple [a,b] k2 pt2) pos) (Ya6 i j mr):=by
 obtain ⟨_,A,s⟩:=ha
 refine ⟨_,Z1z hc hN hi hj hij hx hy A hw hs,fun C H σ δ fp ex D D' R h E=>?_⟩
 refine s C H σ δ fp ex _ _ R h fun H1 vs rs δ1 fp1 new r1 h1=>?_
 obtain ⟨d,e,hd,h1⟩:=h1
 have q:=(r1.das R).wide (L':=Lf C fp1 ex) fun a l _=>l rfl
 rw [hd] at q
 cases q with
 | cons q1 q =>
  cases q with
  | cons q2 q =>
   cases q
   obtain ⟨fp2,R2,k2⟩:=r1.base.putD hi' q1
   have z:=r1.base.kp_das k2 (.cons q2 .nil)
   cases z with
   | cons q2' _ =>
    obtain ⟨fp3,R3,k3⟩:=R2.putD hj' q2'
    exact ⟨_,_,rfl,E.nx _ _ _ fp3 R3 (r1.stp.kp.trans (k2.trans k3)) h1⟩
def Zqy (i j:Nat) (a:FA):FS:=fun δ=>match a δ with
 | some (rs,δ1)=>match OT.datas rs with
  | [d,e]=>.nx ((δ1.set i (some (.fz d))).set j (some (.fz e)))
  | _=>.bad
 | none=>.bad
theorem Z22 (h:MS X io st (Ya6 i j (o2 ra))):MS X io st (oS (Zqy i j ra)):=h.weak fun D δ h=>by
 unfold oS Zqy at h
 split at h
 case h_2=>exact h.elim
 rename_i rs δ1 q
 refine ⟨rs,δ1,q,?_⟩
 split at h
 .rename_i q2; exact ⟨_,_,q2,h⟩
 .exact h.elim
end
class NoStar (e:Expr):Prop where
 h:∀ es env,starEach (e :: es) env = (false,eval e env) :: starEach es env
instance nx_Name  {p:Pos}:NoStar (.Name x p):=⟨fun _ _=>rfl⟩
instance nx_Constant {x k} {p:Pos}:NoStar (.Constant x k p):=⟨fun _ _=>rfl⟩
instance nx_BinOp {a o b} {p:Pos}:NoStar (.BinOp a o b p):=⟨fun _ _=>rfl⟩
instance nx_Call {f a k} {p:Pos}:NoStar (.Call f a k p):=⟨fun _ _=>rfl⟩
instance nx_Subscript {a b} {p:Pos}:NoStar (.Subscript a b p):=⟨fun _ _=>rfl⟩
instance nx_ListComp {a b s} {p:Pos}:NoStar (.ListComp a b s p):=⟨fun _ _=>rfl⟩
theorem Zi   {p2:Bool}     [NoStar e] (ha:ME X io p c e (o2 fa)) (hr:MA X io p' c' es (o2 ra)) (hc:p' = true\/c = true:=by first | exact Or.inl rfl | exact Or.inr rfl) (h2:(p && p') = p2:=by rfl) (h3:(c && c') = c2:=by rfl):MA X io p2 c2 (e :: es) (o2 (Zf fa ra)) :=
 h2 ▸ h3 ▸ Zvu (Zwu ha hr hc (NoStar.h es X.env))
theorem Ztf      (h:ME X io p c e m) (h2:p = p':=by rfl) (h3:c = c':=by rfl):ME X io p' c' e m:=h2 ▸ h3 ▸ h
theorem Zzb     {base:Heap}  {k:Nat} {f:Addr} {fd:FuncData}  {S:List PyData→(OT→Prop)→Prop} (h:∀ ds k,¬ S ds k):FnOk P w K mg base CX k f fd ps (spD K S):=by
 have h':∀ {vs H Q E},spD K S vs H Q E→False:=fun q=>by
  obtain ⟨_,ds,k,_,z,_⟩:=q
  exact h ds k z
 exact ⟨fun vs H Q E q=>(h' q).elim,fun A outer s H args us vs Q E _ _ _ _ q=>(h' q).elim⟩
end L2
namespace L2
open PySem PySem.Spec PyProof.Rows
section
variable    {a:Expr}    {pt sp kp:Pos}      {u:FS}
end
end L2
namespace L2
open PySem PySem.Spec PyProof.Rows
structure Gives (P:Program) (w:World) (it:Addr) (f:List Addr) (St:Heap→Prop) (x:Value) (St':Heap→Prop):Prop where
 mem:it ∈ f
 run:∀ {A:Around} {E:Value→Shared→Prop} {s:Shared} {Q:Value→Shared→Prop},St s.heap→(∀ h',St' h'→Heap.SameBut it s.heap h'→Q x { s with heap:=h' })→wpAny (model P w) A (Builtin.SmallTypes.nextOf (.ref it)) Q E s
 keep:∀ h h',(∀ c ∈ f,∀ o,h.get? c = some o→h'.get? c = some o)→St h→St h'
 keep':∀ h h',(∀ c ∈ f,∀ o,h.get? c = some o→h'.get? c = some o)→St' h→St' h'
structure Zgf (P:Program) (w:World) (it:Addr) (f:List Addr) (St:Heap→Prop):Prop where
 mem:it ∈ f
 run:∀ {A:Around} {E:Value→Shared→Prop} {s:Shared} {Q:Value→Shared→Prop},A.handled = none→St s.heap→(∀ h' e,Heap.ExtBut it s.heap h'→(∃ o,h'.get? e = some o/\o.cls = .type "StopIteration")→E (.ref e) { s with heap:=h' })→wpAny (model P w) A (Builtin.SmallTypes.nextOf (.ref it)) Q E s
 keep:∀ h h',(∀ c ∈ f,∀ o,h.get? c = some o→h'.get? c = some o)→St h→St h'
structure ZA (z TI TO i1 i2:Addr) (f1 f2:List Addr):Prop where
 TIz:TI ≠ z
 TOz:TO ≠ z
 a1:∀ c ∈ f1,c ≠ z/\c ≠ TO/\c ≠ i2
 a2:∀ c ∈ f2,c ≠ z/\c ≠ TO/\c ≠ i1
theorem Zhl {T:Addr} {a b x:Value} {k:Nat} {Q:Unit→Shared→Prop} (hT:IsPair s.heap T a b) (h:∀ h',h'.get? T = some { cls:=.type "tuple", data:=.seq ((#[a,b]:Array Value).setIfInBounds k x) }→Heap.SameBut T s.heap h'→Q () { s with heap:=h' }) :
  wpAny (model P w) A (updateSeq T (·.setIfInBounds k x)) Q E s:=wpAny_updateSeq_pair hT h
theorem Zpa {z TI TO i1 i2:Addr} {f1 f2:List Addr} {S1 T1 S2 T2:Heap→Prop} {x y a b:Value}  (D:ZA z TI TO i1 i2 f1 f2) (G1:Gives P w i1 f1 S1 x T1) (G2:Gives P w i2 f2 S2 y T2)
  (hz:IsZip s.heap z TI TO .none) (hTI:IsPair s.heap TI (.ref i1) (.ref i2)) (hTO:IsPair s.heap TO a b) (h1:S1 s.heap) (h2:S2 s.heap)
  (hQ:∀ h',IsZip h' z TI TO (rawInt s.heap.objs.size)→IsPair h' TO x y→T1 h'→T2 h'→IsPair h' s.heap.objs.size x y →
   (∀ c o,c ∉ [z,TO,i1,i2]→s.heap.get? c = some o→h'.get? c = some o)→Q (.ref s.heap.objs.size) { s with heap:=h' }) :
  wpAny (model P w) A (Builtin.«zip.__next__» ⟨[.ref z],[]⟩) (fun fin s'=>∃ v,fin = .done (.ret v)/\Q v s') E s:=by
 obtain ⟨i1z,i1O,i12⟩:=D.a1 i1 G1.mem
 obtain ⟨i2z,i2O,i21⟩:=D.a2 i2 G2.mem
 have r1:z ∉ f1/\TO ∉ f1/\i2 ∉ f1:=⟨fun m=>(D.a1 z m).1 rfl,fun m=>(D.a1 TO m).2.1 rfl,fun m=>(D.a1 i2 m).2.2 rfl⟩
 have r2:z ∉ f2/\TO ∉ f2/\i1 ∉ f2:=⟨fun m=>(D.a2 z m).1 rfl,fun m=>(D.a2 TO m).2.1 rfl,fun m=>(D.a2 i1 m).2.2 rfl⟩
 have st:∀ {b:Addr} {h h':Heap} {f:List Addr},Heap.SameBut b h h'→b ∉ f→∀ c ∈ f,∀ o,h.get? c = some o→h'.get? c = some o:=fun sb hb c hc o e=>sb.extBut _ _ (fun q=>hb (q ▸ hc)) e
 show wpAny _ _ (field (.ref z) 2 >>= _) _ _ _
 refine wpAny_bind (wpAny_field hz rfl (x:=.bool false) rfl ?_)
 show wpAny _ _ (field (.ref z) 3 >>= _) _ _ _
 refine wpAny_bind (wpAny_field hz rfl (x:=.ref TI) rfl (wpAny_bind (wpAny_seqItems hTI rfl ?_)))
 show wpAny _ _ (Builtin.SmallTypes.ownedTupleIsFree (.ref z) >>= _) _ _ _
 refine wpAny_bind ?_
 unfold Builtin.SmallTypes.ownedTupleIsFree
 refine wpAny_bind (wpAny_field hz rfl (x:=.none) rfl (wpAny_pure ?_))
 simp only [if_true]
 refine wpAny_bind (wpAny_rule (wpAny_bind (wpAny_field hz rfl (x:=.ref TO) rfl (wpAny_bind (wpAny_setField_rec hz (by simp) fun h3 z3 b3=>?_)))))
 replace z3:IsZip h3 z TI TO .ellipsis:=z3
 refine wpAny_bind ?_
 simp only [List.zipIdx_cons,List.zipIdx_nil,List.forIn_cons,List.forIn_nil]
 refine wpAny_bind (wpAny_bind (wpAny_onRaise ?_))
 show wpAny _ _ (Builtin.SmallTypes.nextOf (.ref i1) >>= _) _ _ _
 refine wpAny_bind (G1.run (s:={ s with heap:=h3 }) (G1.keep _ _ (st b3 r1.1) h1) fun h4 k4 b4=>wpAny_pure ?_)
 have o4:IsPair h4 TO a b:=b4.extBut _ _ i1O.symm (b3.extBut _ _ D.TOz hTO)
 refine wpAny_bind (wpAny_seqItems o4 rfl (wpAny_bind (Zhl (s:={ s with heap:=h4 }) o4 fun h5 o5 b5=>wpAny_bind (wpAny_letGo (wpAny_pure ?_)))))
 replace o5:IsPair h5 TO x b:=o5
 refine wpAny_bind (wpAny_bind (wpAny_onRaise ?_))
 show wpAny _ _ (Builtin.SmallTypes.nextOf (.ref i2) >>= _) _ _ _
 refine wpAny_bind (G2.run (s:={ s with heap:=h5 }) (G2.keep _ _ (st b5 r2.2.1) (G2.keep _ _ (st b4 r2.2.2) (G2.keep _ _ (st b3 r2.1) h2))) fun h6 k6 b6=>wpAny_pure ?_)
 have o6:IsPair h6 TO x b:=b6.extBut _ _ i2O.symm o5
 refine wpAny_bind (wpAny_seqItems o6 rfl (wpAny_bind (Zhl (s:={ s with heap:=h6 }) o6 fun h7 o7 b7=>wpAny_bind (wpAny_letGo (wpAny_pure (wpAny_pure ?_))))))
 replace o7:IsPair h7 TO x y:=o7
 refine wpAny_bind (wpAny_seqItems o7 rfl (wpAny_bind (wpAny_newTuple ?_)))
 have sz:h7.objs.size = s.heap.objs.size:=by rw [b7.1,b6.1,b5.1,b4.1,b3.1]
 have z7:IsZip h7 z TI TO .ellipsis:=b7.extBut _ _ D.TOz.symm (b6.extBut _ _ i2z.symm (b5.extBut _ _ D.TOz.symm (b4.extBut _ _ i1z.symm z3)))
 have t1:T1 h7:=G1.keep' _ _ (st b7 r1.2.1) (G1.keep' _ _ (st b6 r1.2.2) (G1.keep' _ _ (st b5 r1.2.1) k4))
 have t2:T2 h7:=G2.keep' _ _ (st b7 r2.2.1) k6
 have old:∀ c o,c ∉ [z,TO,i1,i2]→s.heap.get? c = some o→h7.get? c = some o:=fun c o n e=>by
  simp only [List.mem_cons,List.not_mem_nil,or_false,not_or] at n
  exact b7.extBut _ _ n.2.1 (b6.extBut _ _ n.2.2.2 (b5.extBut _ _ n.2.1 (b4.extBut _ _ n.2.2.1 (b3.extBut _ _ n.1 e))))
 show wpAny _ _ (Builtin.SmallTypes.ownedTupleHandOut (.ref z) (.ref h7.objs.size) >>= _) _ _ _
 refine wpAny_bind ?_
 unfold Builtin.SmallTypes.ownedTupleHandOut
 have zp:IsZip (h7.push { cls:=.type "tuple", data:=.seq #[x,y] }) z TI TO .ellipsis:=Heap.get?_push_of_some _ z7
 refine wpAny_bind (wpAny_setField_rec zp (by simp) fun h8 z8 b8=>?_)
 replace z8:IsZip h8 z TI TO (rawInt h7.objs.size):=z8
 refine wpAny_setField_rec z8 (by simp) fun h9 z9 b9=>?_
 replace z9:IsZip h9 z TI TO (rawInt h7.objs.size):=z9
 have up:∀ c o,c ≠ z→h7.get? c = some o→h9.get? c = some o:=fun c o n e=>b9.extBut _ _ n (b8.extBut _ _ n (Heap.get?_push_of_some _ e))
 have nz:h7.objs.size ≠ z:=Nat.ne_of_gt (Heap.lt_size z7)
 have p9:IsPair h9 h7.objs.size x y:=b9.extBut _ _ nz (b8.extBut _ _ nz (Heap.get?_push_size _ rfl))
 refine wpAny_pure ⟨_,rfl,?_⟩
 show Q (.ref h7.objs.size) _
 rw [sz] at z9 p9 |-
 exact hQ h9 z9 (up _ _ D.TOz o7) (G1.keep' _ _ (fun c hc o e=>up c o (fun q=>r1.1 (q ▸ hc)) e) t1) (G2.keep' _ _ (fun c hc o e=>up c o (fun q=>r2.1 (q ▸ hc)) e) t2) p9 fun c o n e=>up c o (fun q=>n (by simp [q])) (old c o n e)
theorem Zrb {z TI TO i1 i2:Addr} {f1 f2:List Addr} {S1 T1 S2:Heap→Prop} {a b:Value} {Q:Fin→Shared→Prop} (hh:A.handled = none) (D:ZA z TI TO i1 i2 f1 f2) (g1:Zgf P w i1 f1 S1\/(∃ x,Gives P w i1 f1 S1 x T1)/\Zgf P w i2 f2 S2)
  (hz:IsZip s.heap z TI TO .none) (hTI:IsPair s.heap TI (.ref i1) (.ref i2)) (hTO:IsPair s.heap TO a b) (h1:S1 s.heap) (h2:S2 s.heap)
  (hE:∀ h' e,(∀ c o,c ∉ [z,TO,i1,i2]→s.heap.get? c = some o→h'.get? c = some o)→(∃ o,h'.get? e = some o/\o.cls = .type "StopIteration")→E (.ref e) { s with heap:=h' }) :
  wpAny (model P w) A (Builtin.«zip.__next__» ⟨[.ref z],[]⟩) Q E s:=by
 have r1:z ∉ f1/\TO ∉ f1/\i2 ∉ f1:=⟨fun m=>(D.a1 z m).1 rfl,fun m=>(D.a1 TO m).2.1 rfl,fun m=>(D.a1 i2 m).2.2 rfl⟩
 have r2:z ∉ f2/\TO ∉ f2/\i1 ∉ f2:=⟨fun m=>(D.a2 z m).1 rfl,fun m=>(D.a2 TO m).2.1 rfl,fun m=>(D.a2 i1 m).2.2 rfl⟩
 have st:∀ {b:Addr} {h h':Heap} {f:List Addr},Heap.SameBut b h h'→b ∉ f→∀ c ∈ f,∀ o,h.get? c = some o→h'.get? c = some o:=fun sb hb c hc o e=>sb.extBut _ _ (fun q=>hb (q ▸ hc)) e
 show wpAny _ _ (field (.ref z) 2 >>= _) _ _ _
 refine wpAny_bind (wpAny_field hz rfl (x:=.bool false) rfl ?_)
 show wpAny _ _ (field (.ref z) 3 >>= _) _ _ _
 refine wpAny_bind (wpAny_field hz rfl (x:=.ref TI) rfl (wpAny_bind (wpAny_seqItems hTI rfl ?_)))
 show wpAny _ _ (Builtin.SmallTypes.ownedTupleIsFree (.ref z) >>= _) _ _ _
 refine wpAny_bind ?_
 unfold Builtin.SmallTypes.ownedTupleIsFree
 refine wpAny_bind (wpAny_field hz rfl (x:=.none) rfl (wpAny_pure ?_))
 simp only [if_true]
 refine wpAny_bind (wpAny_rule (wpAny_bind (wpAny_field hz rfl (x:=.ref TO) rfl (wpAny_bind (wpAny_setField_rec hz (by simp) fun h3 z3 b3=>?_)))))
 replace z3:IsZip h3 z TI TO .ellipsis:=z3
 refine wpAny_bind ?_
 simp only [List.zipIdx_cons,List.zipIdx_nil,List.forIn_cons,List.forIn_nil]
 refine wpAny_bind (wpAny_bind (wpAny_onRaise ?_))
 show wpAny _ _ (Builtin.SmallTypes.nextOf (.ref i1) >>= _) _ _ _
 rcases g1 with G1 | ⟨⟨x,G1⟩,G2⟩
 .obtain ⟨i1z,i1O,i12⟩:=D.a1 i1 G1.mem
  refine wpAny_bind (G1.run (s:={ s with heap:=h3 }) hh (G1.keep _ _ (st b3 r1.1) h1) fun h4 e b4 he=>?_)
  obtain ⟨oe,hoe,hce⟩:=he
  have z4:IsZip h4 z TI TO .ellipsis:=b4 _ _ i1z.symm z3
  have ez:e ≠ z:=fun q=>by subst q; rw [z4] at hoe; cases hoe; simp at hce
  refine wpAny_setField_rec z4 (by simp) fun h5 _ b5=>hE h5 e (fun c o n q=>?_) ⟨oe,b5.extBut _ _ ez hoe,hce⟩
  simp only [List.mem_cons,List.not_mem_nil,or_false,not_or] at n
  exact b5.extBut _ _ n.1 (b4 _ _ n.2.2.1 (b3.extBut _ _ n.1 q))
 .obtain ⟨i1z,i1O,i12⟩:=D.a1 i1 G1.mem
  obtain ⟨i2z,i2O,i21⟩:=D.a2 i2 G2.mem
  refine wpAny_bind (G1.run (s:={ s with heap:=h3 }) (G1.keep _ _ (st b3 r1.1) h1) fun h4 k4 b4=>wpAny_pure ?_)
  have o4:IsPair h4 TO a b:=b4.extBut _ _ i1O.symm (b3.extBut _ _ D.TOz hTO)
  refine wpAny_bind (wpAny_seqItems o4 rfl (wpAny_bind (Zhl (s:={ s with heap:=h4 }) o4 fun h5 o5 b5=>wpAny_bind (wpAny_letGo (wpAny_pure ?_)))))
  refine wpAny_bind (wpAny_bind (wpAny_onRaise ?_))
  show wpAny _ _ (Builtin.SmallTypes.nextOf (.ref i2) >>= _) _ _ _
  refine wpAny_bind (G2.run (s:={ s with heap:=h5 }) hh (G2.keep _ _ (st b5 r2.2.1) (G2.keep _ _ (st b4 r2.2.2) (G2.keep _ _ (st b3 r2.1) h2))) fun h6 e b6 he=>?_)
  obtain ⟨oe,hoe,hce⟩:=he
  have z6:IsZip h6 z TI TO .ellipsis:=b6 _ _ i2z.symm (b5.extBut _ _ D.TOz.symm (b4.extBut _ _ i1z.symm z3))
  have ez:e ≠ z:=fun q=>by subst q; rw [z6] at hoe; cases hoe; simp at hce
  refine wpAny_setField_rec z6 (by simp) fun h7 _ b7=>hE h7 e (fun c o n q=>?_) ⟨oe,b7.extBut _ _ ez hoe,hce⟩
  simp only [List.mem_cons,List.not_mem_nil,or_false,not_or] at n
  exact b7.extBut _ _ n.1 (b6 _ _ n.2.2.2 (b5.extBut _ _ n.2.1 (b4.extBut _ _ n.2.2.1 (b3.extBut _ _ n.1 q))))
theorem Zmg {z TI TO i1 i2:Addr} {f1 f2:List Addr} {S1 T1 S2 T2:Heap→Prop} {x y a b:Value} {Q:Option Value→Shared→Prop} (D:ZA z TI TO i1 i2 f1 f2) (G1:Gives P w i1 f1 S1 x T1) (G2:Gives P w i2 f2 S2 y T2)
  (hz:IsZip s.heap z TI TO .none) (hTI:IsPair s.heap TI (.ref i1) (.ref i2)) (hTO:IsPair s.heap TO a b) (h1:S1 s.heap) (h2:S2 s.heap)
  (hQ:∀ h',IsZip h' z TI TO (rawInt s.heap.objs.size)→IsPair h' TO x y→T1 h'→T2 h'→IsPair h' s.heap.objs.size x y →
   (∀ c o,c ∉ [z,TO,i1,i2]→s.heap.get? c = some o→h'.get? c = some o)→Q (some (.ref s.heap.objs.size)) { s with heap:=h' }):wpAny (model P w) A (pyNext (.ref z)) Q E s:=by
 have hT:s.TypeIs (.ref z) "zip" := ⟨_,hz,rfl⟩
 unfold pyNext
 exact wpAny_bind (wpAny_attempt (wpAny_callSpecial?_slot (name:=Str.ofString "__next__") hT F.slot_zip_next (wpAny_call_entry F.slot_zip_next hT F.entry_zip_next (Zpa D G1 G2 hz hTI hTO h1 h2 fun h' a1 a2 a3 a4 a5 a6=>wpAny_pure (hQ h' a1 a2 a3 a4 a5 a6)) (F.args_zip_next_1 _))))
theorem Zpb {z TI TO i1 i2:Addr} {f1 f2:List Addr} {S1 T1 S2:Heap→Prop} {a b:Value} {Q:Option Value→Shared→Prop} (hh:A.handled = none) (D:ZA z TI TO i1 i2 f1 f2) (g1:Zgf P w i1 f1 S1\/(∃ x,Gives P w i1 f1 S1 x T1)/\Zgf P w i2 f2 S2)
  (hz:IsZip s.heap z TI TO .none) (hTI:IsPair s.heap TI (.ref i1) (.ref i2)) (hTO:IsPair s.heap TO a b) (h1:S1 s.heap) (h2:S2 s.heap)
  (hQ:∀ h',(∀ c o,c ∉ [z,TO,i1,i2]→s.heap.get? c = some o→h'.get? c = some o)→Q none { s with heap:=h' }):wpAny (model P w) A (pyNext (.ref z)) Q E s:=by
 have hT:s.TypeIs (.ref z) "zip" := ⟨_,hz,rfl⟩
 unfold pyNext
 refine wpAny_bind (wpAny_attempt (wpAny_callSpecial?_slot (name:=Str.ofString "__next__") hT F.slot_zip_next (wpAny_call_entry F.slot_zip_next hT F.entry_zip_next (Zrb hh D g1 hz hTI hTO h1 h2 fun h' e hk he=>?_) (F.args_zip_next_1 _))))
 obtain ⟨o,ho,hc⟩:=he
 exact wpAny_bind (wpAny_isInstance (T := "StopIteration") (b:=true) ⟨o,ho,hc⟩ isSubtype_stop (wpAny_pure (hQ _ hk)))
theorem Znb {it t:Addr}  {items:Array Value} {x:Value} (hx:items[i]? = some x):Gives P w it [it,t] (fun h=>IsTupIter h it t i/\IsTup h t items) x (fun h=>IsTupIter h it t (i + 1)) where
 mem:=by simp
 run:=fun {A E s Q} ⟨hit,ht⟩ hQ=>by
  obtain ⟨o,ho,hc,hd⟩:=id hit
  obtain ⟨ol,hol,_,nl,hdl⟩:=ht
  unfold Builtin.SmallTypes.nextOf
  refine wpAny_bind (wpAny_callSpecial?_slot (name:=Str.ofString "__next__") hit.typeIs slot_tupleiter_next (wpAny_call_entry slot_tupleiter_next hit.typeIs entry_tupleiter_next ?_ (args_tupleiter_next _)))
  show wpAny _ _ (field (.ref it) 0 >>= _) _ _ s
  refine wpAny_bind (wpAny_field ho hd (x:=.ref t) rfl ?_)
  show wpAny _ _ (if (Value.ref t == Value.none) = true then _ else _) _ _ s
  rw [if_neg (show ¬ ((Value.ref t == Value.none) = true) from Bool.false_ne_true)]
  show wpAny _ _ (field (.ref it) 1 >>= _) _ _ s
  refine wpAny_bind (wpAny_field ho hd (x:=.int i 0) rfl ?_)
  show wpAny _ _ (seqItems? (.ref t) >>= _) _ _ s
  refine wpAny_bind (wpAny_seqItems hol hdl ?_)
  simp only [Int.toNat_natCast,hx]
  refine wpAny_bind (wpAny_setField ho hd (by simp) (wpAny_pure ⟨x,rfl,wpAny_pure (hQ _ ?_ (Heap.SameBut.update ..))⟩))
  exact ⟨_,Heap.get?_update_self _ ho (Obj.isFreed_of_fields (Obj.data_mapFields hd _)),(Obj.cls_mapFields ..).trans hc,by rw [Obj.data_mapFields hd]; simp [rawInt]⟩
 keep:=fun h h' k ⟨⟨o,a1,a2⟩,⟨o',b1,b2⟩⟩=>⟨⟨o,k it (by simp) o a1,a2⟩,⟨o',k t (by simp) o' b1,b2⟩⟩
 keep':=fun h h' k ⟨o,a1,a2⟩=>⟨o,k it (by simp) o a1,a2⟩
theorem Zsx {it t:Addr}  {items:Array Value} (hx:items[i]? = none):Zgf P w it [it,t] (fun h=>IsTupIter h it t i/\IsTup h t items) where
 mem:=by simp
 run:=fun {A E s Q} hh ⟨hit,ht⟩ hE=>by
  obtain ⟨o,ho,hc,hd⟩:=id hit
  obtain ⟨ol,hol,_,nl,hdl⟩:=ht
  unfold Builtin.SmallTypes.nextOf
  refine wpAny_bind (wpAny_callSpecial?_slot (name:=Str.ofString "__next__") hit.typeIs slot_tupleiter_next (wpAny_call_entry slot_tupleiter_next hit.typeIs entry_tupleiter_next ?_ (args_tupleiter_next _)))
  show wpAny _ _ (field (.ref it) 0 >>= _) _ _ s
  refine wpAny_bind (wpAny_field ho hd (x:=.ref t) rfl ?_)
  show wpAny _ _ (if (Value.ref t == Value.none) = true then _ else _) _ _ s
  rw [if_neg (show ¬ ((Value.ref t == Value.none) = true) from Bool.false_ne_true)]
  show wpAny _ _ (field (.ref it) 1 >>= _) _ _ s
  refine wpAny_bind (wpAny_field ho hd (x:=.int i 0) rfl ?_)
  show wpAny _ _ (seqItems? (.ref t) >>= _) _ _ s
  refine wpAny_bind (wpAny_seqItems hol hdl ?_)
  simp only [Int.toNat_natCast,hx]
  refine wpAny_bind (wpAny_rule (wpAny_bind (wpAny_setField ho hd (by simp) ?_)))
  show wpAny _ _ (newExc (.type "StopIteration") [] >>= _) _ _ _
  refine wpAny_bind ?_
  simp only [newExc,newTuple]
  refine wpAny_bind (wpAny_newObj_type ?_ (by size_fits))
  refine wpAny_bind (m:=firstArgMember _ _) (wpAny_of_eq (a:=Value.none) (by first | rfl | (simp only [firstArgMember]; rfl)) ?_)
  refine wpAny_newObj_type ?_ (by size_fits)
  simp only [raiseNew]
  refine wpAny_bind (wpAny_handled ?_)
  first | rw [show A.in1.handled = none from hh] | rw [hh]
  exact wpAny_bind (wpAny_pure (wpAny_throw (hE _ _ (((Heap.SameBut.update ..).extBut.push _).push _) ⟨_,Heap.get?_push_size _ rfl,rfl⟩)))
 keep:=fun h h' k ⟨⟨o,a1,a2⟩,⟨o',b1,b2⟩⟩=>⟨⟨o,k it (by simp) o a1,a2⟩,⟨o',k t (by simp) o' b1,b2⟩⟩
abbrev zT1 (h:Heap) (a:Addr):Heap:=h.push { cls:=.type "tuple_iterator", data:=.fields #[.ref a,.int 0 0] }
abbrev zT2 (h:Heap) (a b:Addr):Heap:=(zT1 h a).push { cls:=.type "tuple_iterator", data:=.fields #[.ref b,.int 0 0] }
abbrev zT3 (h:Heap) (a b:Addr):Heap:=(zT2 h a b).push { cls:=.type "tuple", data:=.seq #[.ref h.objs.size,.ref (zT1 h a).objs.size] }
abbrev zT4 (h:Heap) (a b:Addr):Heap:=(zT3 h a b).push { cls:=.type "tuple", data:=.seq #[.none,.none] }
abbrev zT5 (h:Heap) (a b:Addr):Heap:=(zT4 h a b).push { cls:=.type "zip", data:=.fields #[.none,.bool false,.bool false,.ref (zT2 h a b).objs.size,.ref (zT3 h a b).objs.size] }
theorem Zr6 (a b:Addr) (xs ys:Array Value) :
  Meets (Builtin.«zip.__new__» ⟨[.type "zip", .ref a,.ref b],[]⟩) (fun _ R s=>IsTup s.heap a xs/\IsTup s.heap b ys/\R (.ok (.ret (.ref (zT4 s.heap a b).objs.size))) { s with heap:=zT5 s.heap a b }) :=
 .of_wp fun prog w A R s h=>by
  obtain ⟨hp,g,d,tk,os⟩:=s
  obtain ⟨h1,h2,h⟩:=h
  have hsub:=sub_zip
  have hL1:IsTup (Shared.heap ⟨hp,g,d,tk,os⟩) a xs:=h1
  have hL2:IsTup (Shared.heap ⟨hp.push { cls:=.type "tuple_iterator", data:=.fields #[.ref a,.int 0 0] },g,d,tk,os⟩) b ys:=h2.push _
  wp_walk using iter_tuple hL1,iter_tuple hL2
  exact ⟨_,rfl,h⟩
theorem Zno {b:Addr} {xs ys:Array Value}  (h1:IsTup s.heap a xs) (h2:IsTup s.heap b ys)
  (h:∀ h' n,n = s.heap.objs.size→IsZip h' (n + 4) (n + 2) (n + 3) .none→IsPair h' (n + 2) (.ref n) (.ref (n + 1))→IsPair h' (n + 3) .none .none→IsTupIter h' n a 0→IsTupIter h' (n + 1) b 0 →
   (∀ c o,s.heap.get? c = some o→h'.get? c = some o)→Q (.ref (n + 4)) { s with heap:=h' }):wpAny (model P w) A (call (.type "zip") [.ref a,.ref b]) Q E s:=by
 refine callType_new F.called_zip (by decide) (F.typeCall_zip_2 _ _) (F.newCall_zip_2 _ _) (fun obj=>F.args_object_init_3 obj _ _) F.entry_zip_new (Zr6 a b xs ys) ⟨h1,h2,?_⟩
 have e1:(zT1 s.heap a).objs.size = s.heap.objs.size + 1:=Heap.size_push ..
 have e2:(zT2 s.heap a b).objs.size = s.heap.objs.size + 2:=by rw [Heap.size_push,e1]
 have e3:(zT3 s.heap a b).objs.size = s.heap.objs.size + 3:=by rw [Heap.size_push,e2]
 have e4:(zT4 s.heap a b).objs.size = s.heap.objs.size + 4:=by rw [Heap.size_push,e3]
 have up:∀ {c o},(zT1 s.heap a).get? c = some o→(zT5 s.heap a b).get? c = some o:=fun x=>Heap.get?_push_of_some _ (Heap.get?_push_of_some _ (Heap.get?_push_of_some _ (Heap.get?_push_of_some _ x)))
 have p5:(zT5 s.heap a b).get? (zT4 s.heap a b).objs.size = some _:=Heap.get?_push_size _ rfl
 have p4:(zT5 s.heap a b).get? (zT3 s.heap a b).objs.size = some _:=Heap.get?_push_of_some _ (Heap.get?_push_size _ rfl)
 have p3:(zT5 s.heap a b).get? (zT2 s.heap a b).objs.size = some _:=Heap.get?_push_of_some _ (Heap.get?_push_of_some _ (Heap.get?_push_size _ rfl))
 have p2:(zT5 s.heap a b).get? (zT1 s.heap a).objs.size = some _:=Heap.get?_push_of_some _ (Heap.get?_push_of_some _ (Heap.get?_push_of_some _ (Heap.get?_push_size _ rfl)))
 have p1:(zT5 s.heap a b).get? s.heap.objs.size = some _:=up (Heap.get?_push_size _ rfl)
 show _/\_
 rw [e2,e3,e4] at p5
 rw [e1,e2] at p3
 rw [e3] at p4
 rw [e1] at p2
 rw [e4]
 exact ⟨⟨_,p5,rfl⟩,h _ _ rfl p5 p3 p4 ⟨_,p1,rfl,rfl⟩ ⟨_,p2,rfl,rfl⟩ fun c o x=>up (Heap.get?_push_of_some _ x)⟩
theorem nn {n a b:Nat} (h:a ≠ b):n + a ≠ n + b:=fun e=>h (Nat.add_left_cancel e)
theorem n0 {n b:Nat} (h:0 ≠ b):n ≠ n + b:=fun e=>h (Nat.add_left_cancel (n:=n) e)
theorem nlt {n a c:Nat} (h:a < n):a ≠ n + c:=Nat.ne_of_lt (Nat.lt_of_lt_of_le h (Nat.le_add_right ..))
theorem ZA.new {n a b:Nat} (h1:a < n) (h2:b < n):ZA (n + 4) (n + 2) (n + 3) n (n + 1) [n,a] [n + 1,b] where
 TIz:=(by first | exact nn (by decide) | exact n0 (by decide) | exact (n0 (by decide)).symm | exact nlt h1 | exact nlt h2 | exact (nlt h1).symm | exact (nlt h2).symm | exact Nat.ne_of_lt h1 | exact Nat.ne_of_lt h2 | exact Nat.ne_of_gt h1 | exact Nat.ne_of_gt h2 | omega)
 TOz:=(by first | exact nn (by decide) | exact n0 (by decide) | exact (n0 (by decide)).symm | exact nlt h1 | exact nlt h2 | exact (nlt h1).symm | exact (nlt h2).symm | exact Nat.ne_of_lt h1 | exact Nat.ne_of_lt h2 | exact Nat.ne_of_gt h1 | exact Nat.ne_of_gt h2 | omega)
 a1:=fun c hc=>by
  simp only [List.mem_cons,List.not_mem_nil,or_false] at hc
  rcases hc with rfl | rfl
  .exact ⟨(by first | exact nn (by decide) | exact n0 (by decide) | exact (n0 (by decide)).symm | exact nlt h1 | exact nlt h2 | exact (nlt h1).symm | exact (nlt h2).symm | exact Nat.ne_of_lt h1 | exact Nat.ne_of_lt h2 | exact Nat.ne_of_gt h1 | exact Nat.ne_of_gt h2 | omega),(by first | exact nn (by decide) | exact n0 (by decide) | exact (n0 (by decide)).symm | exact nlt h1 | exact nlt h2 | exact (nlt h1).symm | exact (nlt h2).symm | exact Nat.ne_of_lt h1 | exact Nat.ne_of_lt h2 | exact Nat.ne_of_gt h1 | exact Nat.ne_of_gt h2 | omega),(by first | exact nn (by decide) | exact n0 (by decide) | exact (n0 (by decide)).symm | exact nlt h1 | exact nlt h2 | exact (nlt h1).symm | exact (nlt h2).symm | exact Nat.ne_of_lt h1 | exact Nat.ne_of_lt h2 | exact Nat.ne_of_gt h1 | exact Nat.ne_of_gt h2 | omega)⟩
  .exact ⟨(by first | exact nn (by decide) | exact n0 (by decide) | exact (n0 (by decide)).symm | exact nlt h1 | exact nlt h2 | exact (nlt h1).symm | exact (nlt h2).symm | exact Nat.ne_of_lt h1 | exact Nat.ne_of_lt h2 | exact Nat.ne_of_gt h1 | exact Nat.ne_of_gt h2 | omega),(by first | exact nn (by decide) | exact n0 (by decide) | exact (n0 (by decide)).symm | exact nlt h1 | exact nlt h2 | exact (nlt h1).symm | exact (nlt h2).symm | exact Nat.ne_of_lt h1 | exact Nat.ne_of_lt h2 | exact Nat.ne_of_gt h1 | exact Nat.ne_of_gt h2 | omega),(by first | exact nn (by decide) | exact n0 (by decide) | exact (n0 (by decide)).symm | exact nlt h1 | exact nlt h2 | exact (nlt h1).symm | exact (nlt h2).symm | exact Nat.ne_of_lt h1 | exact Nat.ne_of_lt h2 | exact Nat.ne_of_gt h1 | exact Nat.ne_of_gt h2 | omega)⟩
 a2:=fun c hc=>by
  simp only [List.mem_cons,List.not_mem_nil,or_false] at hc
  rcases hc with rfl | rfl
  .exact ⟨(by first | exact nn (by decide) | exact n0 (by decide) | exact (n0 (by decide)).symm | exact nlt h1 | exact nlt h2 | exact (nlt h1).symm | exact (nlt h2).symm | exact Nat.ne_of_lt h1 | exact Nat.ne_of_lt h2 | exact Nat.ne_of_gt h1 | exact Nat.ne_of_gt h2 | omega),(by first | exact nn (by decide) | exact n0 (by decide) | exact (n0 (by decide)).symm | exact nlt h1 | exact nlt h2 | exact (nlt h1).symm | exact (nlt h2).symm | exact Nat.ne_of_lt h1 | exact Nat.ne_of_lt h2 | exact Nat.ne_of_gt h1 | exact Nat.ne_of_gt h2 | omega),(by first | exact nn (by decide) | exact n0 (by decide) | exact (n0 (by decide)).symm | exact nlt h1 | exact nlt h2 | exact (nlt h1).symm | exact (nlt h2).symm | exact Nat.ne_of_lt h1 | exact Nat.ne_of_lt h2 | exact Nat.ne_of_gt h1 | exact Nat.ne_of_gt h2 | omega)⟩
  .exact ⟨(by first | exact nn (by decide) | exact n0 (by decide) | exact (n0 (by decide)).symm | exact nlt h1 | exact nlt h2 | exact (nlt h1).symm | exact (nlt h2).symm | exact Nat.ne_of_lt h1 | exact Nat.ne_of_lt h2 | exact Nat.ne_of_gt h1 | exact Nat.ne_of_gt h2 | omega),(by first | exact nn (by decide) | exact n0 (by decide) | exact (n0 (by decide)).symm | exact nlt h1 | exact nlt h2 | exact (nlt h1).symm | exact (nlt h2).symm | exact Nat.ne_of_lt h1 | exact Nat.ne_of_lt h2 | exact Nat.ne_of_gt h1 | exact Nat.ne_of_gt h2 | omega),(by first | exact nn (by decide) | exact n0 (by decide) | exact (n0 (by decide)).symm | exact nlt h1 | exact nlt h2 | exact (nlt h1).symm | exact (nlt h2).symm | exact Nat.ne_of_lt h1 | exact Nat.ne_of_lt h2 | exact Nat.ne_of_gt h1 | exact Nat.ne_of_gt h2 | omega)⟩
theorem ZA.new2 (n:Nat):(n + 2:Nat) ≠ n + 3/\(n + 2:Nat) ≠ n/\(n + 2:Nat) ≠ n + 1:=⟨nn (by decide),(n0 (by decide)).symm,nn (by decide)⟩
section
variable    {a:Expr} 
def Zzh (ds:List PyData):Option (List PyData):=match ds with | [.list as,.list bs]=>some (Zj8 as bs) | [.tuple as,.tuple bs]=>some (Zj8 as bs) | _=>none
def Zjc (a:FA):FI:=fun δ=>(a δ).bind fun p=>(Zzh (OT.datas p.1)).bind fun ds=>some (ds,p.2)
end
end L2
namespace L2
open PySem PySem.Spec PyProof.Rows
section
variable     {se:Expr} {tl th ts:TO} 
end
section
variable    {a:Expr}   {se:Expr} {ml mh ms:MOt}  
end
end L2
namespace L2
open PySem PySem.Spec PyProof.Rows
section
variable   {c1 c3 c4:Bool} {a d:Expr} {mc md:MEt}  {f g h:Int→Int→Bool} {td:TE} {fd:FE} 
end
end L2
namespace L2
open PySem PySem.Spec PyProof.Rows
section
variable    {a:Expr}   
def isFn (y:Str) (d:PyData):Bool:=match d with | .dict [(.str x,.bool true)]=>decide (x = y) | _=>false
end
section
variable    {a:Expr}  
end
end L2
namespace L2
open PySem PySem.Spec PyProof.Rows
theorem Z1q  {p:α→Prop} {a b c d:α} (h1:p a) (h2:p b) (h3:p c) (h4:p d):∀ x ∈ [a,b,c,d],p x:=by
 intro x hx
 rcases List.mem_cons.mp hx with rfl | hx
 .exact h1
 rcases List.mem_cons.mp hx with rfl | hx
 .exact h2
 rcases List.mem_cons.mp hx with rfl | hx
 .exact h3
 rcases List.mem_singleton.mp hx with rfl
 exact h4
theorem Z6n  {p:α→Prop} {a b c d e:α} (h1:p a) (h2:p b) (h3:p c) (h4:p d) (h5:p e):∀ x ∈ [a,b,c,d,e],p x:=fun x hx=>(List.mem_cons.mp hx).elim (fun q=>q ▸ h1) (Z1q h2 h3 h4 h5 x)
theorem no4  {a b c d x:α} (h1:x ≠ a) (h2:x ≠ b) (h3:x ≠ c) (h4:x ≠ d):x ∉ [a,b,c,d]:=fun hx=>Z1q (p:=fun y=>x ≠ y) h1 h2 h3 h4 x hx rfl
def SqB (K:PySem.W.Frag) (t:Bool) (H:Hp) (a:Addr) (xs:List V):Prop:=match t with | true=>H a = some (.tup xs) | false=>SqL K H a xs
def IsB (t:Bool) (h:Heap) (a:Addr) (its:Array Value):Prop:=match t with | true=>IsTup h a its | false=>h.IsList a its
def ItB (t:Bool) (h:Heap) (it a:Addr) (i:Nat):Prop:=match t with | true=>IsTupIter h it a i | false=>h.IsListIter it a i
theorem ItB.at {t:Bool}  {it:Addr}  (x:ItB t h it a i) (k:∀ o,h.get? it = some o→h'.get? it = some o):ItB t h' it a i:=by
 cases t with
 | false=>exact Heap.IsListIter.at x k
 | true =>
  obtain ⟨o,ho,r⟩:=x
  exact ⟨o,k o ho,r⟩
theorem ItB.obj {t:Bool}  {it:Addr}  (x:ItB t h it a i):∃ o,h.get? it = some o/\∀ v,o.data ≠ .cell v:=by
 cases t with
 | false =>
  obtain ⟨o,ho,_,d⟩:=x
  exact ⟨o,ho,fun v q=>by rw [d] at q; cases q⟩
 | true =>
  obtain ⟨o,ho,_,d⟩:=x
  exact ⟨o,ho,fun v q=>by rw [d] at q; cases q⟩
theorem IsB.lt {t:Bool}   {its:Array Value} (x:IsB t h a its):a < h.objs.size:=by
 cases t with
 | false =>
  obtain ⟨o,ho,_⟩:=x
  exact Heap.lt_size ho
 | true =>
  obtain ⟨o,ho,_⟩:=x
  exact Heap.lt_size ho
theorem SqB.its   {σ:St}   {t:Bool}   (I:Inv X pins σ H s) (h:SqB X.K t H a xs):∃ its:List Value,Vals xs its/\IsB t s.heap a its.toArray:=by
 cases t with
 | false =>
  obtain ⟨its,r,p,_⟩:=I.list h
  exact ⟨its,r,p.isList⟩
 | true =>
  obtain ⟨_,its,r,p⟩:=(show ObjOk X.prog X.w H s.heap a (.tup xs) from I.hok a _ h)
  exact ⟨its,r,p⟩
theorem SqB.inj   {σ:St}   {t:Bool}   (I:Inv X pins σ H s) (h:SqB X.K t H a xs) (k:SqB X.K t H a ys):xs = ys:=by
 cases t with
 | false=>exact I.list_inj h k
 | true =>
  have:=(show H a = some (.tup xs) from h).symm.trans k
  cases this
  rfl
theorem Zp2 {t:Bool} {it:Addr}  {items:Array Value} {x:Value} (hx:items[i]? = some x):Gives P w it [it,a] (fun h=>ItB t h it a i/\IsB t h a items) x (fun h=>ItB t h it a (i + 1)):=by
 cases t with
 | true=>exact Znb hx
 | false =>
  exact ⟨.head _,fun st hQ=>wpAny_nextOf_list_item st.1 st.2 hx hQ,fun h h' k st=>⟨Heap.IsListIter.at st.1 fun o e=>k it (.head _) o e,by
   obtain ⟨o,ho,r⟩:=st.2
   exact ⟨o,k a (.tail _ (.head _)) o ho,r⟩⟩,fun h h' k st=>Heap.IsListIter.at st fun o e=>k it (.head _) o e⟩
theorem Z1d {t:Bool} {it:Addr}  {items:Array Value} (hx:items[i]? = none):Zgf P w it [it,a] (fun h=>ItB t h it a i/\IsB t h a items):=by
 cases t with
 | true=>exact Zsx hx
 | false =>
  exact ⟨.head _,fun hh st hE=>wpAny_nextOf_list_end hh st.1 st.2 hx hE,fun h h' k st=>⟨Heap.IsListIter.at st.1 fun o e=>k it (.head _) o e,by
   obtain ⟨o,ho,r⟩:=st.2
   exact ⟨o,k a (.tail _ (.head _)) o ho,r⟩⟩⟩
def Z9m (K:PySem.W.Frag) (t:Bool) (a b:Addr):It :=
 ⟨fun i H=>∃ xs ys x y,SqB K t H a xs/\SqB K t H b ys/\xs[i]? = some x/\ys[i]? = some y,
   fun i H v H'=>∃ p x y,H p = none/\v = .ref p/\H' = upd H p (.tup [x,y])/\(∀ xs,SqB K t H a xs→xs[i]? = some x)/\∀ ys,SqB K t H b ys→ys[i]? = some y,
   fun i H=>∃ xs ys,SqB K t H a xs/\SqB K t H b ys/\(xs.length <= i\/ys.length <= i)⟩
def Z8r (t:Bool) (z TI TO i1 i2 a b:Addr) (i:Nat) (h:Heap):Prop:=IsZip h z TI TO .none/\IsPair h TI (.ref i1) (.ref i2)/\(∃ x y,IsPair h TO x y)/\ItB t h i1 a i/\ItB t h i2 b i
end L2
variable {i1:Addr}{items:Array Value}{gg:FG}{S:FS}{S1 T1:Heap→Prop}{np kk:Nat}{o:OT}{pt2:Pos}{td:TE}
namespace L2
open PySem PySem.Spec PyProof.Rows
theorem Zok       {t:Bool} {z TI TO i2 b:Addr} (D:ZA z TI TO i1 i2 [i1,a] [i2,b]) (D2:TI ≠ TO/\TI ≠ i1/\TI ≠ i2):Turn P w K (.Tuple es kk pos) (Z9m K t a b) [z,TI,TO,i1,i2] z (Z8r t z TI TO i1 i2 a b) where
 mem:=.head _
 obj:=fun i h st=>by
  obtain ⟨s1,s2,⟨x,y,s3⟩,s4,s5⟩:=st
  exact Z6n ⟨_,s1,fun v q=>by cases q⟩ ⟨_,s2,fun v q=>by cases q⟩ ⟨_,s3,fun v q=>by cases q⟩ s4.obj s5.obj
 keep:=fun i h h' st k=>by
  obtain ⟨s1,s2,⟨x,y,s3⟩,s4,s5⟩:=st
  have m2:TI ∈ [z,TI,TO,i1,i2]:=.tail _ (.head _)
  have m3:TO ∈ [z,TI,TO,i1,i2]:=.tail _ (.tail _ (.head _))
  have m4:i1 ∈ [z,TI,TO,i1,i2]:=.tail _ (.tail _ (.tail _ (.head _)))
  have m5:i2 ∈ [z,TI,TO,i1,i2]:=.tail _ (.tail _ (.tail _ (.tail _ (.head _))))
  exact ⟨k z (.head _) _ s1,k TI m2 _ s2,⟨x,y,k TO m3 _ s3⟩,s4.at (k i1 m4),s5.at (k i2 m5)⟩
 item:=by
  intro X hP hw hK hc i pins s σ H E I hf st hg
  subst hP hw hK
  obtain ⟨s1,s2,⟨x0,y0,s3⟩,s4,s5⟩:=st
  obtain ⟨xs,ys,x,y,hx,hy,ex,ey⟩:=hg
  obtain ⟨its,rx,px⟩:=hx.its I
  obtain ⟨its',ry,py⟩:=hy.its I
  obtain ⟨u,hu,ru⟩:=rx.get ex
  obtain ⟨u',hu',ru'⟩:=ry.get ey
  rw [<- List.getElem?_toArray] at hu hu'
  refine Zmg D (Zp2 hu) (Zp2 hu') s1 s2 s3 ⟨s4,px⟩ ⟨s5,py⟩ fun h' g1 g2 g3 g4 g5 g6=>?_
  refine ⟨_,rfl,wpAny_letOwnedTupleGo_zip (s:={ s with heap:=h' }) g1 fun h2 z2 sb=>?_⟩
  have up:∀ c o,c ≠ z→h'.get? c = some o→h2.get? c = some o:=fun c o n e=>(sb.2 c n).trans e
  have kp:∀ c o,c ∉ [z,TO,i1,i2]→s.heap.get? c = some o→h2.get? c = some o:=fun c o n e=>up c o (fun q=>n (q ▸ .head _)) (g6 c o n e)
  have t5:IsPair h2 s.heap.objs.size u u':=up _ _ (Nat.ne_of_gt (Heap.lt_size s1)) g5
  have i1z:=(D.a1 i1 (.head _)).1
  have i2z:=(D.a2 i2 (.head _)).1
  have n3:=g3.at (up i1 · i1z)
  have n4:=g4.at (up i2 · i2z)
  obtain ⟨f1,f2,f3,f4,f5⟩:(Zgn X pins H z/\Zgn X pins H TI/\Zgn X pins H TO/\Zgn X pins H i1/\Zgn X pins H i2):=⟨hf _ (.head _),hf _ (.tail _ (.head _)),hf _ (.tail _ (.tail _ (.head _))),hf _ (.tail _ (.tail _ (.tail _ (.head _)))),hf _ (.tail _ (.tail _ (.tail _ (.tail _ (.head _)))))⟩
  have I2:Inv X pins σ (upd H s.heap.objs.size (.tup [x,y])) { s with heap:=h2 } :=
   I.turnTup (ch:=[z,TO,i1,i2]) (its:=[u,u']) (Z1q f1 f3 f4 f5) kp (Z1q ⟨_,z2⟩ ⟨_,up _ _ D.TOz g2⟩ (n3.obj.imp fun _ q=>q.1) (n4.obj.imp fun _ q=>q.1)) (Nat.le_refl _) Z20 (.cons ru (.cons ru' .nil)) ⟨_,t5,rfl,0,rfl⟩
  have lt:∀ {c:Addr} {o:Obj},s.heap.get? c = some o→Zgn X pins H c→upd H s.heap.objs.size (.tup [x,y]) c = none:=fun e f=>by rw [Zk (Nat.ne_of_lt (Heap.lt_size e))]; exact f.1
  refine ⟨.ref s.heap.objs.size,_,I2,rfl,⟨_,x,y,I.fresh,rfl,rfl,fun zs hz=>by rw [hz.inj I hx]; exact ex,fun zs hz=>by rw [hz.inj I hy]; exact ey⟩,⟨z2,kp TI _ (no4 D.TIz D2.1 D2.2.1 D2.2.2) s2,⟨_,_,up _ _ D.TOz g2⟩,n3,n4⟩,?_⟩
  obtain ⟨o4,e4,_⟩:=s4.obj
  obtain ⟨o5,e5,_⟩:=s5.obj
  exact Z6n (lt s1 f1) (lt s2 f2) (lt s3 f3) (lt e4 f4) (lt e5 f5)
 done:=by
  intro X hP hw hK hc i pins s σ H E I hf st hg
  subst hP hw hK
  obtain ⟨s1,s2,⟨x0,y0,s3⟩,s4,s5⟩:=st
  obtain ⟨xs,ys,hx,hy,he⟩:=hg
  obtain ⟨its,rx,px⟩:=hx.its I
  obtain ⟨its',ry,py⟩:=hy.its I
  have l1:=rx.length
  have l2:=ry.length
  refine Zpb (I.ok.hd hc) D (S1:=fun h=>ItB t h i1 a i/\IsB t h a its.toArray) (T1:=fun h=>ItB t h i1 a (i + 1)) (S2:=fun h=>ItB t h i2 b i/\IsB t h b its'.toArray) ?_ s1 s2 s3 ⟨s4,px⟩ ⟨s5,py⟩ fun h' k=>⟨rfl,I.turnAll (ch:=[z,TO,i1,i2]) (Z1q (hf _ (.head _)) (hf _ (.tail _ (.tail _ (.head _)))) (hf _ (.tail _ (.tail _ (.tail _ (.head _))))) (hf _ (.tail _ (.tail _ (.tail _ (.tail _ (.head _))))))) k⟩
  cases q:its.toArray[i]? with
  | none=>exact .inl (Z1d q)
  | some v =>
   refine .inr ⟨⟨v,Zp2 q⟩,Z1d ?_⟩
   have:=(Array.getElem?_eq_some_iff.mp q).1
   rw [List.size_toArray] at this
   rw [Array.getElem?_eq_none_iff,List.size_toArray]
   omega
 self:=fun _ _ _ _ _ st h=>wpAny_pyIter_zip st.1 h
theorem Zor      {t:Bool} {b:Addr} {xs ys:Array Value}  (h1:IsB t s.heap a xs) (h2:IsB t s.heap b ys)
  (h:∀ h' n,n = s.heap.objs.size→IsZip h' (n + 4) (n + 2) (n + 3) .none→IsPair h' (n + 2) (.ref n) (.ref (n + 1))→IsPair h' (n + 3) .none .none→ItB t h' n a 0→ItB t h' (n + 1) b 0 →
   (∀ c o,s.heap.get? c = some o→h'.get? c = some o)→Q (.ref (n + 4)) { s with heap:=h' }):wpAny (model P w) A (call (.type "zip") [.ref a,.ref b]) Q E s:=by
 cases t with
 | true=>exact Zno h1 h2 h
 | false=>exact call_zip_2 h1 h2 fun h' g1 g2 g3 g4 g5 _ g7=>h h' _ rfl g1 g2 g3 g4 g5 g7
def Z7m (K:PySem.W.Frag) (ta:TA):TI:=fun σ H R=>ta σ H fun vs H1=>∃ t a b,vs = [.ref a,.ref b]/\(∃ xs,SqB K t H1 a xs)/\(∃ ys,SqB K t H1 b ys)/\R (Z9m K t a b) H1
theorem Zxg   {a:Expr} {ta:TA} {p pt:Pos}   (hK:X.K = K) (hg:Gl X "zip") (hm:X.mg "zip" = none) (hv:bootBuiltins "zip" = some (.type "zip")) (ha:PA X [a,b] ta)
  (he:starEach [a,b] X.env = (false,eval a X.env) :: starEach [b] X.env:=by rfl) (hpl:(backTo pos (starEach [b] X.env)).any (·.1) = false:=by rfl) :
  PI X (.Tuple es kk pt) (.Call (.Name "zip" p) [a,b] [] pos) (Z7m K ta):=by
 subst hK
 intro pins s σ H R I h
 refine wpAny_Call_Name_kw (Zib I hg hm hv ?_ (by decide) (by decide))
 refine PyProof.Rows.callWith_type1 (thn (ha pos pins s σ H _ I h) fun us s1 q=>?_) he hpl
 obtain ⟨vs,H1,I1,r1,t,l1,l2,e1,⟨xs,hx⟩,⟨ys,hy⟩,q⟩:=q
 subst e1
 obtain ⟨u,u',rfl,ru,ru'⟩:=vals2 r1
 cases (show u = Value.ref l1 from ru)
 cases (show u' = Value.ref l2 from ru')
 obtain ⟨its,rx,px⟩:=hx.its I1
 obtain ⟨its',ry,py⟩:=hy.its I1
 refine Zor px py fun h' n en g1 g2 g3 g4 g5 g7=>?_
 have I2:Inv X pins σ H1 { s1 with heap:=h' }:=I1.kept (t':=s1.toks) g7
 refine wpAny_pyIter_zip (s:={ s1 with heap:=h' }) g1 ?_
 refine ⟨_,[_,_,_,_,_],Z8r _ _ _ _ _ _ _ _,_,H1,rfl,I2,Zok (ZA.new (en ▸ px.lt) (en ▸ py.lt)) (ZA.new2 n),⟨g1,g2,⟨_,_,g3⟩,g4,g5⟩,?_,q⟩
 subst en
 have ok:∀ k:Nat,Zgn X pins H1 (s1.heap.objs.size + k):=fun k=>I1.fpOk (Nat.le_add_right _ _) (I1.hok.fresh (Nat.le_add_right _ _))
 exact Z6n (ok 4) (ok 2) (ok 3) (ok 0) (ok 1)
section
variable    {a:Expr}  
def Z5h (t:Bool) (as:List PyData):PyData:=match t with | true=>.tuple as | false=>.list as
theorem Rel.keptSq {C:MC G}  {σ:St}     {t:Bool}  (R:Rel C io H σ δ fp ex) (q:Da G H (fun a=>c = true→Lf C fp ex a) v (Z5h t ds)) :
  ∃ a xs,v = .ref a/\∀ H':Hp,(∀ b o,H b = some o→(c = false\/¬ Foot fp b)→H' b = some o)→SqB G t H' a xs/\Das G H' (fun a=>c = true→(Lf C fp ex a/\H a ≠ none)) xs ds:=by
 cases t with
 | false=>exact R.keptList q
 | true =>
  generalize hd:Z5h true ds = d at q
  cases q with
  | tup e r =>
   cases hd
   rename_i a0 xs0
   refine ⟨a0,xs0,rfl,fun H' kp=>?_⟩
   obtain ⟨f1,f2⟩:=R.kept kp
   exact ⟨f2 _ (.tup _) e,r.frame f1 f2⟩
  | _=>cases hd
theorem Zsy {es:List PyData} (h:Zzh ds = some es):∃ t as bs,ds = [Z5h t as,Z5h t bs]/\es = Zj8 as bs:=by
 unfold Zzh at h
 split at h
 .cases h; exact ⟨false,_,_,rfl,rfl⟩
 .cases h; exact ⟨true,_,_,rfl,rfl⟩
 .cases h
def iZB (mr:MAt):MIt:=fun δ K=>mr δ fun rs δ'=>∃ es,Zzh (OT.datas rs) = some es/\K es δ'
theorem Zqj {p' pt:Pos}   (hg:Gl X "zip") (hm:X.mg "zip" = none) (hv:bootBuiltins "zip" = some (.type "zip")) (ha:MA X io p c [a,b] mr)
  (he:starEach [a,b] X.env = (false,eval a X.env) :: starEach [b] X.env:=by rfl) (hpl:(backTo pos (starEach [b] X.env)).any (·.1) = false:=by rfl):MI X io p c (.Tuple es kk pt) (.Call (.Name "zip" p') [a,b] [] pos) (iZB mr):=by
 obtain ⟨_,A,s⟩:=ha
 refine ⟨_,Zxg rfl hg hm hv A he hpl,fun C H σ δ fp ex K' Q R h kk=>s C H σ δ fp ex _ _ R h fun H1 vs rs δ1 fp1 new r1 h1=>?_⟩
 have q:=r1.das R
 obtain ⟨es,hz,h1⟩:=h1
 obtain ⟨t,as,bs,e,rfl⟩:=Zsy hz
 rw [e] at q
 cases q with
 | cons q1 q2 =>
  cases q2 with
  | cons q2 q3 =>
   cases q3
   have R1:=r1.base
   obtain ⟨l1,xs,rfl,k1⟩:=R1.keptSq q1
   obtain ⟨l2,ys,rfl,k2⟩:=R1.keptSq q2
   refine ⟨t,l1,l2,rfl,⟨_,(k1 H1 fun _ _ e _=>e).1⟩,⟨_,(k2 H1 fun _ _ e _=>e).1⟩,kk _ H1 _ δ1 fp1 R1 r1.stp (fun H' kp i=>?_) h1⟩
   obtain ⟨s1,d1⟩:=k1 H' kp
   obtain ⟨s2,d2⟩:=k2 H' kp
   refine ⟨fun d hd=>?_,fun hd=>⟨_,_,s1,s2,by rw [d1.length,d2.length]; exact Zpy hd⟩⟩
   obtain ⟨x,y,hx,hy,rfl⟩:=Zlf hd
   obtain ⟨u,hu,qu⟩:=d1.get hx
   obtain ⟨w,hw,qw⟩:=d2.get hy
   refine ⟨⟨_,_,u,w,s1,s2,hu,hw⟩,fun v H'' hyl=>?_⟩
   obtain ⟨t',u',w',ht,rfl,rfl,hu',hw'⟩:=hyl
   cases hu.symm.trans (hu' _ s1)
   cases hw.symm.trans (hw' _ s2)
   exact ⟨Z6 ht _,.tup Zu (.cons (qu.same (Z6 ht _)) (.cons (qw.same (Z6 ht _)) .nil))⟩
theorem Zn7  (g:MI X io p c tg e (iZB (o2 ra))):MI X io p c tg e (o2 (Zjc ra)):=g.weak fun δ K h=>by
 obtain ⟨r,δ',h,k⟩:=h
 obtain ⟨⟨x,δ1⟩,h1,h⟩:=bs h
 obtain ⟨ds,h2,h⟩:=bs h
 cases h
 exact ⟨x,_,h1,_,h2,k⟩
end
end L2
namespace L2
open PySem PySem.Spec PyProof.Rows PySem.W
def kEv  (lt:Nat→Nat→Bool):KasT α→α
 | .ret a=>a
 | .ask i j k=>kEv lt (k (lt i j))
def kGood  (n:Nat) (P:α→Prop):KasT α→Prop
 | .ret a=>P a
 | .ask i j k=>i < n/\j < n/\∀ b,kGood n P (k b)
theorem kGood.bind  {n:Nat} {P:α→Prop} {R:β→Prop} {f:α→KasT β} (hf:∀ a,P a→kGood n R (f a)) {t:KasT α} (h:kGood n P t):kGood n R (t.bind f):=by
 induction t with
 | ret a=>exact hf a h
 | ask i j k ih=>exact ⟨h.1,h.2.1,fun b=>ih b (h.2.2 b)⟩
theorem kGood.ev  {n:Nat} {P:α→Prop} {lt:Nat→Nat→Bool} {t:KasT α} (h:kGood n P t):P (kEv lt t):=by
 induction t with
 | ret a=>exact h
 | ask i j k ih=>exact ih _ (h.2.2 _)
theorem kGood.wp  {n:Nat} {P:α→Prop} {lt:Nat→Nat→Bool} {cmp:Nat→Nat→(Bool→Shared→Prop)→Shared→Prop}  {Q:α→Shared→Prop} (hc:∀ i j C,i < n→j < n→C (lt i j) s→cmp i j C s) {t:KasT α} (h:kGood n P t) (q:Q (kEv lt t) s):t.kasWp cmp Q s:=by
 induction t with
 | ret a=>exact q
 | ask i j k ih=>exact hc i j _ h.1 h.2.1 (ih _ (h.2.2 _) q)
def kP (n:Nat) (p:Array Nat):Prop:=p.toList.Perm (List.range n)
theorem kP.at {n:Nat} {p:Array Nat} (h:kP n p) (h0:0 < n) (i:Nat):p.getD i 0 < n:=by
 by_cases c:i < p.size
 .have e:p.getD i 0 = p[i]:=by simp [Array.getD,c]
  rw [e]
  exact List.mem_range.mp (h.mem_iff.mp (Array.getElem_mem_toList c))
 .have e:p.getD i 0 = 0:=by simp [Array.getD,c]
  rw [e]; exact h0
theorem kP.rev {n:Nat} {p:Array Nat} (h:kP n p) (i j:Nat):kP n (kas_rev p i j):=(Array.perm_iff_toList_perm.mp (mirror_perm p i j _)).trans h
theorem kP.bub {n:Nat} {p:Array Nat} (h:kP n p) (i j:Nat):kP n (bubble p i j):=(Array.perm_iff_toList_perm.mp (bubble_perm p i j)).trans h
theorem Zlh {n:Nat} {p:Array Nat} (h:kP n p) (h0:0 < n) (f m:Nat):kGood n (fun _=>True) (kas_asc p f m):=by
 induction f generalizing m with
 | zero=>exact trivial
 | succ f ih =>
  refine ⟨h.at h0 _,h.at h0 _,fun b=>?_⟩
  cases b
  .exact ih _
  .exact trivial
theorem Zn6 {n:Nat} (h0:0 < n) (f:Nat) {p:Array Nat} (h:kP n p) (m q:Nat):kGood n (fun r:Array Nat × Nat × Nat=>kP n r.1) (kas_desc f p m q):=by
 induction f generalizing p m q with
 | zero=>exact h
 | succ f ih =>
  refine ⟨h.at h0 _,h.at h0 _,fun b=>?_⟩
  cases b
  .refine ⟨h.at h0 _,h.at h0 _,fun b=>?_⟩
   cases b
   .exact ih h _ _
   .exact h
  .show kGood n _ (if q > 0 then _ else _)
   split
   .exact ih (h.rev _ _) _ _
   .exact ih h _ _
theorem Zh8 {n:Nat} {p:Array Nat} (h:kP n p) (h0:0 < n) (m r:Nat):kGood n (fun r:Nat × Array Nat=>kP n r.2) (kas_tail3 m r p):=by
 refine kGood.bind (P:=fun _=>True) (fun a _=>?_) (Zlh (h.rev _ _) h0 _ _)
 exact h.rev _ _
theorem Zcq {n:Nat} {p:Array Nat} (h:kP n p) (h0:0 < n) (m r:Nat):kGood n (fun r:Nat × Array Nat=>kP n r.2) (kas_descPart m r p) :=
 (Zn6 h0 _ h _ _).bind fun x hx=>by
  show kGood n _ (if x.2.2 > 0 then _ else _)
  split
  .exact Zh8 (hx.rev _ _) h0 _ _
  .exact Zh8 hx h0 _ _
theorem Zl8 {n:Nat} {p:Array Nat} (h:kP n p) (h0:0 < n) (r:Nat):kGood n (fun r:Nat × Array Nat=>kP n r.2) (kas_count r p) :=
 (Zlh h h0 _ _).bind fun m _=>by
  show kGood n _ (if (m == r) = true then _ else if m > 1 then _ else _)
  split
  .exact h
  .split
   .refine ⟨h.at h0 _,h.at h0 _,fun b=>?_⟩
    cases b
    .exact Zcq (h.rev _ _) h0 _ _
    .exact h
   .exact Zcq h h0 _ _
theorem Zl0 {n:Nat} {p:Array Nat} (h:kP n p) (h0:0 < n) (k f l r:Nat):kGood n (fun _=>True) (kas_place p k f l r):=by
 induction f generalizing l r with
 | zero=>exact trivial
 | succ f ih =>
  show kGood n _ (if l >= r then _ else _)
  split
  .exact trivial
  .refine ⟨h.at h0 _,h.at h0 _,fun b=>?_⟩
   cases b
   .exact ih _ _
   .exact ih _ _
theorem Zs2 {n:Nat} (h0:0 < n) (f:Nat) {p:Array Nat} (h:kP n p) (k:Nat):kGood n (kP n) (kas_bin f p k):=by
 induction f generalizing p k with
 | zero=>exact h
 | succ f ih=>exact (Zl0 h h0 _ _ _ _).bind fun l _=>ih (h.bub _ _) _
theorem Zfn {n:Nat} (h0:0 < n):kGood n (kP n) (kas_sort n) :=
 (Zl8 (p:=List.toArray (List.range n)) (.refl _) h0 n).bind fun r hr=>by
  show kGood n _ (if r.1 < n then _ else _)
  split
  .exact Zs2 h0 _ hr _
  .exact hr
def Zm1 (lt:Nat→Nat→Bool) (n:Nat):List Nat:=(kEv lt (kas_sort n)).toList
theorem Zem {lt:Nat→Nat→Bool} {n:Nat} (h0:0 < n):(Zm1 lt n).Perm (List.range n):=(Zfn h0).ev (P:=kP n)
end L2
namespace L2
open PySem PySem.Spec PyProof.Rows PySem.W PySem.SeqAt
open PySem.AutoSeq1 (wpAny_loadPart')
open MeetsSeq MeetsSeq2 MeetsSeq3 SeqRoads2
def ltI:List Int→List Int→Bool
 | [],[]=>false
 | [],_ :: _=>true
 | _ :: _,[]=>false
 | x :: xs,y :: ys=>if x = y then ltI xs ys else decide (x < y)
theorem Zu4   (h:IntsAre vs ns) (i:Nat) (hi:i < vs.length):∃ x t,vs[i]? = some (.int x t)/\ns.drop i = x :: ns.drop (i + 1):=by
 induction h generalizing i with
 | nil=>exact absurd hi (Nat.not_lt_zero i)
 | cons n t h ih =>
  cases i with
  | zero=>exact ⟨n,t,rfl,rfl⟩
  | succ i=>exact ih i (Nat.lt_of_succ_lt_succ hi)
theorem Zeb   (h:IntsAre vs ns):vs.length = ns.length:=by
 induction h with
 | nil=>rfl
 | cons n t h ih=>exact congrArg Nat.succ ih
theorem Zpg {xs ys:List Int} (h:xs = []\/ys = []):ltI xs ys = decide (xs.length < ys.length):=by
 cases xs <;> cases ys <;> first | rfl | (rcases h with h | h <;> cases h) | exact (decide_eq_true (Nat.succ_pos _)).symm
theorem Zn0 (l b:Addr) (items items2:Array Value) (n n2:Nat) (dd dd2:Option Addr) (sl sl2:Array (Option Value)) {xs ys:List Int} (h1:IntsAre items.toList xs) (h2:IntsAre items2.toList ys) (k:Nat) :
  ∀ i:Nat,items.size - i = k→i <= items.size→i <= items2.size→Meets (Builtin.«list.__eq__.loop» ⟨[.ref l,.ref b,rawInt i,rawInt 0],[]⟩)
   (fun A R s=>s.heap.get? l = some { cls:=.type "list", dict:=dd,data:=.seq items n,slots:=sl }/\s.heap.get? b = some { cls:=.type "list", dict:=dd2,data:=.seq items2 n2,slots:=sl2 } /\
    R (.ok (.ret (.bool (ltI (xs.drop i) (ys.drop i))))) s):=by
 have e1:items.size = xs.length:=Zeb h1
 have e2:items2.size = ys.length:=Zeb h2
 have fin:∀ i,i <= items.size→i <= items2.size→(i = items.size\/i = items2.size)→ltI (xs.drop i) (ys.drop i) = decide (items.size < items2.size):=fun i u1 u2 c=>by
  rw [Zpg (c.imp (fun c=>List.drop_eq_nil_of_le (by omega)) fun c=>List.drop_eq_nil_of_le (by omega)),List.length_drop,List.length_drop]
  exact decide_eq_decide.mpr (by omega)
 induction k with
 | zero =>
  intro i hk u1 u2 prog w A R s h
  obtain ⟨hp,g,d,tk,os⟩:=s; obtain ⟨hl,hb,h⟩:=h
  wp_walk using wpAny_loadPart' hl,wpAny_loadPart' hb
  have hi1:items[((i:Nat):Int).toNat]? = none:=by simp; omega
  rw [fin i u1 u2 (.inl (by omega))] at h
  rw [hi1]
  wp_walk using wpAny_loadPart' hl,wpAny_loadPart' hb
  exact h
 | succ k ih =>
  intro i hk u1 u2 prog w A R s h
  obtain ⟨hp,g,d,tk,os⟩:=s; obtain ⟨hl,hb,h⟩:=h
  have hlt:i < items.size:=by omega
  obtain ⟨x,t,q1,q2⟩:=Zu4 h1 i hlt
  have hi1:items[((i:Nat):Int).toNat]? = some (.int x t):=by rw [Int.toNat_natCast,<- q1,Array.getElem?_toList]
  wp_walk using wpAny_loadPart' hl,wpAny_loadPart' hb
  by_cases c:i < items2.size
  .obtain ⟨y,u,q3,q4⟩:=Zu4 h2 i c
   have hi2:items2[((i:Nat):Int).toNat]? = some (.int y u):=by rw [Int.toNat_natCast,<- q3,Array.getElem?_toList]
   have hc:((i:Int) + 1) = ((i + 1:Nat):Int):=by push_cast; rfl
   rw [q2,q4] at h
   unfold ltI at h
   rw [hi1,hi2]
   refine wpAny_bind (EqAt.int_int x t y u prog w _ _ ?_)
   by_cases cx:x = y
   .rw [if_pos cx] at h
    rw [beq_iff_eq.mpr cx]
    wp_walk
    rw [hc]
    exact ⟨plainId_quiet plain_eq_loop _,codeAny_builtin entry_eq_loop (by
     rw [Around.under_plainId plain_eq_loop _]
     exact ih (i + 1) (by omega) (by omega) (by omega) prog w A R _ ⟨hl,hb,h⟩)⟩
   .rw [if_neg cx] at h
    rw [beq_eq_false_iff_ne.mpr cx]
    wp_walk using wpAny_loadPart' hl,wpAny_loadPart' hb
    rw [hi1,hi2]
    refine wpAny_bind (lt_int ?_)
    wp_walk
    exact h
  .have hi2:items2[((i:Nat):Int).toNat]? = none:=by simp; omega
   rw [fin i u1 u2 (.inr (by omega))] at h
   rw [hi1,hi2]
   wp_walk using wpAny_loadPart' hl,wpAny_loadPart' hb
   exact h
theorem Zp1 (l b:Addr) (items items2:Array Value) (n n2:Nat) (dd dd2:Option Addr) (sl sl2:Array (Option Value)) {xs ys:List Int} (h1:IntsAre items.toList xs) (h2:IntsAre items2.toList ys) :
  Meets (Builtin.«list.__lt__» ⟨[.ref l,.ref b],[]⟩)
   (fun A R s=>s.heap.get? l = some { cls:=.type "list", dict:=dd,data:=.seq items n,slots:=sl }/\s.heap.get? b = some { cls:=.type "list", dict:=dd2,data:=.seq items2 n2,slots:=sl2 } /\
    R (.ok (.ret (.bool (ltI xs ys)))) s):=by
 intro prog w A R s h
 obtain ⟨hp,g,d,tk,os⟩:=s; obtain ⟨hl,hb,h⟩:=h
 have f3:=AutoSeq1.sub_list_list
 wp_walk using wpAny_loadPart' hl,wpAny_loadPart' hb
 exact ⟨plainId_quiet plain_eq_loop _,codeAny_builtin entry_eq_loop (by
  rw [Around.under_plainId plain_eq_loop _]
  exact Zn0 l b items items2 n n2 dd dd2 sl sl2 h1 h2 _ 0 rfl (Nat.zero_le _) (Nat.zero_le _) prog w A R _ ⟨hl,hb,h⟩)⟩
theorem Z04      {a b:Int} {t u:Tok}  (h:Q (.bool (decide (a < b))) s):wpAny (model prog w) A (richCompare .Lt (.int a t) (.int b u)) Q E s:=lt_int h
end L2
namespace L2
open PySem PySem.Spec PyProof.Rows PySem.W
def sLay  (d:α) (lt:Nat→Nat→Bool) (vs:List α):List α:=if vs.length < 2 then vs else (Zm1 lt vs.length).map fun i=>vs.getD i d
theorem Zmb  (d:α) (vs:List α):((List.range vs.length).map fun i=>vs.getD i d) = vs:=by
 refine List.ext_getElem? fun i=>?_
 rw [List.getElem?_map]
 by_cases c:i < vs.length
 .rw [List.getElem?_range c,List.getElem?_eq_getElem c]
  show some (vs.getD i d) = _
  rw [List.getD_eq_getElem?_getD,List.getElem?_eq_getElem c]; rfl
 .rw [List.getElem?_eq_none (by rw [List.length_range]; omega),List.getElem?_eq_none (by omega)]; rfl
theorem Zim  (d:α) (lt:Nat→Nat→Bool) (vs:List α):(sLay d lt vs).Perm vs:=by
 unfold sLay
 split
 .exact .refl _
 .have:=(Zem (lt:=lt) (n:=vs.length) (by omega)).map fun i=>vs.getD i d
  rwa [Zmb] at this
theorem Zoc {lt:Nat→Nat→Bool}   (h:Vals xs us):Vals (sLay .non lt xs) (sLay .none lt us):=by
 unfold sLay
 rw [h.length]
 split
 .exact h
 .generalize Zm1 lt _ = l
  induction l with
  | nil=>exact .nil
  | cons i l ih =>
   refine .cons ?_ ih
   show RelV (xs.getD i V.non) (us.getD i Value.none)
   rw [List.getD_eq_getElem?_getD,List.getD_eq_getElem?_getD]
   cases e:xs[i]? with
   | some x =>
    obtain ⟨u,e',r⟩:=h.get e
    rw [e']; exact r
   | none =>
    have:us[i]? = none:=List.getElem?_eq_none (by rw [<- h.length]; exact List.getElem?_eq_none_iff.mp e)
    rw [this]; exact rfl
theorem Zl1 {κ:SortKind} {lt:Nat→Nat→Bool} {h0:Heap}   {n:Nat} {P:PySem.Fin→Shared→Prop} (ho:s.heap.get? a = some (seqObj "list" vs.toArray n))
  (k0:∀ b o,h0.get? b = some o→s.heap.get? b = some o) (ha0:h0.get? a = none) (h64:vs.length < 64)
  (hk:2 <= vs.length→∀ s':Shared,(∀ b o,h0.get? b = some o→s'.heap.get? b = some o)→∀ Q:SortKind→Shared→Prop,Q κ s'→wpAny (model prog w) A (keyKind' vs.toArray) Q E s')
  (hc:2 <= vs.length→∀ s':Shared,(∀ b o,h0.get? b = some o→s'.heap.get? b = some o)→∀ i j C,i < vs.length→j < vs.length→C (lt i j) s'→kas_ask prog w A κ vs i j C s')
  (h:P (.done (.ret .none)) { s with heap:=sortedHeap s.heap a vs (List.toArray (sLay Value.none lt vs)) }):wpAny (model prog w) A (Builtin.«list.sort» ⟨[.ref a],[]⟩) P E s:=by
 have ha:a < s.heap.objs.size:=Heap.lt_size ho
 obtain ⟨e1,ho1⟩:∃ e1,(s.heap.update a (Obj.mapSeq fun _=>(#[]:Array Value))).get? a = some (seqObj "list" #[] e1):=⟨_,get?_update_seq ho fun _=>#[]⟩
 have ho6:(((s.heap.update a (Obj.mapSeq fun _=>(#[]:Array Value))).push (seqObj "tuple" vs.toArray 0)).push (seqObj "list" #[] 0)).get? a = some (seqObj "list" #[] e1):=Heap.get?_push_of_some _ (Heap.get?_push_of_some _ ho1)
 have k6:∀ b o,h0.get? b = some o→(((s.heap.update a (Obj.mapSeq fun _=>(#[]:Array Value))).push (seqObj "tuple" vs.toArray 0)).push (seqObj "list" #[] 0)).get? b = some o:=fun b o e=>by
  refine Heap.get?_push_of_some _ (Heap.get?_push_of_some _ ?_)
  rw [Heap.get?_update_ne _ _ _ _ (fun q=>by rw [q,ha0] at e; cases e)]
  exact k0 b o e
 rw [list_sort_plain]
 refine wpAny_bind (listItems_at ho rfl ?_)
 refine wpAny_bind (listUpdate_at ho rfl ?_ (by rw [List.size_toArray,sizeLine_eq]; omega) (Nat.zero_le _))
 refine wpAny_bind (seqEpoch_at ho1 rfl ?_)
 refine wpAny_bind (wpAny_newTuple ?_ (by show vs.length <= _; rw [sizeLine_eq]; omega))
 refine wpAny_bind (wpAny_newList ?_ (Nat.zero_le _))
 refine wpAny_holding ?_
 show wpAny (model prog w) A _ P E { s with heap:=((s.heap.update a (Obj.mapSeq fun _=>(#[]:Array Value))).push (seqObj "tuple" vs.toArray 0)).push (seqObj "list" #[] 0) }
 dsimp only
 have hs:vs.toArray.size = vs.length:=List.size_toArray ..
 by_cases h2:vs.toArray.size < 2
 .have el:sLay Value.none lt vs = vs:=if_pos (hs ▸ h2)
  rw [el] at h
  rw [if_pos h2,if_pos h2]
  refine wpAny_bind (wpAny_pure ?_)
  rw [StateT.run_pure]
  refine wpAny_bind (wpAny_pure ?_)
  dsimp only
  refine wpAny_bind (seqEpoch_at ho6 rfl ?_)
  have ez:((vs.toArray.zip vs.toArray).map (·.2)) = vs.toArray:=by
   apply Array.toList_inj.mp
   rw [Array.toList_map,Array.toList_zip,List.map_snd_zip (Nat.le_refl _)]
  show wpAny _ _ (Builtin.List.listUpdate _ (fun _=>(vs.toArray.zip vs.toArray).map (·.2)) >>= _) _ _ _
  rw [ez]
  refine wpAny_bind (listUpdate_at ho6 rfl ?_ (Nat.zero_le _) (by rw [hs,sizeLine_eq]; omega))
  simp only [bne_self_eq_false,Bool.false_eq_true,if_false]
  exact wpAny_pure h
 .rw [if_neg h2,if_neg h2]
  have h2':2 <= vs.length:=by omega
  have el:sLay Value.none lt vs = (Zm1 lt vs.length).map fun i=>vs.getD i Value.none:=if_neg (by omega)
  rw [el] at h
  refine wpAny_bind (hk h2' _ k6 _ ?_)
  have est:SortSt.mk' κ (vs.toArray.zip vs.toArray) #[] 7 none = kas_st κ (pairsOf vs) (List.toArray (List.range vs.length)):=by
   have e:=kas_range (pairsOf vs)
   rw [pairsOf_size] at e
   show SortSt.mk' κ (pairsOf vs) #[] 7 none = SortSt.mk' κ ((List.toArray (List.range vs.length)).map (kas_item (pairsOf vs))) #[] 7 none
   rw [e]
  have run:=kas_runs (prog:=prog) (w:=w) (A:=A) (κ:=κ) (it:=pairsOf vs) (E:=E) (s:={ s with heap:=((s.heap.update a (Obj.mapSeq fun _=>(#[]:Array Value))).push (seqObj "tuple" vs.toArray 0)).push (seqObj "list" #[] 0) })
   (Q:=fun _ st' s'=>arrOf st' = (kEv lt (kas_sort vs.length)).map (kas_item (pairsOf vs))/\failedOf st' = none/\s' = { s with heap:=((s.heap.update a (Obj.mapSeq fun _=>(#[]:Array Value))).push (seqObj "tuple" vs.toArray 0)).push (seqObj "list" #[] 0) })
   (G:=fun p s'=>p = kEv lt (kas_sort vs.length)/\s' = { s with heap:=((s.heap.update a (Obj.mapSeq fun _=>(#[]:Array Value))).push (seqObj "tuple" vs.toArray 0)).push (seqObj "list" #[] 0) })
   h2' h64 (fun p' st' s' _ a2 a3 a4=>⟨a4.1 ▸ a2,a3,a4.2⟩) (by
    rw [<- kas_ask_eq]
    exact (Zfn (n:=vs.length) (by omega)).wp (hc h2' _ k6) ⟨rfl,rfl⟩)
  rw [<- est] at run
  refine wpAny_bind (wpAny_mono run ?_ fun _ _ e=>e)
  intro r s' z
  obtain ⟨har,hf,rfl⟩:=z
  have hout:(arrOf r.2).map (·.2) = List.toArray ((Zm1 lt vs.length).map fun i=>vs.getD i Value.none):=by
   apply Array.toList_inj.mp
   rw [har,Array.map_map,Array.toList_map]
   exact List.map_congr_left fun i _=>by show (kas_item (pairsOf vs) i).2 = _; rw [kas_item_eq]
  rw [hout]
  refine wpAny_bind (seqEpoch_at ho6 rfl ?_)
  refine wpAny_bind (listUpdate_at ho6 rfl ?_ (Nat.zero_le _) (by rw [List.size_toArray,List.length_map,(Zem (by omega)).length_eq,List.length_range,sizeLine_eq]; omega))
  rw [hf]
  simp only [bne_self_eq_false,Bool.false_eq_true,if_false]
  exact wpAny_pure h
theorem Zyt {κ:SortKind} {lt:Nat→Nat→Bool} {l:Addr}   (hl:s.heap.IsList l vs.toArray) (h64:vs.length < 64)
  (hk:2 <= vs.length→∀ s':Shared,(∀ b o,s.heap.get? b = some o→s'.heap.get? b = some o)→∀ Q:SortKind→Shared→Prop,Q κ s'→wpAny (model prog w) A.in1.in1 (keyKind' vs.toArray) Q E s')
  (hc:2 <= vs.length→∀ s':Shared,(∀ b o,s.heap.get? b = some o→s'.heap.get? b = some o)→∀ i j C,i < vs.length→j < vs.length→C (lt i j) s'→kas_ask prog w A.in1.in1 κ vs i j C s')
  (h:Q (.ref (s.heap.objs.size + 1)) { s with heap:=sortedAll s.heap vs (List.toArray (sLay Value.none lt vs)) }):wpAny (model prog w) A (call (.builtin "sorted") [.ref l]) Q E s:=by
 refine Calls.call_function_entry kind_sorted plain_sorted entry_sorted (args_sorted1 _) ?_
 unfold Builtin.«sorted»
 refine wpAny_bind (m:=checkCount "sorted" 1 1 _) (wpAny_pure ?_)
 refine wpAny_bind (collect_list hl ?_ (by rw [sizeLine_eq]; omega))
 refine wpAny_bind (wpAny_newList ?_ (by rw [sizeLine_eq]; omega))
 have hsz:((s.heap.push (seqObj "list" #[] 0)).update s.heap.objs.size (Obj.mapSeq (· ++ vs.toArray))).objs.size = s.heap.objs.size + 1:=by
  rw [Heap.size_update,size_push']
 have hoL:(((s.heap.push (seqObj "list" #[] 0)).update s.heap.objs.size (Obj.mapSeq (· ++ vs.toArray))).push (seqObj "list" vs.toArray 0)).get? (s.heap.objs.size + 1) = some (seqObj "list" vs.toArray 0):=by
  rw [<- hsz]; exact Heap.get?_push_size _ rfl
 have keep:∀ b o,s.heap.get? b = some o→(((s.heap.push (seqObj "list" #[] 0)).update s.heap.objs.size (Obj.mapSeq (· ++ vs.toArray))).push (seqObj "list" vs.toArray 0)).get? b = some o:=fun b o q=>by
  have hlt:b < s.heap.objs.size:=Heap.lt_size q
  rw [Heap.get?_push_ne _ _ _ (by rw [hsz]; exact Nat.ne_of_lt (Nat.lt_succ_of_lt hlt)),Heap.get?_update_ne _ _ _ _ (Nat.ne_of_lt hlt),Heap.get?_push_ne _ _ _ (Nat.ne_of_lt hlt)]
  exact q
 show wpAny _ _ _ _ _ { s with heap:=((s.heap.push (seqObj "list" #[] 0)).update s.heap.objs.size (Obj.mapSeq (· ++ vs.toArray))).push (seqObj "list" vs.toArray 0) }
 rw [hsz]
 refine wpAny_bind (wpAny_holding (wpAny_call_entry slot_list_sort ⟨_,hoL,rfl⟩ entry_list_sort (Zl1 (h0:=s.heap) hoL keep (Heap.get?_none_of_le (Nat.le_succ _)) h64 hk hc ⟨_,rfl,?_⟩) (args_list_sort _)))
 exact wpAny_pure ⟨_,rfl,h⟩
end L2
namespace L2
open PySem PySem.Spec PyProof.Rows PySem.W
structure Yaw {α:Type} (kd:PyData→Option α) (lt:α→α→Bool):Prop where
 lay:∀ d k,kd d = some k→d.canLay0 = true
 run:∃ κ:SortKind,(∀ (prog:Program) (w:World) (A:Around) (E:Value→Shared→Prop) (s:Shared) (vs:List Value) (ds:List PyData) (as:List Addr) (Q:SortKind→Shared→Prop),2 <= vs.length→ReadsAll s.heap vs ds as→(∀ d ∈ ds,∃ k,kd d = some k)→Q κ s→wpAny (model prog w) A (keyKind' vs.toArray) Q E s) /\
  ∀ (prog:Program) (w:World) (A:Around) (E:Value→Shared→Prop) (s:Shared) (u v:Value) (d e:PyData) (as bs:List Addr) (k m:α) (C:Bool→Shared→Prop),A.units + 32 < cLine→Reads s.heap u d as→Reads s.heap v e bs→kd d = some k→kd e = some m→C (lt k m) s→wpAny (model prog w) A (keyLt' κ u v) C E s
theorem readsAll_ints  (ns:List Int)   (r:ReadsAll h vs (ns.map PyData.int) as):IntsAre vs ns:=by
 induction ns generalizing vs as with
 | nil=>cases r; exact .nil
 | cons n ns ih =>
  cases r with
  | cons r q =>
   cases r
   exact .cons _ _ (ih q)
theorem Zgb     (r:Reads h u (.list (ns.map PyData.int)) as):∃ a items,u = .ref a/\h.IsList a items/\IntsAre items.toList ns:=by
 cases r with
 | list e c d q=>exact ⟨_,_,rfl,⟨_,e,c,_,d⟩,readsAll_ints ns q⟩
theorem Zc4     (r:Reads h u (.tuple (ns.map PyData.int)) as):∃ a items,u = .ref a/\h.IsTuple a items/\IntsAre items.toList ns:=by
 cases r with
 | tuple e c d q=>exact ⟨_,_,rfl,⟨_,e,c,_,d⟩,readsAll_ints ns q⟩
theorem readsAll_get     (r:ReadsAll h vs ds as):vs.length = ds.length/\∀ (i:Nat) d,ds[i]? = some d→∃ v bs,vs[i]? = some v/\Reads h v d bs:=by
 induction ds generalizing vs as with
 | nil=>cases r; exact ⟨rfl,fun i d e=>by rw [List.getElem?_nil] at e; cases e⟩
 | cons d ds ih =>
  cases r with
  | cons r q =>
   obtain ⟨z1,z2⟩:=ih q
   refine ⟨congrArg Nat.succ z1,fun i e he=>?_⟩
   cases i with
   | zero=>cases he; exact ⟨_,_,rfl,r⟩
   | succ i=>exact z2 i e he
theorem lay_ints (ns:List Int):Sh 1 (.list (ns.map PyData.int)):=Zjs fun d m=>by
 obtain ⟨x,_,rfl⟩:=List.mem_map.mp m
 exact Zo8 x
theorem Zia (ns:List Int):Sh 1 (.tuple (ns.map PyData.int)):=Zug fun d m=>by
 obtain ⟨x,_,rfl⟩:=List.mem_map.mp m
 exact Zo8 x
end L2
namespace L2
open PySem PySem.Spec PyProof.Rows PySem.W
def lk  (kd:PyData→Option α) (lt:α→α→Bool) (es:List PyData):Nat→Nat→Bool:=fun i j=>((kd (es.getD i .none)).bind fun a=>(kd (es.getD j .none)).map fun b=>lt a b).getD false
def keyed  (kd:PyData→Option α) (es:List PyData):Prop:=∀ d ∈ es,∃ k,kd d = some k
theorem Zlz {es:List PyData} (h:∀ d ∈ es,d.canLay0 = true):PyData.canLayAll0 es = true:=by
 induction es with
 | nil=>rw [PyData.canLayAll0]
 | cons d es ih=>rw [PyData.canLayAll0,h d (.head _),ih fun d m=>h d (.tail _ m)]; rfl
theorem Das.sLay   {lt:Nat→Nat→Bool}   (h:Das G H L xs ds):Das G H L (L2.sLay .non lt xs) (L2.sLay .none lt ds):=by
 unfold L2.sLay
 rw [h.length]
 split
 .exact h
 .generalize Zm1 lt _ = l
  induction l with
  | nil=>exact .nil
  | cons i l ih =>
   refine .cons ?_ ih
   show Da G H L (xs.getD i .non) (ds.getD i .none)
   rw [List.getD_eq_getElem?_getD,List.getD_eq_getElem?_getD]
   cases e:xs[i]? with
   | some x =>
    obtain ⟨u,e',r⟩:=h.get' e
    rw [e']; exact r
   | none =>
    have:ds[i]? = none:=List.getElem?_eq_none (by rw [<- h.length]; exact List.getElem?_eq_none_iff.mp e)
    rw [this]; exact .non
def Zuo  (kd:PyData→Option α) (lt:α→α→Bool) (K:PySem.W.Frag):List V→Hp→VK→Prop:=fun xs H Q=>∃ (a:Addr) (vs:List V) (L:Addr→Prop) (es:List PyData),xs = [.ref a]/\SqL K H a vs/\Das K H L vs es/\vs.length < 64/\keyed kd es/\∀ l,H l = none→Q (.ref l) (upd H l (.lst (sLay .non (lk kd lt es) vs)))
section
variable   {kd:PyData→Option α} {lt:α→α→Bool}
theorem Zl2  (S:Yaw kd lt) (hK:X.K = K) (hu:X.A.units + 64 < cLine):Zac X (.builtin "sorted") (Zuo kd lt K):=by
 subst hK
 intro pins s σ H xs us Q I r h
 obtain ⟨l,vs,L,es,rfl,hs,hd,h64,hk,q⟩:=h
 obtain ⟨u,rfl,ru⟩:=vals1 r
 cases (show u = Value.ref l from ru)
 obtain ⟨its,rv,pl,hz⟩:=I.list hs
 have hl:=rv.length
 obtain ⟨as,ra⟩:=hd.reads rfl I rv (Zlz fun d m=>by obtain ⟨k,e⟩:=hk d m; exact S.lay d k e)
 obtain ⟨κ,S1,S2⟩:=S.run
 obtain ⟨z1,z2⟩:=readsAll_get ra
 refine Zyt (κ:=κ) (lt:=lk kd lt es) pl.isList (by omega) (fun h2 s' k Q q=>S1 _ _ _ _ s' _ es as Q h2 (ReadsAll.keeps k ra) hk q) (fun h2 s' k i j C hi hj hc=>?_) ?_
 .rw [z1] at hi hj
  obtain ⟨v,b1,e1,r1⟩:=z2 i _ (List.getElem?_eq_getElem hi)
  obtain ⟨w,b2,e2,r2⟩:=z2 j _ (List.getElem?_eq_getElem hj)
  obtain ⟨k1,q1⟩:=hk _ (List.getElem_mem hi)
  obtain ⟨k2,q2⟩:=hk _ (List.getElem_mem hj)
  have ek:lk kd lt es i j = lt k1 k2:=by
   unfold lk
   rw [List.getD_eq_getElem?_getD,List.getD_eq_getElem?_getD,List.getElem?_eq_getElem hi,List.getElem?_eq_getElem hj]
   show ((kd es[i]).bind fun a=>(kd es[j]).map fun b=>lt a b).getD false = _
   rw [q1,q2]; rfl
  rw [ek] at hc
  unfold kas_ask
  rw [List.getD_eq_getElem?_getD,List.getD_eq_getElem?_getD,e1,e2]
  exact S2 _ _ _ _ s' v w _ _ _ _ k1 k2 C (show X.A.units + 1 + 1 + 32 < cLine by omega) (Reads.keeps k r1) (Reads.keeps k r2) q1 q2 hc
 .obtain ⟨e,he⟩:=sortedAll_at s.heap its (List.toArray (sLay Value.none (lk kd lt es) its))
  refine ⟨.ref (s.heap.objs.size + 1),_,I.laid (t':=s.toks) (o:=.lst (sLay .non (lk kd lt es) vs)) (fun b ob q=>sortedAll_old q) (by omega) ⟨?_,sLay Value.none (lk kd lt es) its,e,Zoc rv,he⟩,rfl,q _ (I.hok.fresh (by omega))⟩
  rw [(Zim _ _ _).length_eq,sizeLine_eq]; omega
def Zve (kd:PyData→Option α) (lt:α→α→Bool):List PyData→(OT→Prop)→Prop:=fun ds k=>n1 (fun d=>∃ es:List PyData,d = .list es/\es.length < 64/\keyed kd es/\k (.nd ((sLay .none (lk kd lt es) es).map OT.fz))) ds
theorem Zrl:PN G (Zuo kd lt G) (Zve kd lt):=fun H L xs ds k Q hx h kk=>by
 obtain ⟨v,d,rfl,rfl,q,es,e,h64,hk,h⟩:=hx.one h
 have fin:∀ (vs:List V) (p:Addr),Das G H L vs es→H p = none→Q (.ref p) (upd H p (.lst (sLay .non (lk kd lt es) vs))):=fun vs p hv hp=>kk _ _ _ [p] (Z6 hp _) (Own.list hp hv.sLay) (Zcv p) (Za6 hp) h
 subst e
 generalize ed:PyData.list es = d at q
 cases q with
 | lst l e r =>
  cases ed
  exact ⟨_,_,L,es,rfl,.inl e,r,by rw [r.length]; exact h64,hk,fun p hp=>fin _ p r hp⟩
 | scr ks =>
  cases ed
  exact ⟨_,_,L,_,rfl,ks.sq,Das.ints _,by rw [(Das.ints (G:=G) (H:=H) (L:=L) _).length]; exact h64,hk,fun p hp=>fin _ p (Das.ints _) hp⟩
 | _=>cases ed
def Zh4 (kd:PyData→Option α) (lt:α→α→Bool):List PyData→Option OT:=fun ds=>match ds with | [.list es]=>if (decide (es.length < 64) && es.all fun d=>(kd d).isSome) = true then some (.nd ((sLay .none (lk kd lt es) es).map OT.fz)) else none | _=>none
theorem Zy5:∀ ds r k,Zh4 kd lt ds = some r→k r→Zve kd lt ds k:=fun ds r k h hk=>by
 unfold Zh4 at h
 split at h
 case h_2=>cases h
 split at h
 case isFalse=>cases h
 rename_i h2
 rw [Bool.and_eq_true] at h2
 cases h
 exact ⟨_,rfl,of_decide_eq_true h2.1,fun d m=>Option.isSome_iff_exists.mp (List.all_eq_true.mp h2.2 d m),hk⟩
end
end L2
namespace L2
open PySem PySem.Spec PyProof.Rows
end L2
namespace L2
open PySem PySem.Spec PyProof.Rows
section
variable   {q r:Bool} {a:Expr}      {f g:FS} {ta:FT}
theorem xv (i:Nat)   (hN:X.N[i]? = some x:=by rfl) (hv:Vis X.env.scope x:=by first | exact Or.inl rfl | exact Or.inr (Or.inl rfl) | exact Or.inr (Or.inr rfl)) (hd:(x == ("__debug__" : Str)) = false:=by decide) (he:(x == ("__classdict__" : Str)) = false:=by decide):ME X io true true (.Name x pos) (o2 (Zv i)):=Yq (mv i hN hv hd he)
theorem xo (i:Nat)   (hN:X.N[i]? = some x:=by rfl) (hv:Vis X.env.scope x:=by first | exact Or.inl rfl | exact Or.inr (Or.inl rfl) | exact Or.inr (Or.inr rfl)) (hd:(x == ("__debug__" : Str)) = false:=by decide) (he:(x == ("__classdict__" : Str)) = false:=by decide):ME X io true false (.Name x pos) (o2 (Ztp i)):=Z33 (mo i hN hv hd he)
theorem xci {i:Int}  :ME X io true true (.Constant (.int i) j pos) (o2 (fC (.int i))):=Jz Z3y
theorem xix  (ha:ME X io p c a (o2 fa)) (hb:ME X io p' c' b (o2 fb)) (hc:p' = true\/c = true:=by first | exact Or.inl rfl | exact Or.inr rfl) (hs:Zj9 b:=by exact fun _ _=>rfl) (h2:(p && p') = q:=by rfl) (h3:(c && c') = r:=by rfl):ME X io q r (.Subscript a b pos) (o2 (Zbz gIx fa fb)):=h2 ▸ h3 ▸ Zqu Ybs (Z9p (Zp7 rfl) Z6m ha hb hc (hs:=hs))
theorem xa0:MA X io true true [] (o2 Yb):=Zgd Zge
theorem xa1 [NoStar e] (ha:ME X io p c e (o2 fa)) (h2:(p && true) = q:=by rfl) (h3:(c && true) = r:=by rfl):MA X io q r [e] (o2 (Zf fa Yb)):=Zi ha xa0 (.inl rfl) h2 h3
theorem xsq (h:MS X io st (oS f)) (k:MSs X io sts (oS g)):MSs X io (st :: sts) (oS (Yd f g)):=Zdr (Jr h k)
theorem xst  (i:Nat)  (hN:X.N.Nodup) (he:ME X io p true e (o2 fa)) (hi:X.N[i]? = some x:=by rfl) (hx:Loc X.env.scope x:=by first | exact Or.inl rfl | exact Or.inr rfl) (hio:i ∉ io:=by decide) (hs:swapsWith e (some (.Name x px)) pos.line X.env = pure false:=by rfl) (hf:X.fn x = true\/X.env.scope.names.lookup x = some .local:=by first | exact .inl rfl | exact .inr rfl | assumption):MS X io (.Assign [.Name x px] e pos) (oS (wE fa (Zas i))):=Z3z (Z3s hN hi hx he hio hs hf)
theorem xrt  (h:ME X io p true e (o2 fa)):MS X io (.Return (some e) pos) (oS (wE fa Wl)):=Zco (Zcp h)
theorem xg  (i:Nat)  (hN:X.N.Nodup) (hi:X.N[i]? = some x:=by rfl) (hx:Loc X.env.scope x:=by first | exact Or.inl rfl | exact Or.inr rfl) (hio:i ∉ io:=by decide) (hf:X.fn x = true\/X.env.scope.names.lookup x = some .local:=by first | exact .inl rfl | exact .inr rfl | assumption):MG X io true (.Name x pos) (oG (gNm i)):=Zj5 (Zki hN hi hx hio hf)
theorem xif  (h:MT X io p e (o2 ta)) (k:MSs X io ss (oS f)) (l:MSs X io ss' (oS g)):MS X io (.If e ss ss' pos) (oS (W6 ta f g)):=Zi9 (Zhq h k l)
theorem xnl:MSs X io [] (oS fNx):=Za3 Zaz
theorem xtp  {n:Nat} (h:MA X io p c es (o2 ra)):ME X io p c (.Tuple es n pos) (o2 (Zlm ra)):=Z4b (Z73 h)
theorem xls  (h:MA X io p c es (o2 ra)):ME X io p c (.List es pos) (o2 (Zmh ra)):=Z3k (Z6i h)
theorem xil  (h:ME X io p c e (o2 fa)):MI X io p c tg e (o2 (Zcl fa)):=Zwa (Zy8 h)
theorem xno  (h:MT X io p e (o2 ta)):MT X io p (.UnaryOp .Not e pos) (o2 (tNo ta)):=Zvl (Zuf h)
theorem Z3p  (ha:ME X io p c a (o2 fa)) (hb:ME X io p' c' b (o2 fb)) (hc:p' = true\/c = true:=by first | exact Or.inl rfl | exact Or.inr rfl) (h2:(p && p') = q:=by rfl):ME X io q true (.BinOp a .Add b pos) (o2 (Zd Zho fa fb)):=h2 ▸ Z7 Z8b (Zdg Z4c Zoh ha hb hc)
theorem Z7n  (ha:ME X io p c a (o2 fa)) (hb:ME X io p' c' b (o2 fb)) (hc:p' = true\/c = true:=by first | exact Or.inl rfl | exact Or.inr rfl) (h2:(p && p') = q:=by rfl):ME X io q true (.BinOp a .Sub b pos) (o2 (Zd gSb fa fb)):=h2 ▸ Z7 Z5w (Zdg Zzu Zoh ha hb hc)
theorem Zmx  (ha:ME X io p c a (o2 fa)) (hb:ME X io p' c' b (o2 fb)) (hc:p' = true\/c = true:=by first | exact Or.inl rfl | exact Or.inr rfl) (h2:(p && p') = q:=by rfl):ME X io q true (.BinOp a .Mod b pos) (o2 (Zd Zc0 fa fb)):=h2 ▸ Z7 Z5p (Zdg Zyl Z2x ha hb hc)
theorem Zyu  (ha:ME X io p c a (o2 fa)) (hb:ME X io p' c' b (o2 fb)) (hc:p' = true\/c = true:=by first | exact Or.inl rfl | exact Or.inr rfl) (h2:(p && p') = q:=by rfl):ME X io q true (.BinOp a .FloorDiv b pos) (o2 (Zd Jd fa fb)):=h2 ▸ Z7 Z3n (Zdg Zq5 Z38 ha hb hc)
theorem Zxh  (ha:ME X io p c a (o2 fa)) (hb:ME X io p' c' b (o2 fb)) (hc:p' = true\/c = true:=by first | exact Or.inl rfl | exact Or.inr rfl) (h2:(p && p') = q:=by rfl):ME X io q true (.BinOp a .Pow b pos) (o2 (Zd Zov fa fb)):=h2 ▸ Z7 Z7k (Zdg Zvw Z3w ha hb hc)
theorem xeq  (hu:X.A.units + 64 < cLine) (ha:ME X io p c a (o2 fa)) (hb:ME X io p' c' b (o2 fb)) (hc:p' = true\/c = true:=by first | exact Or.inl rfl | exact Or.inr rfl) (h2:(p && p') = q:=by rfl):MT X io q (.Compare a [.Eq] [b] pos) (o2 (tV (Zd gEq fa fb))):=h2 ▸ Zb1 Zxo (Zbx (Ze3 hu) Zkj ha hb hc (hm:=Yy _))
theorem xne  (hu:X.A.units + 64 < cLine) (ha:ME X io p c a (o2 fa)) (hb:ME X io p' c' b (o2 fb)) (hc:p' = true\/c = true:=by first | exact Or.inl rfl | exact Or.inr rfl) (h2:(p && p') = q:=by rfl):MT X io q (.Compare a [.NotEq] [b] pos) (o2 (tV (Zd gNe fa fb))):=h2 ▸ Zb1 Z0t (Zbx (Zhx hu) Zqs ha hb hc (hm:=Yy _))
theorem xlt  (ha:ME X io p c a (o2 fa)) (hb:ME X io p' c' b (o2 fb)) (hc:p' = true\/c = true:=by first | exact Or.inl rfl | exact Or.inr rfl) (h2:(p && p') = q:=by rfl):MT X io q (.Compare a [.Lt] [b] pos) (o2 (tV (Zd gLt fa fb))):=h2 ▸ Zb1 Z6a (Zbx Zyi Zft ha hb hc (hm:=Yy _))
theorem xgt  (ha:ME X io p c a (o2 fa)) (hb:ME X io p' c' b (o2 fb)) (hc:p' = true\/c = true:=by first | exact Or.inl rfl | exact Or.inr rfl) (h2:(p && p') = q:=by rfl):MT X io q (.Compare a [.Gt] [b] pos) (o2 (tV (Zd gGt fa fb))):=h2 ▸ Zb1 Z8u (Zbx Z2u Zft ha hb hc (hm:=Yy _))
theorem xfr     (hp:PassesOwn (model X.prog X.w) X.A X.env X.xe) (hc:X.calm = true) (hi:MI X io p true tg e (o2 it)) (hg:MG X io true tg (oG gg)) (hb:MSs X io ss (oS f)) (hs:∀ x,foldedSetIterable e X.env x = pure x:=by intro _; rfl):MS X io (.For tg e ss [] pos) (oS (Zea it gg f)):=Zt4 (Zuy hp hc hi hg hb hs)
theorem xg2  {n:Nat} {g1 g2:FG} (hc:X.calm = true) (ha:MG X io true a (oG g1)) (hb:MG X io true b (oG g2)) (h1:List.map (fun x=>x.snd) (assignEach [a,b] X.env) = assign a X.env :: List.map (fun x=>x.snd) (assignEach [b] X.env):=by rfl) (h2:List.map (fun x=>x.snd) (assignEach [b] X.env) = assign b X.env :: List.map (fun x=>x.snd) (assignEach [] X.env):=by rfl) (h3:(assignEach [a,b] X.env).length = 2:=by rfl) (h4:List.findIdx? (fun x=>x.fst) (assignEach [a,b] X.env) = none:=by rfl):MG X io true (.Tuple [a,b] n pos) (oG (gTp 2 (gCn g1 (gCn g2 gNl)))):=Zuv (Zvb (n:=2) hc (Zed (Zef ha (Zed (Zef hb (Zo4 Zm7) h2)) h1)) h3 h4)
theorem xso  (i:Nat)  (hN:X.N.Nodup) (he:ME X io p true e (o2 fa)) (hi:X.N[i]? = some x:=by rfl) (hx:Loc X.env.scope x:=by first | exact Or.inl rfl | exact Or.inr rfl) (hio:i ∉ io:=by decide) (hs:swapsWith e (some (.Name x px)) pos.line X.env = pure false:=by rfl) (hf:X.fn x = true\/X.env.scope.names.lookup x = some .local:=by first | exact .inl rfl | exact .inr rfl | assumption):MS X io (.Assign [.Name x px] e pos) (oS (wE fa (Zek i))):=Zop (Zqo hN hi hx he hio hs hf)
theorem xcl  {k:Nat} {f:Addr} {fd:FuncData}    (G:FnOk X.prog X.w X.K X.mg X.base CX0 k f fd ps (spD X.K (sD F))) (hr:Room k X.A) (hm:X.mg x = some (.ref f)) (hk:PySem.W.keepIn X.K (.ref f) = true) (hb:Binds X.K fd ps []) (ha:MA X io p c (e :: es) (o2 ra)) (hg:Gl X x:=by rfl) (h1:(x == ("__debug__" : Str)) = false:=by decide) (h2:starEach (e :: es) X.env = (false,eval e X.env) :: starEach es X.env:=by rfl) (h3:((backTo pos (starEach es X.env)).any fun x=>x.fst) = false:=by rfl):ME X io p c (.Call (.Name x pp) (e :: es) [] pos) (o2 (Zw F ra)):=Zjx (Zp8 G hr hg hm hk hb Zwr ha h1 h2 h3)
theorem xln  (hm:X.mg "len" = none) (ha:MA X io p c [e] (o2 ra)) (hg:Gl X "len" := by rfl) (h2:starEach [e] X.env = (false,eval e X.env) :: starEach [] X.env:=by rfl):ME X io p true (.Call (.Name "len" pp) [e] [] pos) (o2 (Zc9 Zhn ra)):=Ja Zv3 (Zkb Znl (Ze0 rfl) hg hm L2.B.boot_len ha (by decide) (by decide) h2 (by rfl))
end
end L2
namespace L2
open PySem PySem.Spec PyProof.Rows
section
variable     {a d:Expr}  
end
end L2
namespace L2
open PySem PySem.Spec PyProof.Rows
section
variable     {I:Addr} {fp wr:List Addr} {n:Nat} {P:Nat→Value→Prop} {St:Nat→Heap→Prop}
end
section
variable    {kw:Expr} {kp:Pos} {t:TA} 
end
end L2
namespace L2
open PySem PySem.Spec PyProof.Rows
def tbl (P:List Nat) (led:Bool):SetTable:={ mask:=7,place:=P.toArray,dummies:=#[],finger:=0,led,moves:=0,plain:=true }
def hT (k:List Int):Int:=reduceHash (Builtin.Tuple.tupleHashOf (k.map hashInt))
def hAt (ks:List (List Int)) (i:Nat):Int:=(ks[i]?.map hT).getD 0
def Z6q (P:List Nat) (j:Nat):List Nat:=((tbl P false).put j).1.place.toList
def Yan (P:List Nat) (j:Nat):Nat:=((tbl P false).put j).2
def Ycd (ks:List (List Int)) (p:Nat) (k:List Int):List (List Int):=ks.take p ++ k :: ks.drop p
def Yc7 (P:List Nat) (ks:List (List Int)) (k:List Int):Option (List Nat × List (List Int)) :=
 match (tbl P false).probe (hAt ks) (hT k) ((tbl P false).probeStart (hT k)) with
 | some (.empty j none)=>if (tbl (Z6q P j) false).tooFull = false/\(Z6q P j).length = ks.length + 1/\ks.length <= 6/\Yan P j <= ks.length then some (Z6q P j,Ycd ks (Yan P j) k) else none
 | some (.candidate _ i _)=>if ks[i]? = some k then some (P,ks) else none
 | _=>none
def grow (K:List (List Int)):Nat→List (List Nat × List (List Int))→List (List Nat × List (List Int))
 | 0,S=>S
 | n + 1,S=>grow K n (S ++ (S.flatMap fun s=>K.filterMap fun k=>Yc7 s.1 s.2 k).filter fun s=>!S.contains s)
def K2:List (List Int):=[[0,0],[0,1],[1,0],[1,1]]
def S2:List (List Nat × List (List Int)):=(grow K2 4 [([],[])]).eraseDups
inductive KeysIn (U:Addr→List Int→Prop):List (List Int)→List (Int × Value)→Prop
 | nil:KeysIn U [] []
 | cons {k:List Int} {a:Addr} {ks:List (List Int)} {l:List (Int × Value)} (h:U a k) (t:KeysIn U ks l):KeysIn U (k :: ks) ((hT k,.ref a) :: l)
theorem KeysIn.hash {U:Addr→List Int→Prop} {ks:List (List Int)} {l:List (Int × Value)} (h:KeysIn U ks l):l.map (·.1) = ks.map hT:=by
 induction h with
 | nil=>rfl
 | cons _ _ ih=>rw [List.map_cons,List.map_cons,ih]
abbrev IK (prog:Program) (w:World) (h:Heap) (k:List Int) (a:Addr):Prop:=IsTupleKey (intKind prog w) h k a
theorem items_int {ks:List Int}  (h:ItemsAre (intKind prog w) ks vs):∀ v ∈ vs,∃ i t,v = .int i t:=by
 induction h with
 | nil=>exact fun _ m=>nomatch m
 | cons h _ ih =>
  intro v hv
  rcases List.mem_cons.mp hv with rfl | hv
  .obtain ⟨t,e⟩:=Value.isInt_shape h
   exact ⟨_,t,e⟩
  .exact ih v hv
theorem KeysIn.at {U:Addr→List Int→Prop} {ks:List (List Int)} {es:Array (Int × Value)} (h:KeysIn U ks es.toList) (i:Nat):(es[i]?.map (·.1)).getD 0 = hAt ks i:=by
 unfold hAt
 rw [<- List.getElem?_map,<- h.hash,List.getElem?_map,Array.getElem?_toList]
end L2
variable {I:Addr}{wr:List Addr}{Pv:Nat→Value→Prop}{κ:SortKind}
namespace L2
open PySem PySem.Spec PyProof.Rows
section
variable      {fp:List Addr} {n:Nat}  {St:Nat→Heap→Prop}
end
end L2
namespace L2
open PySem PySem.Spec PyProof.Rows
end L2
namespace L2
open PySem PySem.Spec PyProof.Rows
inductive Z7b (H:Hp):List V→List (List Int)→Prop
 | nil:Z7b H [] []
 | cons {a:Addr} {k:List Int} {xs:List V} {ks:List (List Int)} (h:H a = some (.tup (k.map V.int))) (t:Z7b H xs ks):Z7b H (.ref a :: xs) (k :: ks)
section
variable    {a:Expr}  {t:TA}  
end
end L2
namespace L2
open PySem PySem.Spec PyProof.Rows
section
variable   {pt:Bool}   {g:MGt} {mt:MTt} {me:MEt} 
end
section
variable   {pt:Bool}          {g:MGt} {mt:MTt} {me:MEt} 
end
end L2
namespace L2
open PySem PySem.Spec PyProof.Rows
end L2
namespace L2
open PySem PySem.Spec PyProof.Rows
abbrev Ycn (h:Heap) (T:Addr) (a b c:Value):Prop:=h.get? T = some { cls:=.type "tuple", data:=.seq #[a,b,c] }
structure Z3A (z TI TO i1 i2 i3:Addr) (f1 f2 f3:List Addr):Prop where
 TIz:TI ≠ z
 TOz:TO ≠ z
 a1:∀ c ∈ f1,c ≠ z/\c ≠ TO/\c ≠ i2/\c ≠ i3
 a2:∀ c ∈ f2,c ≠ z/\c ≠ TO/\c ≠ i1/\c ≠ i3
 a3:∀ c ∈ f3,c ≠ z/\c ≠ TO/\c ≠ i1/\c ≠ i2
abbrev z3A (h:Heap) (a:Addr):Heap:=h.push { cls:=.type "list_iterator", data:=.fields #[.ref a,.int 0 0] }
abbrev z3B (h:Heap) (a b:Addr):Heap:=z3A (z3A h a) b
abbrev z3C (h:Heap) (a b c:Addr):Heap:=z3A (z3B h a b) c
abbrev z3D (h:Heap) (a b c:Addr):Heap:=(z3C h a b c).push { cls:=.type "tuple", data:=.seq #[.ref h.objs.size,.ref (z3A h a).objs.size,.ref (z3B h a b).objs.size] }
abbrev z3E (h:Heap) (a b c:Addr):Heap:=(z3D h a b c).push { cls:=.type "tuple", data:=.seq #[.none,.none,.none] }
abbrev z3F (h:Heap) (a b c:Addr):Heap:=(z3E h a b c).push { cls:=.type "zip", data:=.fields #[.none,.bool false,.bool false,.ref (z3C h a b c).objs.size,.ref (z3D h a b c).objs.size] }
section
variable    {a:Expr}  
end
end L2
namespace L2
open PySem PySem.Spec PyProof.Rows
end L2
namespace L2
open PySem PySem.Spec PyProof.Rows
end L2
namespace L2
open PySem PySem.Spec PyProof.Rows
def Up (xs:List Nat):Prop:=xs.Pairwise (· < ·)
structure Tb (b:Bool) (t:SetTable):Prop where
 led:t.led = b
 up:t.plain = true→Up t.place.toList
end L2
namespace L2
open PySem PySem.Spec PyProof.Rows
section
variable      {b:Bool}
end
end L2
namespace L2
open PySem PySem.Spec PyProof.Rows
def OfL  (ks ns:List α):Prop:=ks.Nodup/\∀ x,x ∈ ks ↔ x ∈ ns
abbrev Of (ks ns:List Int):Prop:=OfL ks ns
structure Yda {τ:Type} (prog:Program) (w:World) (A:Around) (S:Addr) (T:Heap→List τ→Prop) (h0:Heap) (n:Nat) (Ok:Value→τ→Prop):Prop where
 stay:∀ h h' ks,T h ks→(∀ o,h.get? S = some o→h'.get? S = some o)→T h' ks
 add:∀ (s:Shared) (E:Value→Shared→Prop) (v:Value) (k:τ) (ks:List τ) (Q:Bool→Shared→Prop),Ok v k→(∀ b o,b < S→h0.get? b = some o→s.heap.get? b = some o)→T s.heap ks→ks.length < n→(∀ c h' tk ks',Heap.SameBut S s.heap h'→T h' ks'→(k ∈ ks→ks' = ks)→(k ∉ ks→ks'.Perm (ks ++ [k]))→Q c { s with heap:=h',toks:=tk })→wpAny (model prog w) A (setAdd S v) Q E s
section
variable     {S:Addr} {fp:List Addr} {n:Nat}  {St:Nat→Heap→Prop} {τ:Type} {T:Heap→List τ→Prop} {h0:Heap} {Ok:Value→τ→Prop}
end
end L2
namespace L2
open PySem PySem.Spec PyProof.Rows
end L2
namespace L2
open PySem PySem.Spec PyProof.Rows
end L2
namespace L2
open PySem PySem.Spec PyProof.Rows
end L2
namespace L2
open PySem PySem.Spec PyProof.Rows
end L2
namespace L2
open PySem PySem.Spec PyProof.Rows
end L2
namespace L2
open PySem PySem.Spec PyProof.Rows
end L2
namespace L2
open PySem PySem.Spec PyProof.Rows
end L2
namespace L2
open PySem PySem.Spec PyProof.Rows
section
variable    {a:Expr}  {t:TA}  
end
end L2
namespace L2
open PySem PySem.Spec PyProof.Rows
end L2
namespace L2
open PySem PySem.Spec PyProof.Rows
section
variable {κ:Type} [DecidableEq κ]
def Zmo (kvs:List (κ × V)) (k:κ):Option V:=(kvs.find? fun kv=>decide (kv.1 = k)).map (·.2)
def putK (kvs:List (κ × V)) (k:κ) (v:V):List (κ × V) :=
 if (kvs.any fun kv=>decide (kv.1 = k)) = true then kvs.map (fun kv=>if kv.1 = k then (kv.1,v) else kv) else kvs ++ [(k,v)]
theorem Zej {p:κ × V} {r:List (κ × V)} {k:κ} (e:p.1 = k):Zmo (p :: r) k = some p.2:=by simp [Zmo,List.find?_cons,e]
theorem Zec {p:κ × V} {r:List (κ × V)} {k:κ} (e:¬ p.1 = k):Zmo (p :: r) k = Zmo r k:=by simp [Zmo,List.find?_cons,e]
theorem Zld (k:κ):∀ kvs:List (κ × V),(kvs.any fun kv=>decide (kv.1 = k)) = (Zmo kvs k).isSome
 | []=>rfl
 | p :: r=>by
  rw [List.any_cons]
  by_cases e:p.1 = k
  .simp only [Zej e,decide_eq_true e,Bool.true_or,Option.isSome_some]
  .rw [Zec e,decide_eq_false e,Bool.false_or]; exact Zld k r
theorem Zfq (kvs:List (κ × V)) (k:κ) (v:V):(putK kvs k v).length <= kvs.length + 1:=by
 unfold putK
 split
 .rw [List.length_map]; omega
 .rw [List.length_append,List.length_cons,List.length_nil]; omega
theorem RelO.isSome_eq {o:Option V} {u:Option Value} (r:RelO o u):o.isSome = u.isSome:=by
 cases o with
 | none=>cases u with
  | none=>rfl
  | some _=>exact (show False from r).elim
 | some _=>cases u with
  | none=>exact (show False from r).elim
  | some _=>rfl
theorem RelO.getD {o:Option V} {u:Option Value} {d:V} {d':Value} (r:RelO o u) (rd:RelV d d'):RelV (o.getD d) (u.getD d'):=by
 cases o with
 | none=>cases u with
  | none=>exact rd
  | some _=>exact (show False from r).elim
 | some _=>cases u with
  | none=>exact (show False from r).elim
  | some _=>exact r
theorem KV.val {kvs:List (κ × V)} {vs:List (κ × Value)} (r:KV kvs vs) (k:κ):RelO (Zmo kvs k) (valueAt vs k):=by
 unfold KV at r
 induction r with
 | nil=>exact True.intro
 | @cons p q ps qs h t ih =>
  obtain ⟨h1,h2⟩:=h
  by_cases e:p.1 = k
  .have e':q.1 = k:=h1.symm.trans e
   have b:valueAt (q :: qs) k = some q.2:=by simp [valueAt,List.find?_cons,e']
   rw [Zej e,b]; exact h2
  .have e':¬ q.1 = k:=fun z=>e (h1.trans z)
   have b:valueAt (q :: qs) k = valueAt qs k:=by simp [valueAt,List.find?_cons,e']
   rw [Zec e,b]; exact ih
theorem KV.any {kvs:List (κ × V)} {vs:List (κ × Value)} (r:KV kvs vs) (k:κ):(kvs.any fun kv=>decide (kv.1 = k)) = vs.any fun kv=>decide (kv.1 = k):=by
 unfold KV at r
 induction r with
 | nil=>rfl
 | cons h t ih=>rw [List.any_cons,List.any_cons,ih,h.1]
theorem KV.repl {kvs:List (κ × V)} {vs:List (κ × Value)} (r:KV kvs vs) (k:κ) {y:V}  (ry:RelV y u) :
  KV (kvs.map fun kv=>if kv.1 = k then (kv.1,y) else kv) (vs.map fun kv=>if kv.1 = k then (kv.1,u) else kv):=by
 unfold KV at r |-
 induction r with
 | nil=>exact .nil
 | @cons p q ps qs h t ih =>
  rw [List.map_cons,List.map_cons]
  refine .cons ?_ ih
  obtain ⟨h1,h2⟩:=h
  by_cases e:p.1 = k
  .rw [if_pos e,if_pos (h1.symm.trans e)]; exact ⟨h1,ry⟩
  .rw [if_neg e,if_neg (fun z=>e (h1.trans z))]; exact ⟨h1,h2⟩
theorem KV.put {kvs:List (κ × V)} {vs:List (κ × Value)} (r:KV kvs vs) (k:κ) {y:V}  (ry:RelV y u):KV (putK kvs k y) (stored vs k u):=by
 unfold putK stored
 rw [r.any k]
 by_cases e:(vs.any fun kv=>decide (kv.1 = k)) = true
 .rw [if_pos e,if_pos e]; exact r.repl k ry
 .rw [if_neg e,if_neg e]; exact Paired.snoc r ⟨rfl,ry⟩
theorem KV.length {kvs:List (κ × V)} {vs:List (κ × Value)} (r:KV kvs vs):kvs.length = vs.length:=Paired.length r
end
theorem Zxn   {k:Key}  (r:RelV (kV k) u):(Wi P w).is k u = true:=by
 cases k with
 | inl i=>obtain ⟨t,e⟩:=(show ∃ t,u = Value.int i t from r); subst e; exact Zj2 P w i t
 | inr x=>obtain ⟨t,e⟩:=(show ∃ t,u = Value.str x t from r); subst e; exact Zjq P w x t
theorem Zi7  :∀ {ks:List Key} {us:List Value},Vals (ks.map kV) us→ItemsAre (Wi P w) ks us
 | [],_,r=>by rw [List.map_nil] at r; cases r; exact .nil
 | k :: ks,_,r=>by
  rw [List.map_cons] at r
  cases r with
  | cons h t=>exact .cons (Zxn h) (Zi7 t)
abbrev KT (H:Hp):List (List Key × V)→List (List Key × Addr × Value)→Prop:=Paired fun p q=>p.1 = q.1/\H q.2.1 = some (.tup (p.1.map kV))/\RelV p.2 q.2.2
theorem KT.val  {kvs:List (List Key × V)} {xs:List (List Key × Addr × Value)} (r:KT H kvs xs) (k:List Key):RelO (Zmo kvs k) ((atKey xs k).map (·.2)):=by
 induction r with
 | nil=>exact True.intro
 | @cons p q ps qs h t ih =>
  obtain ⟨h1,_,h2⟩:=h
  by_cases e:p.1 = k
  .have e':q.1 = k:=h1.symm.trans e
   have b:atKey (q :: qs) k = some q.2:=by simp [atKey,List.find?_cons,e']
   rw [Zej e,b]; exact h2
  .have e':¬ q.1 = k:=fun z=>e (h1.trans z)
   have b:atKey (q :: qs) k = atKey qs k:=by simp [atKey,List.find?_cons,e']
   rw [Zec e,b]; exact ih
theorem KT.repl  {kvs:List (List Key × V)} {xs:List (List Key × Addr × Value)} (r:KT H kvs xs) (k:List Key) {y:V}  (ry:RelV y u) :
  KT H (kvs.map fun kv=>if kv.1 = k then (kv.1,y) else kv) (xs.map (putAt k u)):=by
 induction r with
 | nil=>exact .nil
 | @cons p q ps qs h t ih =>
  rw [List.map_cons,List.map_cons]
  refine .cons ?_ ih
  obtain ⟨h1,h2,h3⟩:=h
  unfold putAt
  by_cases e:p.1 = k
  .rw [if_pos e,if_pos (h1.symm.trans e)]; exact ⟨h1,h2,ry⟩
  .rw [if_neg e,if_neg (fun z=>e (h1.trans z))]; exact ⟨h1,h2,h3⟩
theorem KT.put  {kvs:List (List Key × V)} {xs:List (List Key × Addr × Value)} (r:KT H kvs xs) (k:List Key) {b:Addr} {y:V}  (hb:H b = some (.tup (k.map kV))) (ry:RelV y u) :
  KT H (putK kvs k y) (storedH xs k b u):=by
 have e:(kvs.any fun kv=>decide (kv.1 = k)) = (atKey xs k).isSome:=by
  rw [Zld,(r.val k).isSome_eq,Option.isSome_map]
 unfold putK storedH
 rw [e]
 by_cases q:(atKey xs k).isSome = true
 .rw [if_pos q,if_pos q]; exact r.repl k ry
 .rw [if_neg q,if_neg q]; exact Paired.snoc r ⟨rfl,hb,ry⟩
theorem KT.keeps  {kvs:List (List Key × V)} {xs:List (List Key × Addr × Value)} (r:KT H kvs xs) (ht:∀ b ys,H b = some (.tup ys)→H' b = some (.tup ys)):KT H' kvs xs :=
 Paired.mapP r fun _ _ z=>⟨z.1,ht _ _ z.2.1,z.2.2⟩
theorem Z1e {u:HO} (ok:HOk P w H h) (e:Rd H a u):ObjOk P w H h a u:=e.ok ok
theorem Zrp {kvs:List (Key × V)} (ok:HOk P w H h) (e:Rd H a (.dK kvs)):kvs.length <= sizeLine/\(a == sysModules) = false/\∃ vs,KV kvs vs/\h.DictOf (Wi P w) a vs :=
 show ObjOk P w H h a (.dK kvs) from Z1e ok e
theorem Z7r {kvs:List (Key × V)} (ok:HOk P w H h) (e:H a = some (.dK kvs)):kvs.length <= sizeLine/\(a == sysModules) = false/\∃ vs,KV kvs vs/\h.DictOf (Wi P w) a vs:=Zrp ok (.inl e)
theorem Zn4 {ks:List Key} (ok:HOk P w H h) (e:H a = some (.tup (ks.map kV))):(tupleKind (Wi P w)).is h ks a:=by
 obtain ⟨_,its,r,o,h1,h2,n,h3⟩:=(show ObjOk P w H h a (.tup (ks.map kV)) from ok a _ e)
 exact ⟨o,its.toArray,n,h1,h2,h3,by simpa using Zi7 r⟩
theorem Zrz {kvs:List (List Key × V)} (ok:HOk P w H h) (e:Rd H a (.dT kvs)):kvs.length <= sizeLine/\(a == sysModules) = false /\
  ∃ xs,KT H kvs xs/\h.DictOfH (tupleKind (Wi P w)) a xs:=by
 obtain ⟨z,y,xs,r,o,es,ep,h1,h2,h3,h4,h5⟩:=(show ObjOk P w H h a (.dT kvs) from Z1e ok e)
 refine ⟨z,y,xs,r,o,es,ep,h1,h2,h3,h4,fun x hx=>?_,h5⟩
 have all:∀ {l:List (List Key × V)} {m:List (List Key × Addr × Value)},KT H l m→∀ x ∈ m,(tupleKind (Wi P w)).is h x.1 x.2.1:=by
  intro l m q
  induction q with
  | nil=>intro x hx; exact nomatch hx
  | @cons p q ps qs hq t ih =>
   intro x hx
   rcases List.mem_cons.mp hx with e | hx
   .subst e
    exact Zn4 ok (by rw [<- hq.1]; exact hq.2.1)
   .exact ih x hx
 exact all r x hx
theorem Z71 {kvs:List (List Key × V)} (ok:HOk P w H h) (e:H a = some (.dT kvs)):kvs.length <= sizeLine/\(a == sysModules) = false /\
  ∃ xs,KT H kvs xs/\h.DictOfH (tupleKind (Wi P w)) a xs:=Zrz ok (.inl e)
def DGet (H:Hp) (a:Addr) (y:V) (r:Option V):Prop :=
 (∃ kvs k,Rd H a (.dK kvs)/\y = kV k/\r = Zmo kvs k)\/∃ kvs k b,Rd H a (.dT kvs)/\y = .ref b/\H b = some (.tup (k.map kV))/\r = Zmo kvs k
def DPut (H:Hp) (a:Addr) (y v:V) (H':Hp):Prop :=
 (∃ kvs k,H a = some (.dK kvs)/\y = kV k/\kvs.length < sizeLine/\H' = upd H a (.dK (putK kvs k v))) \/
 ∃ kvs k b,H a = some (.dT kvs)/\y = .ref b/\H b = some (.tup (k.map kV))/\kvs.length < sizeLine/\H' = upd H a (.dT (putK kvs k v))
theorem DGet.k   {kvs:List (Key × V)} {k:Key} (e:H a = some (.dK kvs)):DGet H a (kV k) (Zmo kvs k):=.inl ⟨kvs,k,.inl e,rfl,rfl⟩
theorem DGet.t  {b:Addr} {kvs:List (List Key × V)} {k:List Key} (e:H a = some (.dT kvs)) (eb:H b = some (.tup (k.map kV))):DGet H a (.ref b) (Zmo kvs k):=.inr ⟨kvs,k,b,.inl e,rfl,eb,rfl⟩
theorem DPut.k   {kvs:List (Key × V)} {k:Key}  (e:H a = some (.dK kvs)) (hl:kvs.length < sizeLine):DPut H a (kV k) v (upd H a (.dK (putK kvs k v))):=.inl ⟨kvs,k,e,rfl,hl,rfl⟩
theorem DPut.t  {b:Addr} {kvs:List (List Key × V)} {k:List Key}  (e:H a = some (.dT kvs)) (eb:H b = some (.tup (k.map kV))) (hl:kvs.length < sizeLine) :
  DPut H a (.ref b) v (upd H a (.dT (putK kvs k v))):=.inr ⟨kvs,k,b,e,rfl,eb,hl,rfl⟩
section
variable   {σ:St}    {y:V} {r:Value} {o:Option V}  
theorem Inv.big (I:Inv X pins σ H s):sysModules < s.heap.objs.size:=by
 have h:mainGlobals < s.heap.objs.size:=(I.mod.glob.keeps I.bk).lt
 exact Nat.lt_trans (by decide) h
theorem Zpm  (hu:A.units + 1 < cLine) (I:Inv X pins σ H s) (g:DGet H a y (some v)) (ry:RelV y u) (h:∀ w' s',Inv X pins σ H s'→RelV v w'→Q w' s') :
  wpAny (model X.prog X.w) A (getItem (.ref a) u) Q E s:=by
 rcases g with ⟨kvs,k,e,ey,l⟩ | ⟨kvs,k,b,e,ey,eb,l⟩
 .subst ey
  obtain ⟨z,hd,vs,rel,dd⟩:=Zrp I.hok e
  obtain ⟨w',hw,rw'⟩:=RelO.some_of (v:=v) (o:=valueAt vs k) (by rw [l]; exact rel.val k)
  exact wpAny_getItem_of (Zxn ry) dd.mapOf hw (h w' _ (I.tok _) rw')
 .subst ey
  cases (show u = Value.ref b from ry)
  obtain ⟨z,hd,xs,rel,dd⟩:=Zrz I.hok e
  obtain ⟨w',hw,rw'⟩:=RelO.some_of (v:=v) (o:=(atKey xs k).map (·.2)) (by rw [l]; exact rel.val k)
  obtain ⟨p,hp,hp2⟩:=Option.map_eq_some_iff.mp hw
  refine wpAny_getItem_heap (tupleKind_room_in1 hu) (Zn4 I.hok eb) dd hp ?_
  rw [hp2]
  exact h w' _ (I.tok _) rw'
theorem Zom   {ob:HO} (I:Inv X pins σ H s) (mu:Mut (H a)) (hs:Heap.SameBut a s.heap h') (he:∃ q,h'.get? a = some q) (new:ObjOk X.prog X.w (upd H a ob) h' a ob) :
  Inv X pins σ (upd H a ob) { s with heap:=h',toks:=t' } :=
 I.write (x:=a) (e:=a) mu (.inl rfl) (fun b q hb z=>(hs.2 b hb).trans z) he new
theorem Z1u     {kvs:List (Key × V)} {vs:List (Key × Value)} (z:kvs.length <= sizeLine) (hd:(a == sysModules) = false) (rel:KV kvs vs) (dd:h'.DictOf (Wi P w) a vs) :
  ObjOk P w H' h' a (.dK kvs):=⟨z,hd,vs,rel,dd⟩
theorem Zp9  {Q:Unit→Shared→Prop} (hu:A.units + 1 < cLine) (I:Inv X pins σ H s) (g:DPut H a y v H') (ry:RelV y u) (rv:RelV v r) (h:∀ s',Inv X pins σ H' s'→Q () s') :
  wpAny (model X.prog X.w) A (setItem (.ref a) u r) Q E s:=by
 rcases g with ⟨kvs,k,e,ey,l,eH⟩ | ⟨kvs,k,b,e,ey,eb,l,eH⟩
 .subst ey eH
  obtain ⟨z,hd,vs,rel,dd⟩:=Z7r I.hok e
  have hz:vs.length <= sizeLine:=by rw [<- rel.length]; exact z
  have hl:(putK kvs k v).length <= sizeLine:=by have:=Zfq kvs k v; omega
  refine wpAny_setItem_pairs (hsz:=hz) (Zxn ry) dd fun h' dd' hs=>h _ ?_
  have he:∃ q,h'.get? a = some q:=let ⟨q,_,_,hq,_⟩:=dd'; ⟨q,hq⟩
  exact Zom I (by rw [e]; exact True.intro) hs he (Z1u hl hd (rel.put k rv) dd')
 .subst ey eH
  cases (show u = Value.ref b from ry)
  obtain ⟨z,hd,xs,rel,dd⟩:=Z71 I.hok e
  have hz:xs.length <= sizeLine:=by rw [<- Paired.length rel]; exact z
  have hl:(putK kvs k v).length <= sizeLine:=by have:=Zfq kvs k v; omega
  refine wpAny_setItem_heap (hsz:=hz) (tupleKind_room_in1 hu) (Zn4 I.hok eb) dd fun h' dd' hs=>h _ ?_
  obtain ⟨q,es,ep,hq,h2,h3,h4,_,h5⟩:=dd'
  refine Zom I (by rw [e]; exact True.intro) hs ⟨q,hq⟩ ⟨hl,hd,_,(rel.put k eb rv).keeps fun c ys ec=>?_,q,es,ep,hq,h2,h3,h4,h5⟩
  rw [Zk (Z7v ec e (fun z=>nomatch z))]
  exact ec
end
section
variable   {σ:St}    {kvs:List (Key × V)} {k:Key}   
end
def Z7d (i:Expr):Prop:=∀ ov iv,subscripted i false ov iv = operate [ov,iv] (getItem ov iv)
theorem Zwq       {slice:Expr}  {T:String} 
  (hl:typeLookup (.type T) "__getitem__" = pure (some (.builtin id))) (hs:Z7d slice)
  (h:wpAny (model prog w) A (eval value env) (fun o s₁=>wpAny (model prog w) A (eval slice env) (fun i s₂=>s₂.TypeIs o T/\wpAny (model prog w) A (getItem o i) Q E s₂) E s₁) E s) :
  wpAny (model prog w) A (eval (.Subscript value slice pos) env) Q E s:=by
 refine Subscript_ (wpAny_mono h (fun o s₁ h₁=>wpAny_mono h₁ (fun i s₂ h₂=>?_) fun _ _ x=>x) fun _ _ x=>x)
 obtain ⟨hT,h₂⟩:=h₂
 unfold subscriptTail
 refine wpAny_bind ?_
 rw [getitemInPython_of_ne hT.not_modules]
 refine wpAny_bind (wpAny_specialOf hT hl ?_)
 have fin:wpAny (model prog w) A (subscripted slice false o i) (fun r s₃=>wpAny (model prog w) A (letTemporaryGo value o r >>= fun _=>pure r) Q E s₃) E s₂:=by
  rw [hs o i]
  exact wpAny_operating (wpAny_mono h₂ (fun r s₃ h₃=>wpAny_bind (wpAny_letTemporaryGo (wpAny_pure h₃))) fun _ _ x=>x)
 first
  | exact wpAny_pure (wpAny_bind fin)
  | exact wpAny_bind (wpAny_pure (wpAny_bind fin))
  | exact wpAny_bind fin
theorem Zji   {σ:St}    {y:V} {o:Option V} (I:Inv X pins σ H s) (g:DGet H a y o):s.TypeIs (.ref a) "dict" := by
 rcases g with ⟨kvs,k,e,_,_⟩ | ⟨kvs,k,b,e,_,_,_⟩
 .obtain ⟨_,_,vs,_,dd⟩:=Zrp I.hok e
  exact dd.typeIs
 .obtain ⟨_,_,xs,_,dd⟩:=Zrz I.hok e
  exact dd.typeIs
def Z6r (td ty:TE):TE:=fun σ H Q=>td σ H fun x H1=>ty σ H1 fun y H2=>∃ a v,x = .ref a/\DGet H2 a y (some v)/\Q v H2
def Z5q (td ty tv:TE):TS:=fun D σ H=>tv σ H fun v H1=>td σ H1 fun x H2=>ty σ H2 fun y H3=>∃ a H4,x = .ref a/\DPut H3 a y v H4/\D.nx σ H4
section
variable  {o i:Expr} {tpos:Pos} {ty tv:TE}
theorem Zx3 (hu:X.A.units + 1 < cLine) (ho:PE X o td) (hi:PE X i ty) (hs:Z7d i):PE X (.Subscript o i pos) (Z6r td ty):=by
 intro pins s σ H Q I h
 refine Zwq PySem.F.slot_dict_getitem.lookup hs (thn (ho pins s σ H _ I h) fun u s1 ⟨x,H1,I1,rx,q1⟩=>thn (hi pins s1 σ H1 _ I1 q1) fun iv s2 ⟨y,H2,I2,ry,a,v,ex,g,q2⟩=>?_)
 subst ex
 obtain rfl:u = Value.ref a:=rx
 exact ⟨Zji I2 g,Zpm hu I2 g ry fun w' s3 I3 rw'=>⟨v,H2,I3,rw',q2⟩⟩
theorem Zwz (hu:X.A.units + 1 < cLine) (ho:PE X o td) (hi:PE X i ty) (hv:PE X value tv) (hs:swapsWith value (some (.Subscript o i pos')) pos.line X.env = pure false) :
  PS X (.Assign [.Subscript o i pos'] value pos) (Z5q td ty tv):=by
 intro pins s σ H D I h
 refine wpAny_Assign_Subscript (thn (hv pins s σ H _ I h) fun r s1 ⟨v,H1,I1,rv,q1⟩=>thn (ho pins s1 σ H1 _ I1 q1) fun u s2 ⟨x,H2,I2,rx,q2⟩=>thn (hi pins s2 σ H2 _ I2 q2) fun iv s3 ⟨y,H3,I3,ry,a,H4,ex,g,q3⟩=>?_) hs
 subst ex
 obtain rfl:u = Value.ref a:=rx
 exact Zp9 hu I3 g ry rv fun s4 I4=>⟨σ,H4,I4,q3⟩
end
theorem Zq7    (h:Heap) (hb:sysModules < h.objs.size):ObjOk P w H (h.push { cls:=.type "dict", data:=.dict #[] }) h.objs.size (.dT []) :=
 ⟨Nat.zero_le _,beq_eq_false_iff_ne.mpr (Ne.symm (Nat.ne_of_lt hb)),[],.nil,_,#[],0,Heap.get?_push_size _ rfl,⟨rfl,rfl,rfl⟩,rfl,rfl,List.nodup_nil⟩
def Z1g:TE:=fun _ H Q=>∀ p,H p = none→Q (.ref p) (upd H p (.dT []))
theorem Zsa:PE X (.Dict [] [] pos) Z1g:=fun pins s σ H Q I h =>
 wpAny_Dict_empty ⟨.ref s.heap.objs.size,_,I.laid (a:=s.heap.objs.size) (o:=.dT []) (t':=s.toks) (fun _ _ q=>Heap.get?_push_of_some _ q) (Nat.le_refl _) (Zq7 s.heap I.big),rfl,h _ (I.hok.fresh (Nat.le_refl _))⟩
abbrev VV:List (V × V)→List (Value × Value)→Prop:=Paired fun p q=>RelV p.1 q.1/\RelV p.2 q.2
structure M1 (X:Cx) (o:Expr) (m:Str) (apos:Pos) (e:Expr) (cpos:Pos):Prop where
 base:attributeBase o m X.env (eval o X.env) = eval o X.env
 few:((backTo cpos (starEach [e] X.env)).all (fun x=>!x.1) && (backToKw cpos (keywordEach [] X.env)).all (fun x=>x.1.isSome)
  && decide (([e]:List Expr).length + ([]:List Keyword).length + (if ([]:List Keyword).isEmpty then 0 else 1) < 30)) = true
 line:(apos.endLine == cpos.line) = true
 trees:backTo cpos (starEach [e] X.env) = [(false,eval e X.env)]
structure M2 (X:Cx) (o:Expr) (m:Str) (apos:Pos) (e f:Expr) (cpos:Pos):Prop where
 base:attributeBase o m X.env (eval o X.env) = eval o X.env
 few:((backTo cpos (starEach [e,f] X.env)).all (fun x=>!x.1) && (backToKw cpos (keywordEach [] X.env)).all (fun x=>x.1.isSome)
  && decide (([e,f]:List Expr).length + ([]:List Keyword).length + (if ([]:List Keyword).isEmpty then 0 else 1) < 30)) = true
 line:(apos.endLine == cpos.line) = true
 trees:backTo cpos (starEach [e,f] X.env) = [(false,eval e X.env),(false,eval f X.env)]
def IsD (H:Hp) (a:Addr):Prop:=(∃ kvs,Rd H a (.dK kvs))\/∃ kvs,Rd H a (.dT kvs)
theorem Z4j   {σ:St}    (I:Inv X pins σ H s) (d:IsD H a) :
  s.TypeIs (.ref a) "dict" /\ (∀ b,Value.ref a = .ref b→∃ ob,s.heap.get? b = some ob/\ob.dict = none)/\(a == sysModules) = false:=by
 rcases d with ⟨kvs,e⟩ | ⟨kvs,e⟩
 .obtain ⟨_,hd,vs,_,dd⟩:=Zrp I.hok e
  refine ⟨dd.typeIs,fun b q=>?_,hd⟩
  cases q
  obtain ⟨ob,_,_,h1,h2,_⟩:=dd
  exact ⟨ob,h1,h2.2.1⟩
 .obtain ⟨_,hd,xs,_,dd⟩:=Zrz I.hok e
  refine ⟨dd.typeIs,fun b q=>?_,hd⟩
  cases q
  obtain ⟨ob,_,_,h1,h2,_⟩:=dd
  exact ⟨ob,h1,h2.2.1⟩
section
variable   {σ:St}    {y d:V} {r:Value} {o:Option V}  
end
section
variable  {o f:Expr}  {ty tx:TE}
end
end L2
namespace L2
open PySem PySem.Spec PyProof.Rows
def Zfz:PyData→Option Key
 | .int i=>some (.inl i)
 | .str x=>some (.inr x)
 | _=>none
def Zjg:List PyData→Option (List Key)
 | []=>some []
 | d :: ds=>(Zfz d).bind fun k=>(Zjg ds).bind fun ks=>some (k :: ks)
def Zh5:PyData→Option KY
 | .tuple ds=>(Zjg ds).map .inr
 | d=>(Zfz d).map .inl
def Zu7:KY→Bool
 | .inl _=>false
 | .inr _=>true
theorem Zy4 (k:Key):Zfz (Zwb k) = some k:=by cases k <;> rfl
theorem Zxj (ks:List Key):Zjg (ks.map Zwb) = some ks:=by
 induction ks with
 | nil=>rfl
 | cons k ks ih=>rw [List.map_cons,Zjg,Zy4,ih]; rfl
theorem Zus (k:KY):Zh5 (kyD k) = some k:=by
 cases k with
 | inl k=>cases k <;> rfl
 | inr ks=>show (Zjg (ks.map Zwb)).map (Sum.inr:List Key→KY) = _; rw [Zxj]; rfl
def Zw7 (k:KY):List KY→List PyData→Option PyData
 | [],_=>none
 | _ :: _,[]=>none
 | j :: ks,d :: ds=>if j = k then some d else Zw7 k ks ds
def Z3e (k:KY) (x:PyData):List KY→List PyData→List PyData
 | [],ds=>ds
 | _ :: _,[]=>[]
 | j :: ks,d :: ds=>(if j = k then x else d) :: Z3e k x ks ds
def Zq0 (k:KY) (ks:List KY):Bool:=ks.any fun j=>decide (j = k)
def Zi8 (k:KY) (ks:List KY):List KY:=if Zq0 k ks = true then ks else ks ++ [k]
def Zi6 (k:KY) (x:PyData) (ks:List KY) (ds:List PyData):List PyData:=if Zq0 k ks = true then Z3e k x ks ds else ds ++ [x]
section
variable   {κ:Type} [DecidableEq κ] {f:κ→KY}
def Z6y (G:PySem.W.Frag) (H:Hp) (L:Addr→Prop) (a:Option V) (b:Option PyData):Prop:=(∃ v d,a = some v/\b = some d/\Da G H L v d)\/(a = none/\b = none)
theorem look (hf:∀ a b,f a = f b→a = b) (k:κ) (kvs:List (κ × V)):∀ ds,Das G H L (kvs.map (·.2)) ds→Z6y G H L (Zmo kvs k) (Zw7 (f k) (kvs.map fun p=>f p.1) ds):=by
 induction kvs with
 | nil=>exact fun ds _=>.inr ⟨rfl,rfl⟩
 | cons p kvs ih =>
  intro ds h
  cases h with
  | cons h r =>
   rename_i d ds
   show Z6y G H L _ (if f p.1 = f k then some d else Zw7 (f k) (kvs.map fun p=>f p.1) ds)
   by_cases e:p.1 = k
   .rw [Zej e,if_pos (congrArg f e)]
    exact .inl ⟨_,_,rfl,rfl,h⟩
   .rw [Zec e,if_neg fun z=>e (hf _ _ z)]
    exact ih _ r
theorem Z9z (hf:∀ a b,f a = f b→a = b) (k:κ) (kvs:List (κ × V)):(kvs.any fun kv=>decide (kv.1 = k)) = Zq0 (f k) (kvs.map fun p=>f p.1):=by
 unfold Zq0
 rw [List.any_map]
 refine congrArg (List.any kvs) (funext fun p=>?_)
 exact decide_eq_decide.mpr ⟨congrArg f,hf _ _⟩
theorem Ybo (k:κ) (v:V) (kvs:List (κ × V)):(kvs.map (fun kv=>if kv.1 = k then (kv.1,v) else kv)).map (fun p=>f p.1) = kvs.map fun p=>f p.1:=by
 rw [List.map_map]
 refine List.map_congr_left fun p _=>?_
 show f (if p.1 = k then (p.1,v) else p).1 = f p.1
 by_cases c:p.1 = k
 .rw [if_pos c]
 .rw [if_neg c]
theorem Yby (hf:∀ a b,f a = f b→a = b) (k:κ)  {x:PyData} (hv:Da G H L v x) (kvs:List (κ × V)):∀ ds,Das G H L (kvs.map (·.2)) ds→Das G H L ((kvs.map (fun kv=>if kv.1 = k then (kv.1,v) else kv)).map (·.2)) (Z3e (f k) x (kvs.map fun p=>f p.1) ds):=by
 induction kvs with
 | nil=>intro ds h; cases h; exact .nil
 | cons p kvs ih =>
  intro ds h
  cases h with
  | cons h r =>
   rename_i d ds
   refine .cons ?_ (ih _ r)
   show Da G H L (if p.1 = k then (p.1,v) else p).2 (if f p.1 = f k then x else d)
   by_cases e:p.1 = k
   .rw [if_pos e,if_pos (congrArg f e)]; exact hv
   .rw [if_neg e,if_neg fun z=>e (hf _ _ z)]; exact h
theorem Zlr (hf:∀ a b,f a = f b→a = b) (k:κ) (v:V) (kvs:List (κ × V)):(putK kvs k v).map (fun p=>f p.1) = Zi8 (f k) (kvs.map fun p=>f p.1):=by
 unfold putK Zi8
 rw [Z9z hf]
 cases c:Zq0 (f k) (kvs.map fun p=>f p.1) with
 | true=>rw [if_pos rfl,if_pos rfl,Ybo]
 | false=>rw [if_neg Bool.false_ne_true,if_neg Bool.false_ne_true,List.map_append]; rfl
theorem Zkz (hf:∀ a b,f a = f b→a = b) (k:κ)  {x:PyData} (hv:Da G H L v x) (kvs:List (κ × V))  (h:Das G H L (kvs.map (·.2)) ds):Das G H L ((putK kvs k v).map (·.2)) (Zi6 (f k) x (kvs.map fun p=>f p.1) ds):=by
 unfold putK Zi6
 rw [Z9z hf]
 cases c:Zq0 (f k) (kvs.map fun p=>f p.1) with
 | true=>rw [if_pos rfl,if_pos rfl]; exact Yby hf k hv kvs _ h
 | false=>rw [if_neg Bool.false_ne_true,if_neg Bool.false_ne_true,List.map_append]; exact h.snoc hv
end
theorem Zkc:∀ a b:Key,(Sum.inl a:KY) = Sum.inl b→a = b:=fun _ _ h=>Sum.inl.inj h
theorem Zj1:∀ a b:List Key,(Sum.inr a:KY) = Sum.inr b→a = b:=fun _ _ h=>Sum.inr.inj h
section
variable   {y:V} {e:PyData}
theorem Da.key1 {k:Key} (h:Da G H L y e) (hk:Zfz e = some k):y = kV k:=by
 cases h with
 | int i=>cases hk; rfl
 | str x=>cases hk; rfl
 | exc _ _ _=>unfold exD Zfz at hk; cases hk
 | fn _=>unfold fnD Zfz at hk; cases hk
 | dic _ _ _ _=>unfold dcD Zfz at hk; cases hk
 | _=>cases hk
theorem Das.keys   (h:Das G H L xs ds):∀ ks,Zjg ds = some ks→xs = ks.map kV :=
 Das.ind (Q:=fun xs ds=>∀ ks,Zjg ds = some ks→xs = ks.map kV) (fun ks h=>by cases h; rfl) (fun {x xs d ds} h _ ih ks hk=>by
  rw [Zjg] at hk
  obtain ⟨k,h1,hk⟩:=bs hk
  obtain ⟨ks',h2,hk⟩:=bs hk
  cases hk
  rw [h.key1 h1,ih _ h2]; rfl) h
theorem Da.keyT {ks:List Key} (h:Da G H L y e) (hk:Zh5 e = some (.inr ks)):∃ b,y = .ref b/\H b = some (.tup (ks.map kV)):=by
 cases h with
 | tup e1 r =>
  rw [Zh5] at hk
  obtain ⟨ks',h1,h2⟩:=Option.map_eq_some_iff.mp hk
  cases h2
  exact ⟨_,rfl,by rw [<- r.keys _ h1]; exact e1⟩
 | exc _ _ _=>unfold exD Zh5 Zfz at hk; cases hk
 | fn _=>unfold fnD Zh5 Zfz at hk; cases hk
 | dic _ _ _ _=>unfold dcD Zh5 Zfz at hk; cases hk
 | _=>cases hk
theorem Da.keyS {k:Key} (h:Da G H L y e) (hk:Zh5 e = some (.inl k)):y = kV k:=by
 refine h.key1 ?_
 unfold Zh5 at hk
 split at hk
 .obtain ⟨_,_,z⟩:=Option.map_eq_some_iff.mp hk; cases z
 .obtain ⟨_,h1,z⟩:=Option.map_eq_some_iff.mp hk; cases z; exact h1
def Zmu (k:KY):List (PyData × PyData)→Option PyData
 | []=>none
 | p :: r=>if Zh5 p.1 = some k then some p.2 else Zmu k r
theorem Zjf (k:KY) (ks:List KY):∀ ds,Zmu k ((ks.map kyD).zip ds) = Zw7 k ks ds:=by
 induction ks with
 | nil=>intro ds; rfl
 | cons j ks ih =>
  intro ds
  cases ds with
  | nil=>rfl
  | cons d ds =>
   show (if Zh5 (kyD j) = some k then some d else Zmu k ((ks.map kyD).zip ds)) = if j = k then some d else Zw7 k ks ds
   rw [Zus,ih]
   by_cases c:j = k
   .rw [if_pos c,if_pos (congrArg some c)]
   .rw [if_neg c,if_neg fun z=>c (Option.some.inj z)]
theorem Da.dget {x:V} {t:Bool} {kvs:List (PyData × PyData)} {k:KY} (h:Da G H L x (.dict ((.none,.bool t) :: kvs))) (hy:Da G H L y e) (hk:Zh5 e = some k) (ht:Zu7 k = t):∃ a o,x = .ref a/\IsD H a/\DGet H a y o/\Z6y G H L o (Zmu k kvs):=by
 generalize ed:PyData.dict ((.none,.bool t) :: kvs) = d at h
 cases h with
 | dic l r dk q =>
  rename_i a o t' ks xs ds
  unfold dcD at ed
  injection ed with ed
  injection ed with e1 e2
  injection e1 with _ e1
  injection e1 with e1
  subst e1 e2
  rw [Zjf]
  cases o with
  | lst _=>exact dk.elim
  | dK kv =>
   obtain ⟨rfl,rfl,rfl⟩:=dk
   cases k with
   | inr _=>cases ht
   | inl k=>exact ⟨a,_,rfl,.inl ⟨kv,r⟩,.inl ⟨kv,k,r,hy.keyS hk,rfl⟩,look Zkc k kv _ q⟩
  | dT kv =>
   obtain ⟨rfl,rfl,rfl⟩:=dk
   cases k with
   | inl _=>cases ht
   | inr k =>
    obtain ⟨b,hb,eb⟩:=hy.keyT hk
    exact ⟨a,_,rfl,.inr ⟨kv,r⟩,.inr ⟨kv,k,b,r,hb,eb,rfl⟩,look Zj1 k kv _ q⟩
 | exc _ _ _=>unfold exD at ed; cases ed
 | fn _=>unfold fnD at ed; cases ed
 | _=>cases ed
end
end L2
namespace L2
open PySem PySem.Spec PyProof.Rows
end L2
variable {kvs:List (List Key × V)}{ks:List KY}
namespace L2
open PySem PySem.Spec PyProof.Rows
section
variable    {a f o:Expr} {mi mo me mf:MEt}   
theorem hu1 {n:Nat} (h:n + 64 < cLine):n + 1 < cLine:=Nat.lt_of_le_of_lt (Nat.add_le_add_left (by decide:1 <= 64) _) h
def Zu3:PyData→PyData→Option OT:=fun d e=>match d with
 | .dict ((.none,.bool t) :: kvs)=>(Zh5 e).bind fun k=>if Zu7 k = t then (Zmu k kvs).map OT.fz else none
 | _=>none
def Z6v:PyData→PyData→(OT→Prop)→Prop:=fun d e k=>∃ r,Zu3 d e = some r/\k r
def Yad:R2:=fun x y H Q=>∃ a v,x = .ref a/\DGet H a y (some v)/\Q v H
theorem Z6h:ByO Zu3 Z6v:=fun _ _ r _ h hk=>⟨r,h,hk⟩
theorem Z3c:P2 G Yad Z6v:=fun H L x y d e k Q hx hy h kk=>by
 obtain ⟨r,h,hk⟩:=h
 unfold Zu3 at h
 split at h
 case h_2=>cases h
 rename_i t kvs
 obtain ⟨ky,h1,h⟩:=bs h
 by_cases ht:Zu7 ky = t
 .rw [if_pos ht] at h
  obtain ⟨a,o,rfl,_,g,R⟩:=hx.dget hy h1 ht
  obtain ⟨z,hz,rfl⟩:=Option.map_eq_some_iff.mp h
  rcases R with ⟨v,d,rfl,hd,q⟩ | ⟨_,hd⟩
  .rw [hz] at hd
   cases hd
   exact ⟨a,v,rfl,g,kk H v (.fz z) [] (Same.refl _) (.fz (q.wide fun a l _=>⟨.inl l,fun m=>nomatch m⟩)) .nil (fun a m=>nomatch m) hk⟩
  .rw [hz] at hd; cases hd
 .rw [if_neg ht] at h; cases h
theorem Z67 (hu:X.A.units + 64 < cLine) (ha:ME X io p c a ma) (hb:ME X io p' c' b mb) (hc:p' = true\/c = true:=by first | exact Or.inl rfl | exact Or.inr rfl) (hs:Z7d b):ME X io (p && p') (c && c') (.Subscript a b pos) (Z4x Z6v ma mb):=by
 obtain ⟨_,A,sa⟩:=ha
 obtain ⟨_,B,sb⟩:=hb
 exact ⟨_,Zx3 (hu1 hu) A B hs,Z8t (r:=Yad) Z3c sa sb hc⟩
def Z26 (t:Bool):MEt:=fun δ K=>K (.dc t [] []) δ
theorem Zwv:ME X io true true (.Dict [] [] pos) (Z26 true):=⟨_,Zsa,fun C H σ δ fp ex K Q R h k q hq=>by
 refine k _ _ _ δ fp [q] (RE.tree (H1:=H) R R (Stp.same (Same.refl H) fun _ z=>z) (Z6 hq (.dT [])) (Za6 hq) (Zcv q) ?_) h
 exact .dc (o:=.dT []) Zu ⟨rfl,rfl,rfl⟩ .nil⟩
def Z1w (t:Bool):FE:=fun δ=>some (.dc t [] [],δ)
theorem Zw6 {t:Bool} (h:ME X io p c e (Z26 t)):ME X io p c e (o2 (Z1w t)):=h.weak fun δ K z=>by
 obtain ⟨r,δ',h,k⟩:=z
 cases h; exact k
theorem Rel.ownDc {C:MC G}  {σ:St}    {t:Bool}   (R:Rel C io H σ δ fp ex) (hi:δ[i]? = some (some (.dc t ks ds))) :
  ∃ a' ob xs,σ[i]? = some (some (.ref a'))/\H a' = some (MuO.ho ob)/\ob.dic t ks xs/\Das G H (Lf C fp ex) xs ds/\fp i = [a']:=by
 obtain ⟨v,e,o⟩:=R.own i _ hi
 generalize hf:fp i = as at o
 cases o with
 | dc h k r=>exact ⟨_,_,_,e,h,k,r,rfl⟩
theorem Rel.topD {C:MC G}  {σ:St}    {t:Bool} {ks':List KY} {ds':List PyData} {a':Addr} {ob ob':MuO}  (R:Rel C io H σ δ fp ex) (hi:δ[i]? = some (some (.dc t ks ds))) (hv:σ[i]? = some (some (.ref a')))
  (hf:fp i = [a']) (hx:H a' = some ob.ho) (dk:ob'.dic t ks' ys) (o:Das G H (Lf C fp ex) ys ds') :
  Rel C io (upd H a' ob'.ho) σ (δ.set i (some (.dc t ks' ds'))) (fpu fp i [a']) ex/\Stp false H δ fp (upd H a' ob'.ho) (δ.set i (some (.dc t ks' ds'))) (fpu fp i [a']):=by
 have hm:a' ∈ fp i:=by rw [hf]; exact .head _
 have ne':∀ a,¬ Foot fp a→a ≠ a':=fun a h z=>h ⟨i,by rw [z]; exact hm⟩
 have kp:∀ b o,H b = some o→b ≠ a'→upd H a' ob'.ho b = some o:=fun b o e n=>by rw [Zk n]; exact e
 have sub:∀ a,a ∈ [a']→a ∈ fp i:=fun a m=>by rw [hf]; exact m
 have o':Das G (upd H a' ob'.ho) (Lf C (fpu fp i [a']) (exu ex [])) ys ds':=by
  have f0:∀ a,¬ Foot fp a→¬ Foot (fpu fp i [a']) a:=fun a h z=>by
   rcases z.of_u with z | ⟨j,_,z⟩
   .exact h ⟨i,sub a z⟩
   .exact h ⟨j,z⟩
  refine o.frame (fun a zs l q=>⟨⟨f0 a l.1,fun z=>l.2.1 (Zaf.mp z),l.2.2⟩,?_⟩) fun a zs q=>kp a _ q fun z=>ImO.nm q (z ▸ hx)
  rcases q with q | ⟨u,q⟩
  .exact .inl (kp a _ q (ne' a l.1))
  .exact .inr ⟨u,kp a _ q (ne' a l.1)⟩
 have key:=R.change (new:=[]) (as':=[a']) (t':=.dc t ks' ds') (H':=upd H a' ob'.ho) hi hv (fun b o e nb=>kp b o e fun z=>nb (by rw [z]; exact hm)) (fun b e=>by
   by_cases q:b = a'
   .subst q; rw [Zu] at e; cases e
   .rwa [Zk q] at e) (.dc Zu dk o') (Zcv a') (fun a m=>.inl (sub a m)) (fun a m=>nomatch m)
 exact ⟨key.1.drop fun a z=>.inl z,key.2⟩
def Z3u (i:Nat) (m mi:MEt):MSt:=fun D δ=>m δ fun r δ1=>match δ1[i]? with
 | some (some (.dc t ks ds))=>mi δ1 fun n _=>match Zh5 n.data with
  | some k=>(Zu7 k = t/\ks.length < sizeLine)/\D.nx (δ1.set i (some (.dc t (Zi8 k ks) (Zi6 k r.data ks ds))))
  | none=>False
 | _=>False
theorem Zwg (i:Nat) (hu:X.A.units + 64 < cLine) (he:ME X io p true e m) (hj:ME X io true c a mi) (hN:X.N[i]? = some x:=by rfl) (hv:Vis X.env.scope x:=by first | exact Or.inl rfl | exact Or.inr (Or.inl rfl) | exact Or.inr (Or.inr rfl)) (hd:(x == ("__debug__" : Str)) = false:=by decide)
  (hcd:(x == ("__classdict__" : Str)) = false:=by decide)
  (hs:swapsWith e (some (.Subscript (.Name x px) a pp)) pos.line X.env = pure false:=by rfl):MS X io (.Assign [.Subscript (.Name x px) a pp] e pos) (Z3u i m mi):=by
 obtain ⟨_,A,s⟩:=he
 obtain ⟨_,B,sj⟩:=hj
 refine ⟨_,Zwz (hu1 hu) (pv i hN hv hd hcd) B A hs,fun C H σ δ fp ex D D' R h E=>?_⟩
 refine s C H σ δ fp ex _ _ R h fun H1 v r δ1 fp1 new r1 h1=>?_
 have R1:=r1.base
 have q:=(r1.da R).wide (L':=Lf C fp1 ex) fun a l _=>l rfl
 split at h1
 case h_2=>exact h1.elim
 rename_i t ks ds hi
 obtain ⟨a',_,_,hv0,_⟩:=R1.ownDc hi
 refine ⟨_,hv0,?_⟩
 refine sj.pureAfter R1 h1 fun H2 w n R2 s2 q2 h2=>?_
 split at h2
 case h_2=>exact h2.elim
 rename_i k hk
 obtain ⟨⟨ht,hl⟩,h2⟩:=h2
 obtain ⟨a2,ob,xs,hv2,hx,dk,o,hf⟩:=R2.ownDc hi
 rw [hv0] at hv2
 cases hv2
 have q':=q.same s2
 have kpp:Kp H1 fp1 H2 fp1:=⟨fun b o e _=>s2 _ _ e,fun z=>(nomatch z),fun a z=>.inl z,s2.al⟩
 cases ob with
 | lst _=>exact dk.elim
 | dK kv =>
  obtain ⟨rfl,rfl,rfl⟩:=dk
  rw [List.length_map] at hl
  cases k with
  | inr _=>cases ht
  | inl k =>
   obtain ⟨R3,S3⟩:=R2.topD (ob':=.dK (putK kv k v)) hi hv0 hf hx ⟨rfl,(Zlr Zkc k v kv).symm,rfl⟩ (Zkz Zkc k q' kv o)
   exact ⟨a',_,rfl,.inl ⟨kv,k,hx,q2.keyS hk,hl,rfl⟩,E.nx _ σ _ _ R3 (r1.stp.kp.trans (Kp.trans kpp S3.kp)) h2⟩
 | dT kv =>
  obtain ⟨rfl,rfl,rfl⟩:=dk
  rw [List.length_map] at hl
  cases k with
  | inl _=>cases ht
  | inr k =>
   obtain ⟨b',hb,eb⟩:=q2.keyT hk
   obtain ⟨R3,S3⟩:=R2.topD (ob':=.dT (putK kv k v)) hi hv0 hf hx ⟨rfl,(Zlr Zj1 k v kv).symm,rfl⟩ (Zkz Zj1 k q' kv o)
   exact ⟨a',_,rfl,.inr ⟨kv,k,b',hx,hb,eb,hl,rfl⟩,E.nx _ σ _ _ R3 (r1.stp.kp.trans (Kp.trans kpp S3.kp)) h2⟩
def Zte (i:Nat) (e j:FE):FS:=wE e fun r δ1=>match δ1[i]? with
 | some (some (.dc t ks ds))=>wE j (fun n _=>match Zh5 n.data with
  | some k=>if Zu7 k = t/\ks.length < sizeLine then .nx (δ1.set i (some (.dc t (Zi8 k ks) (Zi6 k r.data ks ds)))) else .bad
  | none=>.bad) δ1
 | _=>.bad
theorem Zwd   (h:MS X io st (Z3u i (o2 fa) (o2 fb))):MS X io st (oS (Zte i fa fb)):=h.weak fun D δ h=>by
 refine (Zqz h).imp fun r δ' z=>?_
 split at z
 case h_2=>exact z.elim
 rename_i q; (try rw [q])
 refine (Zqz z).imp fun n δ2 z=>?_
 split at z
 case h_2=>exact z.elim
 rename_i k q2; (try rw [q2])
 exact Zd8 z
end
end L2
namespace L2
open PySem PySem.Spec PyProof.Rows
def Zrx:List PyData→Option PyData:=fun ds=>match ds with | [.int i]=>if i.natAbs.log2 < 1920 then some (.str (toString i)) else none | _=>none
def Yal:List PyData→(PyData→Prop)→Prop:=fun ds k=>∃ r,Zrx ds = some r/\k r
theorem Zkh:∀ ds r k,Zrx ds = some r→k r→Yal ds k:=fun _ r _ h hk=>⟨r,h,hk⟩
theorem Zfi:PNs G (fun xs H Q=>∃ i,xs = [.int i]/\i.natAbs.log2 < 1920/\Q (.str (toString i)) H) Yal:=fun H L xs ds k Q hx h kk=>by
 obtain ⟨r,h,hk⟩:=h
 unfold Zrx at h
 split at h
 case h_2=>cases h
 rename_i i
 cases hx with
 | cons q r0 =>
  cases r0
  cases q
  by_cases c:i.natAbs.log2 < 1920
  .rw [if_pos c] at h
   cases h
   exact ⟨i,rfl,c,kk _ _ (.str _) hk⟩
  .rw [if_neg c] at h; cases h
def Zcn:PyData→PyData→Option PyData:=fun d e=>match d,e with | .str x,.str y=>if x.length + y.length <= sizeLine then some (.str (x ++ y)) else none | _,_=>none
def Z21:PyData→PyData→(PyData→Prop)→Prop:=fun d e k=>∃ r,Zcn d e = some r/\k r
theorem Zdo:ByS Zcn Z21:=fun _ _ r _ h hk=>⟨r,h,hk⟩
theorem Zbg:P2s G (fun x y H Q=>∃ i j,x = .str i/\y = .str j/\i.length + j.length <= sizeLine/\Q (.str (i ++ j)) H) Z21:=fun H L x y d e k Q hx hy h kk=>by
 obtain ⟨r,h,hk⟩:=h
 unfold Zcn at h
 split at h
 case h_2=>cases h
 rename_i i j
 cases hx
 cases hy
 by_cases c:i.length + j.length <= sizeLine
 .rw [if_pos c] at h
  cases h
  exact ⟨i,j,rfl,rfl,c,kk _ _ (.str _) hk⟩
 .rw [if_neg c] at h; cases h
def Z43:PyData→PyData→Option OT:=fun d e=>match d,e with | .str x,.int i=>if x.length <= sizeLine then (atI x.cps.toList i).map fun c=>.fz (.str ⟨#[c]⟩) else none | _,_=>none
def Yao:PyData→PyData→(OT→Prop)→Prop:=fun d e k=>∃ r,Z43 d e = some r/\k r
theorem Z77:ByO Z43 Yao:=fun _ _ r _ h hk=>⟨r,h,hk⟩
theorem Z2g:P2 G (rIx G) Yao:=fun H L x y d e k Q hx hy h kk=>by
 obtain ⟨r,h,hk⟩:=h
 unfold Z43 at h
 split at h
 case h_2=>cases h
 rename_i z i
 cases hx
 cases hy
 by_cases c:z.length <= sizeLine
 .rw [if_pos c] at h
  obtain ⟨ch,h1,rfl⟩:=Option.map_eq_some_iff.mp h
  exact .inr (.inr ⟨z,i,ch,rfl,rfl,c,h1,kk H _ (.fz (.str ⟨#[ch]⟩)) [] (Same.refl _) (.fz (.str _)) .nil (fun a m=>nomatch m) hk⟩)
 .rw [if_neg c] at h; cases h
end L2
namespace L2
open PySem PySem.Spec PyProof.Rows PySem.W PySem.SeqAt
theorem Paired.at  {R:α→β→Prop} {as:List α} {bs:List β} (h:PySem.Paired R as bs):∀ {i:Nat} {y:β},bs[i]? = some y→∃ x,as[i]? = some x/\R x y:=by
 induction h with
 | nil=>intro i y z; cases z
 | cons h t ih =>
  intro i y z
  cases i with
  | zero=>cases z; exact ⟨_,rfl,h⟩
  | succ i=>exact ih z
end L2
namespace L2
open PySem PySem.Spec PyProof.Rows
section
variable    {f:Expr}     
end
end L2
namespace L2
open PySem PySem.Spec PyProof.Rows PySem.W PySem.SeqAt
end L2
namespace L2
open PySem PySem.Spec PyProof.Rows
end L2
namespace L2
open PySem PySem.Spec PyProof.Rows
def Z86 (o:Option (Option OT)) (δ:Zc):Option (OT × Zc):=match o with | some (some (.fz d))=>some (.fz d,δ) | _=>none
theorem Zvr (d:PyData) (δ:Zc):Z86 (some (some (.fz d))) δ = some (.fz d,δ):=rfl
def Z2q (o:Option (Option OT)) (δ:Zc):Option (OT × Zc):=match o with | some (some t)=>some (.fz t.data,δ) | _=>none
theorem Zxl (t:OT) (δ:Zc):Z2q (some (some t)) δ = some (.fz t.data,δ):=rfl
theorem Zyp (i:Nat) (δ:Zc):Zv i δ = Z86 δ[i]? δ:=rfl
theorem Zwx (i:Nat) (δ:Zc):Ztp i δ = Z2q δ[i]? δ:=rfl
theorem Ycq (d:PyData) (δ:Zc):fC d δ = some (.fz d,δ):=rfl
theorem Zrs (g:PyData→PyData→Option PyData) (a b:FE) (δ:Zc):Zd g a b δ = (a δ).bind fun p=>(b p.2).bind fun q=>(g p.1.data q.1.data).bind fun d=>some (.fz d,q.2):=rfl
theorem Zzc (g:PyData→PyData→Option OT) (a b:FE) (δ:Zc):Zbz g a b δ = (a δ).bind fun p=>(b p.2).bind fun q=>(g p.1.data q.1.data).bind fun d=>some (d,q.2):=rfl
theorem Z27 (g:PyData→Option PyData) (a:FE) (δ:Zc):fUn g a δ = (a δ).bind fun p=>(g p.1.data).bind fun d=>some (.fz d,p.2):=rfl
def onB  (d:PyData) (x y:Option α):Option α:=match d with | .bool true=>x | .bool false=>y | _=>none
theorem Z4m  (x y:Option α):onB (.bool true) x y = x:=rfl
theorem Z28  (x y:Option α):onB (.bool false) x y = y:=rfl
theorem Zp5 (a b:FE) (δ:Zc):Zjh a b δ = (a δ).bind fun p=>onB p.1.data (b p.2) (some (.fz (.bool false),p.2)):=by
 unfold Zjh onB
 cases a δ with
 | none=>rfl
 | some p=>first | rfl | (simp only [Option.bind_some]; done) | (simp only [Option.bind_some]; generalize p.1.data = d; cases d <;> first | rfl | (rename_i b; cases b <;> rfl))
theorem Zuu (a b:FE) (δ:Zc):fOr a b δ = (a δ).bind fun p=>onB p.1.data (some (.fz (.bool true),p.2)) (b p.2):=by
 unfold fOr onB
 cases a δ with
 | none=>rfl
 | some p=>first | rfl | (simp only [Option.bind_some]; done) | (simp only [Option.bind_some]; generalize p.1.data = d; cases d <;> first | rfl | (rename_i b; cases b <;> rfl))
theorem Z87 (t:FT) (a b:FE) (δ:Zc):fIf t a b δ = (t δ).bind fun p=>if p.1 = true then a p.2 else b p.2:=rfl
def Z53 (t:OT) (δ:Zc):Option (Bool × Zc):=match t with | .fz (.bool b)=>some (b,δ) | _=>none
theorem Z29 (b:Bool) (δ:Zc):Z53 (.fz (.bool b)) δ = some (b,δ):=rfl
theorem Z8j (e:FE) (δ:Zc):tV e δ = (e δ).bind fun p=>Z53 p.1 p.2:=by
 unfold tV Z53
 cases e δ with
 | none=>rfl
 | some p=>rfl
theorem Z19 (t:FT) (δ:Zc):tNo t δ = (t δ).bind fun p=>some (!p.1,p.2):=rfl
theorem Zux (t u:FT) (δ:Zc):tAn t u δ = (t δ).bind fun p=>if p.1 = true then u p.2 else some (false,p.2):=rfl
theorem Z8f (t u:FT) (δ:Zc):tO t u δ = (t δ).bind fun p=>if p.1 = true then some (true,p.2) else u p.2:=rfl
theorem Z6o (e:FE) (δ:Zc):tD e δ = (e δ).bind fun p=>(Zr5 p.1.data).bind fun b=>some (b,p.2):=rfl
theorem Z64 (δ:Zc):Zer δ = some (true,δ):=rfl
theorem Zyc (δ:Zc):Yb δ = some ([],δ):=rfl
theorem Zg1 (e:FE) (a:FA) (δ:Zc):Zf e a δ = (e δ).bind fun p=>(a p.2).bind fun q=>some (p.1 :: q.1,q.2):=rfl
theorem Zzf (a:FA) (δ:Zc):Zlm a δ = (a δ).bind fun p=>if p.1.length <= sizeLine then some (.fz (.tuple (OT.datas p.1)),p.2) else none:=rfl
theorem Zpc (a:FA) (δ:Zc):Zmh a δ = (a δ).bind fun p=>if p.1.length <= sizeLine then some (.nd p.1,p.2) else none:=rfl
theorem Zk1 (a:FA) (δ:Zc):Zms a δ = (a δ).bind fun p=>if p.1.length <= sizeLine then some (.tp p.1,p.2) else none:=rfl
theorem Z5b (e:FE) (δ:Zc):Z50 e δ = (e δ).bind fun p=>if J8 p.1.data = true then some (.fz p.1.data,p.2) else none:=rfl
theorem Z3l (e:FE) (δ:Zc):Z1c e δ = (e δ).bind fun p=>if Zxs p.1 = true then some (p.1,p.2) else none:=rfl
def okO (x:RF) (δ:Zc):Option (OT × Zc):=match x with | .ok r=>some (r,δ) | _=>none
theorem Z3h (r:OT) (δ:Zc):okO (.ok r) δ = some (r,δ):=rfl
theorem Zle (F:FD) (a:FA) (δ:Zc):Zw F a δ = (a δ).bind fun p=>okO (F (OT.datas p.1)) p.2:=by
 unfold Zw okO
 cases a δ with
 | none=>rfl
 | some p=>rfl
def atO  (o:Option (Option OT)) (k:OT→Option α):Option α:=match o with | some (some t)=>k t | _=>none
theorem Ycs  (t:OT) (k:OT→Option α):atO (some (some t)) k = k t:=rfl
theorem Z3r (i:Nat) (F:FIO) (a:FA) (δ:Zc):Zud i F a δ = atO δ[i]? fun _=>(a δ).bind fun p=>atO p.2[i]? fun t=>(F t (OT.datas p.1)).bind fun q=>some (q.1,p.2.set i (some q.2)):=by
 unfold Zud
 generalize δ[i]? = o
 rcases o with _ | _ | t
 .rfl
 .rfl
 .show (a δ).bind _ = (a δ).bind _
  cases a δ with
  | none=>rfl
  | some p =>
   show (fun o:Option (Option OT)=>(match o with | some (some t)=>(F t (OT.datas p.1)).bind fun q=>some (q.1,p.2.set i (some q.2)) | _=>none)) p.2[i]? = atO p.2[i]? _
   generalize p.2[i]? = o
   rcases o with _ | _ | t <;> rfl
theorem Zwj (g:List PyData→Option PyData) (a:FA) (δ:Zc):Zc9 g a δ = (a δ).bind fun p=>(g (OT.datas p.1)).bind fun d=>some (.fz d,p.2):=rfl
theorem Z1r (g:List PyData→Option OT) (a:FA) (δ:Zc):fBl g a δ = (a δ).bind fun p=>(g (OT.datas p.1)).bind fun d=>some (d,p.2):=rfl
theorem Zxz (T:String) (e:FE) (δ:Zc):Ze5 T e δ = (e δ).bind fun p=>if Zfm p.1.data = true then none else some (.fz (.bool (Zj4 T p.1.data)),p.2):=rfl
theorem Ycu (δ:Zc):oN δ = some (none,δ):=rfl
def asInt  (d:PyData) (k:Int→Option α):Option α:=match d with | .int i=>k i | _=>none
theorem Zww  (i:Int) (k:Int→Option α):asInt (.int i) k = k i:=rfl
def Zn9  (d:PyData) (k:List PyData→Option α):Option α:=match d with | .list i=>k i | _=>none
theorem Zow  (i:List PyData) (k:List PyData→Option α):Zn9 (.list i) k = k i:=rfl
def Zwt  (d:PyData) (k:List PyData→Option α):Option α:=match d with | .tuple i=>k i | _=>none
theorem Z8k  (i:List PyData) (k:List PyData→Option α):Zwt (.tuple i) k = k i:=rfl
theorem Z78 (e:FE) (δ:Zc):oI e δ = (e δ).bind fun p=>asInt p.1.data fun i=>some (some i,p.2):=by
 unfold oI asInt
 cases e δ with
 | none=>rfl
 | some p=>rfl
theorem Z4l (e:FE) (lo hi:FO) (δ:Zc):fSl e lo hi δ = (e δ).bind fun p=>(lo p.2).bind fun q=>(hi q.2).bind fun r=>Zn9 p.1.data fun ds=>some (.nd ((cutD ds q.1 r.1).map OT.fz),r.2):=by
 unfold fSl Zn9; rfl
theorem Zwh (e:FE) (δ:Zc):Zcl e δ = (e δ).bind fun p=>Zn9 p.1.data fun ds=>some (ds,p.2):=by
 unfold Zcl Zn9; rfl
theorem Yav (e:FE) (δ:Zc):iTp e δ = (e δ).bind fun p=>Zwt p.1.data fun ds=>some (ds,p.2):=by
 unfold iTp Zwt; rfl
def as1  (ds:List PyData) (k:Int→Option α):Option α:=match ds with | [.int i]=>k i | _=>none
theorem Z51  (i:Int) (k:Int→Option α):as1 [.int i] k = k i:=rfl
def as2  (ds:List PyData) (k:Int→Int→Option α):Option α:=match ds with | [.int i,.int j]=>k i j | _=>none
theorem Yc3  (i j:Int) (k:Int→Int→Option α):as2 [.int i,.int j] k = k i j:=rfl
theorem Z0d (a:FA) (δ:Zc):iRa a δ = (a δ).bind fun p=>as1 (OT.datas p.1) fun j=>if rOk j = true then some (Zmc 0 j.toNat,p.2) else none:=by
 unfold iRa as1; rfl
theorem Z9l (a:FA) (δ:Zc):iRb a δ = (a δ).bind fun p=>as2 (OT.datas p.1) fun i j=>if (rOk i && rOk j) = true then some (Zmc i (j - i).toNat,p.2) else none:=by
 unfold iRb as2; rfl
theorem Z5r (a:FA) (δ:Zc):Z96 a δ = (a δ).bind fun p=>as1 (OT.datas p.1) fun j=>if rOk j = true/\j.toNat <= sizeLine then some (.nd ((Zmc 0 j.toNat).map OT.fz),p.2) else none:=by
 unfold Z96 as1; rfl
theorem Z61 (a b:FE) (δ:Zc):Yay a b δ = (a δ).bind fun p=>(b p.2).bind fun q=>asInt q.1.data fun k=>if rOk k = true/\k.toNat <= sizeLine then some (.nd (List.replicate k.toNat (.fz p.1.data)),p.2) else none:=by
 unfold Yay asInt; rfl
def Z6f  (ds:List PyData) (k:List PyData→List PyData→Option α):Option α:=match ds with | [.list i,.list j]=>k i j | _=>none
theorem Z9k  (i j:List PyData) (k:List PyData→List PyData→Option α):Z6f [.list i,.list j] k = k i j:=rfl
theorem Z4z (a:FA) (δ:Zc):Z17 a δ = (a δ).bind fun p=>Z6f (OT.datas p.1) fun as bs=>some (Zj8 as bs,p.2):=by
 unfold Z17 Z6f; rfl
theorem Yar (i:Nat) (d:PyData) (δ:Zc):gNm i d δ = some (δ.set i (some (.fz d))):=rfl
theorem Z6g (i:Nat) (d:PyData) (δ:Zc):Yb2 i d δ = if J8 d = true then some (δ.set i (some (.fz d))) else none:=rfl
theorem Ya2 (δ:Zc):gNl [] δ = some δ:=rfl
theorem Z9y (g:FG) (gs:FGs) (d:PyData) (r:List PyData) (δ:Zc):gCn g gs (d :: r) δ = (g d δ).bind (gs r):=rfl
theorem Z9j (n:Nat) (gs:FGs) (ds:List PyData) (δ:Zc):gTp n gs (.tuple ds) δ = if ds.length = n then gs ds δ else none:=rfl
theorem Z85 (n:Nat) (gs:FGs) (ds:List PyData) (δ:Zc):gLs n gs (.list ds) δ = if ds.length = n then gs ds δ else none:=rfl
def RS.thn (r:RS) (g:FS):RS:=match r with | .nx δ=>g δ | r=>r
theorem Zpk (δ:Zc) (g:FS):(RS.nx δ).thn g = g δ:=rfl
theorem Zut (r:OT) (δ:Zc) (g:FS):(RS.rt r δ).thn g = .rt r δ:=rfl
theorem Z9v (δ:Zc) (g:FS):(RS.bk δ).thn g = .bk δ:=rfl
theorem Z9b (δ:Zc) (g:FS):(RS.ct δ).thn g = .ct δ:=rfl
theorem Z92 (c:Str) (δ:Zc) (g:FS):(RS.ex c δ).thn g = .ex c δ:=rfl
theorem Ze6 (f g:FS) (δ:Zc):Yd f g δ = (f δ).thn g:=rfl
theorem Yae (δ:Zc):fNx δ = .nx δ:=rfl
theorem Z5u (δ:Zc):Ybw δ = .bk δ:=rfl
theorem Z6b (δ:Zc):Yco δ = .ct δ:=rfl
theorem Z3x (c:Str) (δ:Zc):Zhz c δ = .ex c δ:=rfl
theorem Z5d (δ:Zc):Z6t δ = .rt (.fz .none) δ:=rfl
def onO  (o:Option (α × Zc)) (k:α→Zc→RS):RS:=match o with | some (r,δ')=>k r δ' | none=>.bad
theorem Wb  (r:α) (δ:Zc) (k:α→Zc→RS):onO (some (r,δ)) k = k r δ:=rfl
theorem Zbn (e:FE) (k:OT→Zc→RS) (δ:Zc):wE e k δ = onO (e δ) k:=by
 unfold wE onO
 cases e δ <;> rfl
def onF (x:RF) (δ:Zc) (k:OT→Zc→RS):RS:=match x with | .ok r=>k r δ | .exn c=>.ex c δ | .bad=>.bad
theorem Yac (r:OT) (δ:Zc) (k:OT→Zc→RS):onF (.ok r) δ k = k r δ:=rfl
theorem Z9f (c:Str) (δ:Zc) (k:OT→Zc→RS):onF (.exn c) δ k = .ex c δ:=rfl
theorem Ybk (F:FD) (a:FA) (k:OT→Zc→RS) (δ:Zc):wX F a k δ = onO (a δ) fun rs δ1=>onF (F (OT.datas rs)) δ1 k:=by
 unfold wX onO onF
 cases a δ with
 | none=>rfl
 | some p=>rfl
theorem Znw (t:FT) (u w:FS) (δ:Zc):W6 t u w δ = onO (t δ) fun b δ'=>if b = true then u δ' else w δ':=by
 unfold W6 onO
 cases t δ <;> rfl
theorem Zv0 (it:FI) (g:FG) (u:FS) (δ:Zc):Zea it g u δ = onO (it δ) fun ds δ1=>forLoop g u ds δ1:=by
 unfold Zea onO
 cases it δ <;> rfl
theorem Ztc (r:OT) (δ:Zc):Zs9 r δ = .nx δ:=rfl
theorem Zvt (r:OT) (δ:Zc):Wl r δ = .rt r δ:=rfl
theorem Z46 (r:OT) (δ:Zc):Z7a r δ = if J8 r.data = true then .rt (.fz r.data) δ else .bad:=rfl
theorem Zwe (i:Nat) (r:OT) (δ:Zc):Zas i r δ = .nx (δ.set i (some (.fz r.data))):=rfl
theorem Zs1 (i:Nat) (r:OT) (δ:Zc):Zre i r δ = if J8 r.data = true then .nx (δ.set i (some (.fz r.data))) else .bad:=rfl
theorem Zsi (i:Nat) (r:OT) (δ:Zc):Zek i r δ = .nx (δ.set i (some r)):=rfl
def onD (o:Option Zc):RS:=match o with | some δ=>.nx δ | none=>.bad
theorem Z5i (δ:Zc):onD (some δ) = .nx δ:=rfl
theorem Z7q (g:FG) (r:OT) (δ:Zc):Yb3 g r δ = onD (g r.data δ):=rfl
def onT (o:Option (Option OT)) (k:OT→RS):RS:=match o with | some (some t)=>k t | _=>.bad
theorem Z5y (t:OT) (k:OT→RS):onT (some (some t)) k = k t:=rfl
theorem Zs7 (i:Nat) (δ:Zc):Zmd i δ = onT δ[i]? fun t=>.rt t (δ.set i none):=rfl
theorem Zmi (i:Nat) (u:FS) (δ:Zc):Zc2 i u δ = onT δ[i]? fun t=>u (δ.set i (some (.fz t.data))):=rfl
def onN (o:Option (Option OT)) (k:List OT→RS):RS:=match o with | some (some (.nd ts))=>k ts | _=>.bad
theorem Z36 (t:List OT) (k:List OT→RS):onN (some (some (.nd t))) k = k t:=rfl
theorem Zmz (i:Nat) (e:FE) (δ:Zc):Zah i e δ = onN δ[i]? fun _=>onO (e δ) fun r δ1=>onN δ1[i]? fun ts=>if ts.length < sizeLine then .nx (δ1.set i (some (.nd (ts ++ [.fz r.data])))) else .bad:=by
 unfold Zah
 generalize δ[i]? = o
 rcases o with _ | _ | (_ | _ | _ | _)
 .rfl
 .rfl
 .rfl
 .show wE e _ δ = onO (e δ) _
  rw [Zbn]
  congr 1
 .rfl
 .rfl
theorem Zxc (i:Nat) (e:FE) (δ:Zc):Zkv i e δ = onN δ[i]? fun _=>onO (e δ) fun r δ1=>onN δ1[i]? fun ts=>if ts.length < sizeLine then .nx (δ1.set i (some (.nd (ts ++ [r])))) else .bad:=by
 unfold Zkv
 generalize δ[i]? = o
 rcases o with _ | _ | (_ | _ | _ | _)
 .rfl
 .rfl
 .rfl
 .show wE e _ δ = onO (e δ) _
  rw [Zbn]
  congr 1
 .rfl
 .rfl
def onI (d:PyData) (k:Int→RS):RS:=match d with | .int i=>k i | _=>.bad
theorem Ybi (i:Int) (k:Int→RS):onI (.int i) k = k i:=rfl
def onX (o:Option Nat) (k:Nat→RS):RS:=match o with | some i=>k i | _=>.bad
theorem Ybx (i:Nat) (k:Nat→RS):onX (some i) k = k i:=rfl
theorem Z8a (i:Nat) (e j:FE) (δ:Zc):Yax i e j δ = onO (e δ) fun r δ1=>onN δ1[i]? fun ts=>onO (j δ1) fun n _=>onI n.data fun k=>onX (ixN ts.length k) fun j=>.nx (δ1.set i (some (.nd (ts.set j (.fz r.data))))):=by
 unfold Yax
 rw [Zbn]
 congr 1
 funext r δ1
 generalize δ1[i]? = o
 rcases o with _ | _ | (_ | _ | _ | _)
 .rfl
 .rfl
 .rfl
 .show wE j _ δ1 = onO (j δ1) _
  rw [Zbn]
  congr 1
  funext n δ2
  generalize n.data = d
  cases d <;> try rfl
  show (match ixN _ _ with | some j=>_ | none=>_) = onX (ixN _ _) _
  generalize ixN _ _ = x
  cases x <;> rfl
 .rfl
 .rfl
def onU (o:Option OT) (k:List OT→RS):RS:=match o with | some (.nd ts)=>k ts | _=>.bad
theorem Ycw (t:List OT) (k:List OT→RS):onU (some (.nd t)) k = k t:=rfl
def onP (o:Option (Option OT)) (k:List OT→RS):RS:=match o with | some (some (.tp ts))=>k ts | _=>.bad
theorem Ybc (t:List OT) (k:List OT→RS):onP (some (some (.tp t))) k = k t:=rfl
theorem Z3f (i c:Nat) (e:FE) (δ:Zc):Zui i c e δ = onP δ[i]? fun ts=>onU ts[c]? fun us=>onO (e δ) fun r _=>if us.length < sizeLine then .nx (δ.set i (some (.tp (ts.set c (.nd (us ++ [.fz r.data])))))) else .bad:=by
 unfold Zui
 generalize δ[i]? = o
 rcases o with _ | _ | (_ | _ | ts | _)
 .rfl
 .rfl
 .rfl
 .rfl
 .show (match ts[c]? with | some (.nd us)=>wE e _ δ | _=>_) = onU ts[c]? _
  generalize ts[c]? = o
  rcases o with _ | (_ | _ | _ | _)
  .rfl
  .rfl
  .show wE e _ δ = onO (e δ) _
   rw [Zbn]
  .rfl
  .rfl
 .rfl
def on2 (ds:List PyData) (k:PyData→PyData→RS):RS:=match ds with | [d,e]=>k d e | _=>.bad
theorem Ycb (d e:PyData) (k:PyData→PyData→RS):on2 [d,e] k = k d e:=rfl
theorem Z66 (i j:Nat) (a:FA) (δ:Zc):Zqy i j a δ = onO (a δ) fun rs δ1=>on2 (OT.datas rs) fun d e=>.nx ((δ1.set i (some (.fz d))).set j (some (.fz e))):=by
 unfold Zqy onO on2
 cases a δ <;> rfl
theorem Zko {n:Nat}   (h:ds.length = np):W5 np n S ds = (S (Jq n ds)).told:=by
 unfold W5; rw [if_pos h]
theorem Zv4 (δ:Zc):(RS.nx δ).told = .ok (.fz .none):=rfl
theorem Zp6 (r:OT) (δ:Zc):(RS.rt r δ).told = .ok r:=rfl
theorem Z70 (c:Str) (δ:Zc):(RS.ex c δ).told = .exn c:=rfl
theorem Yaq (i j:Int):Zho (.int i) (.int j) = some (.int (i + j)):=rfl
theorem Yct (i j:Int):gSb (.int i) (.int j) = some (.int (i - j)):=rfl
theorem Yci (i j:Int):gLt (.int i) (.int j) = some (.bool (decide (i < j))):=rfl
theorem Ybn (i j:Int):gLe (.int i) (.int j) = some (.bool (decide (i <= j))):=rfl
theorem Z7e (i j:Int):gGt (.int i) (.int j) = some (.bool (decide (j < i))):=rfl
theorem Z52 (i j:Int):gGe (.int i) (.int j) = some (.bool (decide (j <= i))):=rfl
theorem Zjo {i j:Int} (h:Z0e i j = true):Jd (.int i) (.int j) = some (.int (i.fdiv j)):=by
 unfold Jd i2c; dsimp only; rw [if_pos h]
theorem Z15 {i j:Int} (h:j ≠ 0):Zc0 (.int i) (.int j) = some (.int (i.fmod j)):=by
 unfold Zc0 i2c Yaj; dsimp only; rw [if_pos (decide_eq_true h)]
theorem Z2h {i j:Int} (h:Z7l i j = true):Zov (.int i) (.int j) = some (.int (i ^ j.toNat)):=by
 unfold Zov i2c; dsimp only; rw [if_pos h]
theorem Zjw {n:Nat} {i j:Int} (h0:j ≠ 0) (h:Bt n j) (hn:n <= 9000:=by decide):Z0e i j = true:=by
 obtain ⟨h1,h2⟩:=DivOk.of (i:=i) h0 h hn
 unfold Z0e
 rw [decide_eq_true h1,decide_eq_true h2]; rfl
theorem Z0q (i j:Int):gEq (.int i) (.int j) = some (.bool (decide (i = j))):=by
 show some (PyData.bool (i == j)) = _
 rw [show (i == j) = decide (i = j) from rfl]
theorem Z8h (i j:Int):gNe (.int i) (.int j) = some (.bool (!decide (i = j))):=by
 show some (PyData.bool (!(i == j))) = _
 rw [show (i == j) = decide (i = j) from rfl]
theorem Z6d (d:PyData):gIs d .none = some (.bool (Zax d)):=rfl
theorem Z5a (d:PyData):Z1a d .none = some (.bool (!Zax d)):=rfl
theorem Zv1 (ds:List PyData) (i:Int):gIx (.list ds) (.int i) = (atI ds i).bind fun x=>some (.fz x):=rfl
theorem Ybp (ds:List PyData) (i:Int):gIx (.tuple ds) (.int i) = (atI ds i).bind fun x=>some (.fz x):=rfl
theorem Zt8 (ds:List PyData):Zhn [.list ds] = some (.int ds.length):=rfl
theorem Zqi (ds:List PyData):Zhn [.tuple ds] = some (.int ds.length):=rfl
theorem Zoi (i:Int):Zzo [.int i] = some (.int (i.natAbs:Int)):=by
 show some (PyData.int (if i < 0 then -i else i)) = _
 congr 2; split <;> omega
theorem Z93 (i j:Int):Ybz [.int i,.int j] = some (.int (if j > i then j else i)):=rfl
theorem Z9d (i j:Int):Yc0 [.int i,.int j] = some (.int (if j < i then j else i)):=rfl
theorem Z97 (i:Int):Z9s [.int i] = some (.int i):=rfl
theorem Z9a (b:Bool):Z9s [.bool b] = some (.int (if b then 1 else 0)):=rfl
theorem Zx6 (ds:List PyData):Zl5 [.list ds] = some (.nd (ds.map OT.fz)):=rfl
theorem Zxd (ds:List PyData):Zl5 [.tuple ds] = some (.nd (ds.map OT.fz)):=rfl
theorem Z1i (i:Int):Z34 (.int i) = some (.int (-i)):=rfl
theorem Z9u (b:Bool):Z5f (.bool b) = some (.bool (!b)):=rfl
theorem Z9w (b:Bool):Zr5 (.bool b) = some b:=rfl
theorem Z9q (i:Int):Zr5 (.int i) = some (i != 0):=rfl
theorem Z8w:Zr5 .none = some false:=rfl
theorem Z82 (ds:List PyData):Zr5 (.list ds) = some (!ds.isEmpty):=rfl
theorem Zsn {n:Nat} {d:PyData} (h:Sh n d) (hp:Yu d = true) (hn:n <= 60):gNe d d = some (.bool false):=by
 have s:SeqAt.shaped d = true:=(h.shp (by omega)).ok
 unfold gNe
 rw [if_pos (by rw [s]; rfl),Zk7 hp]; rfl
theorem Zvh  {u:FS}   (I:Nat→Zc→Prop) (h0:I 0 δ)
  (turn:∀ (i:Nat) (d:PyData) (δ:Zc),ds[i]? = some d→I i δ→∃ δ1 δ2,gg d δ = some δ1/\(u δ1 = .nx δ2\/u δ1 = .ct δ2)/\I (i + 1) δ2):∃ δ',forLoop gg u ds δ = .nx δ'/\I ds.length δ':=by
 induction ds generalizing δ I with
 | nil=>exact ⟨δ,rfl,h0⟩
 | cons d ds ih =>
  obtain ⟨δ1,δ2,e1,e2,h1⟩:=turn 0 d δ rfl h0
  obtain ⟨δ',e3,h3⟩:=ih (δ:=δ2) (fun i δ=>I (i + 1) δ) h1 fun i d' δ hd hi=>turn (i + 1) d' δ (by simpa using hd) hi
  refine ⟨δ',?_,h3⟩
  rw [Zdu,e1]
  dsimp only
  rcases e2 with e2 | e2 <;> rw [e2] <;> exact e3
def Goes (r:RS) (Q:Zc→Prop):Prop:=∃ δ,(r = .nx δ\/r = .ct δ)/\Q δ
theorem Goes.nx  {Q:Zc→Prop} (h:Q δ):Goes (.nx δ) Q:=⟨δ,.inl rfl,h⟩
theorem Goes.ct  {Q:Zc→Prop} (h:Q δ):Goes (.ct δ) Q:=⟨δ,.inr rfl,h⟩
theorem Zo6   {cs:Zc} (mk:α→PyData) (f:α→OT):∀ (xs:List α) (z:Option OT),(∀ x ∈ xs,me (some (.fz (mk x)) :: cs) = some (f x,some (.fz (mk x)) :: cs)) →
  ∃ z',compLoop (gNm 0) Zer me (xs.map mk) (z :: cs) = some (xs.map f,z' :: cs)
 | [],z,_=>⟨z,rfl⟩
 | x :: xs,z,h=>by
  obtain ⟨z',e⟩:=Zo6 mk f xs (some (.fz (mk x))) fun y hy=>h y (.tail _ hy)
  refine ⟨z',?_⟩
  rw [List.map_cons,compLoop]
  show (some (some (OT.fz (mk x)) :: cs)).bind _ = _
  rw [Option.bind_some]
  show (some (true,some (OT.fz (mk x)) :: cs)).bind _ = _
  rw [Option.bind_some,if_pos rfl,h x (.head _),Option.bind_some,e]; rfl
theorem Zlv  {t:FT}  {cs:Zc} (mk:α→PyData) (p:α→Bool) (f:α→OT):∀ (xs:List α) (z:Option OT),(∀ x ∈ xs,t (some (.fz (mk x)) :: cs) = some (p x,some (.fz (mk x)) :: cs))→(∀ x ∈ xs,p x = true→me (some (.fz (mk x)) :: cs) = some (f x,some (.fz (mk x)) :: cs)) →
  ∃ z',compLoop (gNm 0) t me (xs.map mk) (z :: cs) = some ((xs.filter p).map f,z' :: cs)
 | [],z,_,_=>⟨z,rfl⟩
 | x :: xs,z,ht,h=>by
  obtain ⟨z',e⟩:=Zlv mk p f xs (some (.fz (mk x))) (fun y hy=>ht y (.tail _ hy)) fun y hy=>h y (.tail _ hy)
  refine ⟨z',?_⟩
  rw [List.map_cons,compLoop]
  show (some (some (OT.fz (mk x)) :: cs)).bind _ = _
  rw [Option.bind_some,ht x (.head _),Option.bind_some]
  dsimp only
  by_cases hp:p x = true
  .rw [if_pos hp,h x (.head _) hp,Option.bind_some,e,List.filter_cons_of_pos hp]; rfl
  .rw [if_neg hp,e,List.filter_cons_of_neg hp]
theorem Zk2     {cs:Zc} (xs:List α) (mk:α→PyData) (f:α→OT) (hi:it δ = some (xs.map mk,δ1)) (hz:xs.length <= sizeLine) (hb:blk 1 caps δ1 = none :: cs)
  (h:∀ x ∈ xs,me (some (.fz (mk x)) :: cs) = some (f x,some (.fz (mk x)) :: cs)):Y4 1 caps it (gNm 0) Zer me δ = some (.nd (xs.map f),δ1):=by
 unfold Y4
 rw [hi,Option.bind_some]
 dsimp only
 rw [if_pos (by rw [List.length_map]; exact hz),hb]
 obtain ⟨z',e⟩:=Zo6 (me:=me) (cs:=cs) mk f xs none h
 rw [e]; rfl
theorem Zqd    {t:FT}  {cs:Zc} (xs:List α) (mk:α→PyData) (p:α→Bool) (f:α→OT) (hi:it δ = some (xs.map mk,δ1)) (hz:xs.length <= sizeLine) (hb:blk 1 caps δ1 = none :: cs)
  (ht:∀ x ∈ xs,t (some (.fz (mk x)) :: cs) = some (p x,some (.fz (mk x)) :: cs)) (h:∀ x ∈ xs,p x = true→me (some (.fz (mk x)) :: cs) = some (f x,some (.fz (mk x)) :: cs)):Y4 1 caps it (gNm 0) t me δ = some (.nd ((xs.filter p).map f),δ1):=by
 unfold Y4
 rw [hi,Option.bind_some]
 dsimp only
 rw [if_pos (by rw [List.length_map]; exact hz),hb]
 obtain ⟨z',e⟩:=Zlv (t:=t) (me:=me) (cs:=cs) mk p f xs none ht h
 rw [e]; rfl
theorem Ybe:(2 <= sizeLine) = True:=by simp [sizeLine_eq]
theorem Yc2:(1 <= sizeLine) = True:=by simp [sizeLine_eq]
theorem Ycg:(0 <= sizeLine) = True:=by simp
theorem Z6u:(3 <= sizeLine) = True:=by simp [sizeLine_eq]
theorem Zzp  (f:α→PyData) (xs:List α):(xs.map fun x=>OT.fz (f x)).map OT.data = xs.map f:=by
 rw [List.map_map]; exact List.map_congr_left fun x _=>OT.data_fz _
theorem Zwk  {j:Int} {x:α} (h0:0 <= j) (h1:j <= 1000000):(if rOk j = true then some x else none) = some x:=if_pos (Z4e (by omega) h1)
theorem Z2y {r:RS} {k:Nat} (h:k <= 1000000):(if k < sizeLine then r else .bad) = r:=if_pos (by rw [sizeLine_eq]; omega)
end L2
namespace L2
open PySem PySem.Spec PyProof.Rows
def EvV (e:FE) (δ:Zc) (d:PyData):Prop:=∃ t,e δ = some (t,δ)/\t.data = d
def EvA (a:FA) (δ:Zc) (ds:List PyData):Prop:=∃ ts,a δ = some (ts,δ)/\OT.datas ts = ds
def EvT (t:FT) (δ:Zc) (b:Bool):Prop:=t δ = some (b,δ)
def Told (F:FD) (ds:List PyData) (d:PyData):Prop:=∃ t,F ds = .ok t/\t.data = d
section
variable {e a b:FE} {as:FA}  {x y d:PyData} {xs:List PyData}  {q:Bool} {t u:FT} {S':FS} {r:RS}
theorem EvV.cast {e:FE}  {x y:PyData} (h:EvV e δ x) (k:x = y):EvV e δ y:=k ▸ h
theorem Za (h:δ[i]? = some (some (.fz d)):=by rfl):EvV (Zv i) δ d:=⟨_,by rw [Zyp,h,Zvr],OT.data_fz _⟩
theorem Zif {t:OT} (h:δ[i]? = some (some t)) (hd:t.data = d):EvV (Ztp i) δ d:=⟨_,by rw [Zwx,h,Zxl],by rw [OT.data_fz,hd]⟩
theorem Z0:EvV (fC d) δ d:=⟨_,rfl,OT.data_fz _⟩
theorem Zm {g:PyData→PyData→Option PyData} (ha:EvV a δ x) (hb:EvV b δ y) (h:g x y = some d):EvV (Zd g a b) δ d:=by
 obtain ⟨_,e1,d1⟩:=ha
 obtain ⟨_,e2,d2⟩:=hb
 exact ⟨_,by rw [Zrs,e1,Option.bind_some,e2,Option.bind_some,d1,d2,h,Option.bind_some],OT.data_fz _⟩
theorem Znq {g:PyData→PyData→Option OT}  (ha:EvV a δ x) (hb:EvV b δ y) (h:g x y = some o) (hd:o.data = d):EvV (Zbz g a b) δ d:=by
 obtain ⟨_,e1,d1⟩:=ha
 obtain ⟨_,e2,d2⟩:=hb
 exact ⟨_,by rw [Zzc,e1,Option.bind_some,e2,Option.bind_some,d1,d2,h,Option.bind_some],hd⟩
theorem Zce (ha:EvV a δ x) (hb:EvV b δ y) (h:gIx x y = some (.fz d)):EvV (Zbz gIx a b) δ d:=Znq ha hb h (OT.data_fz _)
theorem Zi4 {i j:Int} (ha:EvV a δ (.int i)) (hb:EvV b δ (.int j)):EvV (Zd Zho a b) δ (.int (i + j)):=Zm ha hb rfl
theorem Znc {i j:Int} (ha:EvV a δ (.int i)) (hb:EvV b δ (.int j)):EvV (Zd gSb a b) δ (.int (i - j)):=Zm ha hb rfl
theorem Z1p {g:PyData→Option PyData} (ha:EvV a δ x) (h:g x = some d):EvV (fUn g a) δ d:=by
 obtain ⟨_,e1,d1⟩:=ha
 exact ⟨_,by rw [Z27,e1,Option.bind_some,d1,h,Option.bind_some],OT.data_fz _⟩
theorem W7 (ha:EvV a δ (.bool true)) (hb:EvV b δ d):EvV (Zjh a b) δ d:=by
 obtain ⟨_,e1,d1⟩:=ha
 obtain ⟨_,e2,d2⟩:=hb
 exact ⟨_,by rw [Zp5,e1,Option.bind_some,d1,Z4m,e2],d2⟩
theorem Zgq (ha:EvV a δ (.bool false)):EvV (Zjh a b) δ (.bool false):=by
 obtain ⟨_,e1,d1⟩:=ha
 exact ⟨_,by rw [Zp5,e1,Option.bind_some,d1,Z28],OT.data_fz _⟩
theorem Zx4 (ha:EvV a δ (.bool false)) (hb:EvV b δ d):EvV (fOr a b) δ d:=by
 obtain ⟨_,e1,d1⟩:=ha
 obtain ⟨_,e2,d2⟩:=hb
 exact ⟨_,by rw [Zuu,e1,Option.bind_some,d1,Z28,e2],d2⟩
theorem Zxv (ha:EvV a δ (.bool true)):EvV (fOr a b) δ (.bool true):=by
 obtain ⟨_,e1,d1⟩:=ha
 exact ⟨_,by rw [Zuu,e1,Option.bind_some,d1,Z4m],OT.data_fz _⟩
theorem Zbd {T:String} (ha:EvV a δ x) (hf:Zfm x = false:=by rfl):EvV (Ze5 T a) δ (.bool (Zj4 T x)):=by
 obtain ⟨_,e1,d1⟩:=ha
 exact ⟨_,by rw [Zxz,e1,Option.bind_some,d1,if_neg (by rw [hf]; decide)],OT.data_fz _⟩
theorem Zg:EvA Yb δ []:=⟨_,rfl,Zfp⟩
theorem Zb (h:EvV e δ d) (k:EvA as δ ds):EvA (Zf e as) δ (d :: ds):=by
 obtain ⟨_,e1,d1⟩:=h
 obtain ⟨_,e2,d2⟩:=k
 exact ⟨_,by rw [Zg1,e1,Option.bind_some,e2,Option.bind_some],by rw [Zdi,d1,d2]⟩
theorem Zq  (h:EvA as δ ds) (k:Told F ds d):EvV (Zw F as) δ d:=by
 obtain ⟨_,e1,d1⟩:=h
 obtain ⟨_,e2,d2⟩:=k
 exact ⟨_,by rw [Zle,e1,Option.bind_some,d1,e2,Z3h],d2⟩
theorem Jc {g:List PyData→Option PyData} (h:EvA as δ ds) (k:g ds = some d):EvV (Zc9 g as) δ d:=by
 obtain ⟨_,e1,d1⟩:=h
 exact ⟨_,by rw [Zwj,e1,Option.bind_some,d1,k,Option.bind_some],OT.data_fz _⟩
theorem Zmn {g:List PyData→Option OT}  (h:EvA as δ ds) (k:g ds = some o) (hd:o.data = d):EvV (fBl g as) δ d:=by
 obtain ⟨_,e1,d1⟩:=h
 exact ⟨_,by rw [Z1r,e1,Option.bind_some,d1,k,Option.bind_some],hd⟩
theorem J5:∀ ts:List OT,(OT.datas ts).length = ts.length
 | []=>by rw [Zfp]; rfl
 | t :: ts=>by rw [Zdi,List.length_cons,List.length_cons,J5 ts]
theorem datas_map:∀ ts:List OT,OT.datas ts = ts.map OT.data
 | []=>Zfp
 | t :: ts=>by rw [Zdi,List.map_cons,datas_map ts]
theorem Zkw (h:EvA as δ ds) (hl:ds.length <= 1000):EvV (Zlm as) δ (.tuple ds):=by
 obtain ⟨ts,e1,d1⟩:=h
 have:=J5 ts
 rw [d1] at this
 exact ⟨_,by rw [Zzf,e1,Option.bind_some,if_pos (by rw [sizeLine_eq]; show ts.length <= _; omega)],by rw [OT.data_fz]; exact congrArg _ d1⟩
theorem Zig (h:EvA as δ ds) (hl:ds.length <= 1000):EvV (Zmh as) δ (.list ds):=by
 obtain ⟨ts,e1,d1⟩:=h
 have:=J5 ts
 rw [d1] at this
 exact ⟨_,by rw [Zpc,e1,Option.bind_some,if_pos (by rw [sizeLine_eq]; show ts.length <= _; omega)],by rw [OT.data_nd,<- datas_map,d1]⟩
theorem Zhw  {b:Bool} (h:o.data = .bool b):o = .fz (.bool b):=by
 cases o with
 | fz d=>rw [OT.data_fz] at h; rw [h]
 | nd ts=>rw [OT.data_nd] at h; cases h
 | tp ts=>rw [OT.data_tp] at h; cases h
 | dc _ _ _=>rw [OT.data_dc] at h; cases h
theorem W9 (h:EvV e δ (.bool p)):EvT (tV e) δ p:=by
 obtain ⟨_,e1,d1⟩:=h
 unfold EvT
 rw [Z8j,e1,Option.bind_some,Zhw d1,Z29]
theorem Yb9 (h:EvV e δ d) (k:Zr5 d = some p):EvT (tD e) δ p:=by
 obtain ⟨_,e1,d1⟩:=h
 unfold EvT
 rw [Z6o,e1,Option.bind_some,d1,k,Option.bind_some]
theorem Ju (h:EvV e δ (.bool p)):EvT (tD e) δ p:=Yb9 h rfl
theorem Zbr (h:EvT t δ p):EvT (tNo t) δ (!p):=by
 unfold EvT at h |-
 rw [Z19,h,Option.bind_some]
theorem Zx8 (h:EvT t δ true) (k:EvT u δ p):EvT (tAn t u) δ p:=by
 unfold EvT at h k |-
 rw [Zux,h,Option.bind_some,if_pos rfl,k]
theorem Zxy (h:EvT t δ false):EvT (tAn t u) δ false:=by
 unfold EvT at h |-
 rw [Zux,h,Option.bind_some,if_neg Bool.false_ne_true]
theorem Ztn (h:EvT t δ false) (k:EvT u δ p):EvT (tO t u) δ p:=by
 unfold EvT at h k |-
 rw [Z8f,h,Option.bind_some,if_neg Bool.false_ne_true,k]
theorem Wn (h:S δ = .nx δ') (k:S' δ' = r):Yd S S' δ = r:=by rw [Ze6,h,Zpk,k]
theorem Zio  (h:S δ = .rt o δ'):Yd S S' δ = .rt o δ':=by rw [Ze6,h,Zut]
theorem Wg (h:EvV e δ d):wE e (Zas i) δ = .nx (δ.set i (some (.fz d))):=by
 obtain ⟨_,e1,d1⟩:=h
 rw [Zbn,e1,Wb,Zwe,d1]
theorem Z18 (h:EvV e δ d):∃ o,wE e Wl δ = .rt o δ/\o.data = d:=by
 obtain ⟨_,e1,d1⟩:=h
 exact ⟨_,by rw [Zbn,e1,Wb,Zvt],d1⟩
theorem Zg0 (h:EvT t δ true) (k:S δ = r):W6 t S S' δ = r:=by
 unfold EvT at h
 rw [Znw,h,Wb,if_pos rfl,k]
theorem Zn (h:EvT t δ false) (k:S' δ = r):W6 t S S' δ = r:=by
 unfold EvT at h
 rw [Znw,h,Wb,if_neg (by decide),k]
def Zkg (S:FS) (δ:Zc) (d:PyData):Prop:=∃ o δ',S δ = .rt o δ'/\o.data = d
theorem Zo (h:S δ = .nx δ') (k:Zkg S' δ' d):Zkg (Yd S S') δ d:=by
 obtain ⟨o,δ2,e,hd⟩:=k
 exact ⟨o,δ2,Wn h e,hd⟩
theorem Wj (k:Zkg S δ d):Zkg (Yd S S') δ d:=by
 obtain ⟨o,δ2,e,hd⟩:=k
 exact ⟨o,δ2,Zio e,hd⟩
theorem Z3 (h:EvV e δ d):Zkg (wE e Wl) δ d:=by
 obtain ⟨o,e1,hd⟩:=Z18 h
 exact ⟨o,δ,e1,hd⟩
theorem Jb (h:EvT t δ true) (k:Zkg S δ d):Zkg (W6 t S S') δ d:=by
 obtain ⟨o,δ2,e,hd⟩:=k
 exact ⟨o,δ2,Zg0 h e,hd⟩
theorem Zy {n:Nat} (hl:xs.length = np) (k:Zkg S (Jq n xs) d):Told (W5 np n S) xs d:=by
 obtain ⟨o,δ2,e,hd⟩:=k
 exact ⟨o,by rw [Zko hl,e,Zp6],hd⟩
def EvO (o:FO) (δ:Zc) (l:Option Int):Prop:=o δ = some (l,δ)
theorem Ybf:EvO oN δ none:=rfl
theorem Z58 {i:Int} (h:EvV e δ (.int i)):EvO (oI e) δ (some i):=by
 obtain ⟨_,e1,d1⟩:=h
 unfold EvO
 rw [Z78,e1,Option.bind_some,d1,Zww]
theorem Z2f {lo hi:FO} {l h:Option Int} (he:EvV e δ (.list ds)) (hl:EvO lo δ l) (hh:EvO hi δ h):EvV (fSl e lo hi) δ (.list (cutD ds l h)):=by
 obtain ⟨_,e1,d1⟩:=he
 unfold EvO at hl hh
 exact ⟨_,by rw [Z4l,e1,Option.bind_some,hl,Option.bind_some,hh,Option.bind_some,d1,Zow],by rw [OT.data_nd,OT.map_fz]⟩
def EvI (it:FI) (δ:Zc) (ds:List PyData):Prop:=it δ = some (ds,δ)
theorem J7 (h:EvV e δ (.list ds)):EvI (Zcl e) δ ds:=by
 obtain ⟨_,e1,d1⟩:=h
 unfold EvI
 rw [Zwh,e1,Option.bind_some,d1,Zow]
theorem Z5x {n:Nat} (h:EvA as δ [.int n]) (hn:n <= 1000000):EvI (iRa as) δ (Zmc 0 n):=by
 obtain ⟨_,e1,d1⟩:=h
 unfold EvI
 rw [Z0d,e1,Option.bind_some,d1,Z51,Zwk (by omega) (by omega),Int.toNat_natCast]
theorem Zvg  {g:FG} (h:EvI it δ ds) (k:forLoop g S ds δ = r):Zea it g S δ = r:=by
 unfold EvI at h
 rw [Zv0,h,Wb,k]
theorem Zgu     {cs:Zc} (xs:List α) (mk f:α→PyData) (hi:EvI it δ (xs.map mk)) (hz:xs.length <= 1000000) (hb:blk 1 caps δ = none :: cs) (h:∀ x ∈ xs,EvV me (some (.fz (mk x)) :: cs) (f x)):EvV (Y4 1 caps it (gNm 0) Zer me) δ (.list (xs.map f)):=by
 have g:∀ x,∃ o:OT,x ∈ xs→me (some (.fz (mk x)) :: cs) = some (o,some (.fz (mk x)) :: cs)/\o.data = f x:=fun x=>by
  by_cases c:x ∈ xs
  .obtain ⟨o,h1,h2⟩:=h x c
   exact ⟨o,fun _=>⟨h1,h2⟩⟩
  .exact ⟨.fz .none,fun z=>absurd z c⟩
 obtain ⟨o,ho⟩:=Classical.axiomOfChoice g
 unfold EvI at hi
 refine ⟨_,Zk2 (cs:=cs) xs mk o hi (by rw [sizeLine_eq]; omega) hb (fun x hx=>(ho x hx).1),?_⟩
 rw [OT.data_nd,List.map_map]
 exact congrArg _ (List.map_congr_left fun x hx=>(ho x hx).2)
theorem Zva  (h:EvV e δ d) (hi:δ[i]? = some (some (.nd ts))) (hl:ts.length <= 1000000):Zah i e δ = .nx (δ.set i (some (.nd (ts ++ [.fz d])))):=by
 obtain ⟨_,e1,d1⟩:=h
 rw [Zmz,hi,Z36,e1,Wb,hi,Z36,Z2y hl,d1]
theorem Zfc  (h:e δ = some (o,δ)):wE e (Zek i) δ = .nx (δ.set i (some o)):=by rw [Zbn,h,Wb,Zsi]
theorem Znv  (h:δ[i]? = some (some o)) (k:S (δ.set i (some (.fz o.data))) = r):Zc2 i S δ = r:=by rw [Zmi,h,Z5y,k]
theorem Zyn (h:EvV e δ d):wE e Zs9 δ = .nx δ:=by
 obtain ⟨_,e1,d1⟩:=h
 rw [Zbn,e1,Wb,Ztc]
theorem Zph {n:Nat} (hl:xs.length = np) (k:S (Jq n xs) = .nx δ'):Told (W5 np n S) xs .none:=⟨_,by rw [Zko hl,k,Zv4],OT.data_fz _⟩
theorem Told.ok  {b:Bool} (h:Told F ds (.bool b)):F ds = .ok (.fz (.bool b)):=by
 obtain ⟨o,e1,d1⟩:=h
 rw [e1,Zhw d1]
theorem Zso  {i:Int} (h:o.data = .int i):o = .fz (.int i):=by
 cases o with
 | fz d=>rw [OT.data_fz] at h; rw [h]
 | nd ts=>rw [OT.data_nd] at h; cases h
 | tp ts=>rw [OT.data_tp] at h; cases h
 | dc _ _ _=>rw [OT.data_dc] at h; cases h
theorem Told.int  {i:Int} (h:Told F ds (.int i)):F ds = .ok (.fz (.int i)):=by
 obtain ⟨o,e1,d1⟩:=h
 rw [e1,Zso d1]
theorem Zot  (h:o.data = .none):o = .fz .none:=by
 cases o with
 | fz d=>rw [OT.data_fz] at h; rw [h]
 | nd ts=>rw [OT.data_nd] at h; cases h
 | tp ts=>rw [OT.data_tp] at h; cases h
 | dc _ _ _=>rw [OT.data_dc] at h; cases h
theorem Told.of   (h:F ds = .ok o) (hd:o.data = d):Told F ds d:=⟨o,h,hd⟩
end
end L2
namespace L2
open PySem PySem.Spec PyProof.Rows
section
variable {e a b:FE} {as:FA}  {x y d:PyData} {xs:List PyData} {i j:Int} {k:Nat} {q:Bool} {t u:FT} {S':FS} {r:RS} {Q:PyData→Prop}
theorem Zam (ha:EvV a δ (.int i)) (hb:EvV b δ (.int j)) (h:j ≠ 0):EvV (Zd Zc0 a b) δ (.int (i.fmod j)):=Zm ha hb (Z15 h)
theorem Z23 {i j:Int} (h:(decide (0 < j) && decide (j < 18446744073709551616)) = true):Jd (.int i) (.int j) = some (.int (i.fdiv j)):=by
 rw [Bool.and_eq_true,decide_eq_true_eq,decide_eq_true_eq] at h
 exact Zjo (Zjw (n:=64) (by omega) (Bt.of_lt (by omega) (by omega)))
theorem Zfk (ha:EvV a δ (.int i)) (hb:EvV b δ (.int j)) (h:(decide (0 < j) && decide (j < 18446744073709551616)) = true:=by decide):EvV (Zd Jd a b) δ (.int (i.fdiv j)):=Zm ha hb (Z23 h)
theorem Zf4 (ha:EvV a δ (.int i)) (hb:EvV b δ (.int j)) (h:decide (i < j) = p):EvV (Zd gLt a b) δ (.bool p):=h ▸ Zm ha hb rfl
theorem Zz8 (ha:EvV a δ (.int i)) (hb:EvV b δ (.int j)) (h:decide (j < i) = p):EvV (Zd gGt a b) δ (.bool p):=h ▸ Zm ha hb (Z7e _ _)
theorem Zwp (ha:EvV a δ (.int i)) (hb:EvV b δ (.int j)) (h:decide (j <= i) = p):EvV (Zd gGe a b) δ (.bool p):=h ▸ Zm ha hb (Z52 _ _)
theorem Zag (ha:EvV a δ (.int i)) (hb:EvV b δ (.int j)) (h:decide (i = j) = p):EvV (Zd gEq a b) δ (.bool p):=h ▸ Zm ha hb (Z0q _ _)
theorem Zl9 (ha:EvV a δ (.int i)) (hb:EvV b δ (.int j)) (h:(!decide (i = j)) = p):EvV (Zd gNe a b) δ (.bool p):=h ▸ Zm ha hb (Z8h _ _)
theorem Z13 (ha:EvV a δ (.int i)):EvV (fUn Z34 a) δ (.int (-i)):=Z1p ha (Z1i _)
theorem Zi0  (h:EvV e δ (.list ds)):EvV (Zc9 Zhn (Zf e Yb)) δ (.int ds.length):=Jc (Zb h Zg) (Zt8 ds)
theorem Z0p (ha:EvV a δ (.list ds)) (hb:EvV b δ (.int i)) (h:atI ds i = some d):EvV (Zbz gIx a b) δ d:=Zce ha hb (by rw [Zv1,h]; rfl)
def Zq6 (S:FS) (δ:Zc) (Q:PyData→Prop):Prop:=∃ d,Zkg S δ d/\Q d
theorem Zuc (h:S δ = .nx δ') (k:Zq6 S' δ' Q):Zq6 (Yd S S') δ Q:=k.imp fun _ k=>⟨Zo h k.1,k.2⟩
theorem Z0o (h:EvV e δ d) (k:Q d):Zq6 (wE e Wl) δ Q:=⟨d,Z3 h,k⟩
theorem Z55 {n:Nat} (hl:xs.length = np) (h:Zq6 S (Jq n xs) Q):∃ d,Told (W5 np n S) xs d/\Q d:=h.imp fun _ k=>⟨Zy hl k.1,k.2⟩
theorem Z32  {g:FG} (I:Nat→Zc→Prop) (hi:EvI it δ ds) (h0:I 0 δ) (turn:∀ (i:Nat) (d:PyData) (δ:Zc),ds[i]? = some d→I i δ→∃ δ1 δ2,g d δ = some δ1/\(S δ1 = .nx δ2\/S δ1 = .ct δ2)/\I (i + 1) δ2) (k:∀ δ',I ds.length δ'→Zq6 S' δ' Q):Zq6 (Yd (Zea it g S) S') δ Q:=by
 obtain ⟨δ',e,h⟩:=Zvh I h0 turn
 exact Zuc (Zvg hi e) (k δ' h)
theorem Zla  {g:FG} (I:Nat→Zc→Prop) (hi:EvI it δ ds) (h0:I 0 δ) (turn:∀ (i:Nat) (d:PyData) (δ:Zc),ds[i]? = some d→I i δ→∃ δ1 δ2,g d δ = some δ1/\(S δ1 = .nx δ2\/S δ1 = .ct δ2)/\I (i + 1) δ2) (k:∀ δ',I ds.length δ'→Zkg S' δ' d):Zkg (Yd (Zea it g S) S') δ d:=by
 obtain ⟨δ',e,h⟩:=Zvh I h0 turn
 exact Zo (Zvg hi e) (k δ' h)
theorem Jx {i:Int} (h:0 < j):0 <= i.fmod j:=by rw [Zch h]; exact Int.emod_nonneg _ (by omega)
theorem Zaj {i:Int} (h:0 < j):i.fmod j < j:=by rw [Zch h]; exact Int.emod_lt_of_pos _ h
theorem Zo7  (h:δ[k]? = some (some o)) (g:Zq6 S (δ.set k (some (.fz o.data))) Q):Zq6 (Zc2 k S) δ Q:=by
 obtain ⟨d,⟨o',δ2,e,hd⟩,hq⟩:=g
 exact ⟨d,⟨o',δ2,Znv h e,hd⟩,hq⟩
theorem Zn5 {es:List PyData} (h:EvA as δ ds) (hz:Zzh ds = some es):EvI (Zjc as) δ es:=by
 obtain ⟨_,e1,d1⟩:=h
 unfold EvI Zjc
 rw [e1,Option.bind_some,d1,hz,Option.bind_some]
theorem Zdq {T:String} (ha:EvV a δ x) (h:Zj4 T x = p) (hf:Zfm x = false:=by rfl):EvV (Ze5 T a) δ (.bool p):=(Zbd ha hf).cast (by rw [h])
theorem Zym {a b:FE} {bs es:List PyData} {as:List PyData} (ha:EvV a δ (.list as)) (hb:EvV b δ (.list bs)) (hz:Zj8 as bs = es):EvI (Zjc (Zf a (Zf b Yb))) δ es:=Zn5 (Zb ha (Zb hb Zg)) (congrArg some hz)
theorem Told.none  (h:Told F ds .none):F ds = .ok (.fz .none):=by
 obtain ⟨o,e1,d1⟩:=h
 rw [e1,Zot d1]
end
end L2
namespace My
open PySem L2 PySem.Spec
def Wd:FS :=
 (Yd (wE (Zc9 Zzo (Zf (Zv 0) Yb)) (Zas 0))
  (Yd (wE (Zc9 Zzo (Zf (Zv 1) Yb)) (Zas 1))
  (Yd (Zgc (tV (Zd gNe (Zv 1) (fC (.int 0)))) (Yd (wE (Zd Zc0 (Zv 0) (Zv 1)) (Zas 2))
  (Yd (wE (Zv 1) (Zas 0))
  (wE (Zv 2) (Zas 1)))))
  (wE (Zv 0) Wl))))
def Zz:FD:=W5 2 3 Wd
theorem Zhi {f1 f2:Int→Int→Option OT→Zc} {t:FT} {u:FS} (ht:∀ x y z,t (f1 x y z) = some (!decide (y = 0),f1 x y z)) (hu:∀ x y z,y ≠ 0→∃ z',u (f1 x y z) = .nx (f1 y (x.fmod y) z')) :
  ∀ (n:Nat) (x y:Int) (z:Option OT),0 <= x→0 <= y→y.toNat < n→∃ z',whileLoop t u n (f1 x y z) = .nx (f1 (Int.gcd x y:Int) 0 z')
 | 0,_,_,_,_,_,h=>absurd h (Nat.not_lt_zero _)
 | n + 1,x,y,z,hx,hy,h=>by
  unfold whileLoop
  rw [ht]
  dsimp only
  by_cases c:y = 0
  .subst c
   refine ⟨z,?_⟩
   simp only [decide_true,Bool.not_true,Bool.false_eq_true,if_false]
   rw [Int.gcd_zero_right]
   congr 2
   omega
  .simp only [c,decide_false,Bool.not_false,if_true]
   obtain ⟨z1,e1⟩:=hu x y z c
   rw [e1]
   dsimp only
   have hm:x.fmod y = x % y:=Zch (by omega)
   have h1:0 <= x % y:=Int.emod_nonneg x c
   have h2:x % y < y:=Int.emod_lt_of_pos x (by omega)
   obtain ⟨z2,e2⟩:=Zhi (f1:=f1) (f2:=f2) ht hu n y (x.fmod y) z1 hy (by omega) (by omega)
   exact ⟨z2,by rw [e2,Zrm hx (by omega)]⟩
theorem Zb3 (a b:Int):Zz [.int a,.int b] = .ok (.fz (.int (Int.gcd a b:Int))):=by
 obtain ⟨z',e⟩:=Zhi (f1:=fun x y z=>[some (.fz (.int x)),some (.fz (.int y)),z]) (f2:=fun x y z=>[]) (t:=tV (Zd gNe (Zv 1) (fC (.int 0)))) (u:=Yd (wE (Zd Zc0 (Zv 0) (Zv 1)) (Zas 2)) (Yd (wE (Zv 1) (Zas 0)) (wE (Zv 2) (Zas 1)))) (fun x y z=>W9 (Zl9 Za Z0 rfl)) (fun x y z hy=>⟨_,Wn (Wg (Zam Za Za hy)) (Wn (Wg Za) (Wg Za))⟩) ((b.natAbs:Int).toNat + 1) (a.natAbs:Int) (b.natAbs:Int) none (by omega) (by omega) (by omega)
 rw [Int.gcd_eq_natAbs_gcd_natAbs,Int.natAbs_natCast,Int.natAbs_natCast] at e
 exact Told.int <| Zy rfl <| Zo (Wg (Jc (Zb Za Zg) (Zoi a))) <| Zo (Wg (Jc (Zb Za Zg) (Zoi b))) <| Zo (Zis _ e (by intro z; cases z)) (Z3 Za)
def Ze9:FS :=
 (Yd (wE (Zw Zz (Zf (Zv 0) (Zf (Zv 1) Yb))) (Zas 2))
  (Yd (W6 (tV (Zd gLt (Zv 1) (fC (.int 0))))
  (wE (fUn Z34 (Zv 2)) (Zas 2))
  fNx)
  (wE (Zlm (Zf (Zd Jd (Zv 0) (Zv 2)) (Zf (Zd Jd (Zv 1) (Zv 2)) Yb))) Wl)))
def Ze8:FD:=W5 2 3 Ze9
theorem Z75 {n:Nat} {t b:Int} (hb:b ≠ 0) (hB:Bt n b) (hn:n <= 9000) (s:Int) (e:s = shr t b):Jd (.int t) (.int s) = some (.int (Rat.divInt t b).num)/\Jd (.int b) (.int s) = some (.int ((Rat.divInt t b).den:Int)):=by
 subst e
 rw [Zjo (Zjw (Zt7 hb) (Zu0 hb hB) hn),Zjo (Zjw (Zt7 hb) (Zu0 hb hB) hn),Zxb hb,Zwi hb]
 exact ⟨rfl,rfl⟩
def Zbf:FS :=
 (wE (Zjh (Ze5 "int" (Zv 0)) (fUn Z5f (Ze5 "bool" (Zv 0)))) Wl)
def Z4:FD:=W5 1 1 Zbf
theorem Zdx (i:Int):Z4 [.int i] = .ok (.fz (.bool true)):=rfl
def Zfo:FS :=
 (Yd (W6 (tO (tNo (tD (Zw Z4 (Zf (Zv 0) Yb)))) (tO (tNo (tD (Zw Z4 (Zf (Zv 1) Yb)))) (tV (Zd gEq (Zv 1) (fC (.int 0))))))
  (Zhz "NoNumber")
  fNx)
  (wE (Zw Ze8 (Zf (Zv 0) (Zf (Zv 1) Yb))) Wl))
def Zpz:FD:=W5 2 2 Zfo
def Zbo:FS :=
 (Yd (wE (fC (.int 1)) (Zas 1))
  (Yd (Zea (Zcl (Zv 0)) (gNm 2)
  (wE (Zd Zxq (Zd Jd (Zv 1) (Zw Zz (Zf (Zv 1) (Zf (Zbz gIx (Zv 2) (fC (.int 1))) Yb)))) (Zbz gIx (Zv 2) (fC (.int 1)))) (Zas 1)))
  (wE (Zv 1) Wl)))
def Zbm:FD:=W5 1 3 Zbo
def prD (p:Int × Int):PyData:=.tuple [.int p.1,.int p.2]
def Zcb:FS :=
 (Yd (wE (fC (.int 1)) (Zas 1))
  (Yd (Zea (Zcl (Zv 0)) (gNm 2)
  (wE (Zw Zbm (Zf (Zbz Yc1 (Zmh (Zf (Zlm (Zf (fC (.int 1)) (Zf (Zv 1) Yb))) Yb)) (Zv 2)) Yb)) (Zas 1)))
  (wE (Zv 1) Wl)))
def Zkf:FD:=W5 1 3 Zcb
def Zd4:FS :=
 (wE (Y4 1 [0] (Zcl (Zv 1)) (gNm 0) Zer (Zd Zxq (Zbz gIx (Zv 0) (fC (.int 0))) (Zd Jd (Zv 1) (Zbz gIx (Zv 0) (fC (.int 1)))))) Wl)
def Zdy:FD:=W5 2 2 Zd4
def Zc1:FS :=
 (wE (Y4 1 [0] (Zcl (Zv 1)) (gNm 0) Zer (Zw Zdy (Zf (Zv 1) (Zf (Zv 0) Yb)))) Wl)
def Zma:FD:=W5 2 2 Zc1
def Zeu:FS :=
 (Yd (wE (Zmh Yb) (Zek 1))
  (Yd (Zea (iRa (Zf (Zv 0) Yb)) (gNm 2)
  (Zea (iRb (Zf (Zd Zho (Zv 2) (fC (.int 1))) (Zf (Zv 0) Yb))) (gNm 3)
  (Zah 1 (Zlm (Zf (Zv 2) (Zf (Zv 3) Yb))))))
  (Zmd 1)))
def Zoe:FD:=W5 1 4 Zeu
end My
namespace My
open PySem L2 PySem.Spec
def Jp:FS :=
 (Yd (W6 (tV (Zd gLt (Zv 1) (Zc9 Zhn (Zf (Zv 0) Yb))))
  (wE (Zbz gIx (Zv 0) (Zv 1)) Wl)
  fNx)
  (wE (fC (.int 0)) Wl))
def Z5:FD:=W5 2 2 Jp
def Ze2:FS :=
 (Yd (W6 (tV (Zd gEq (Zd Zc0 (Zd Jd (Zv 0) (fC (.int 7))) (fC (.int 8))) (fC (.int 3))))
  (wE (Zd Zho (Zd Zho (Zv 2) (fC (.int 1))) (Zd Zc0 (Zd Jd (Zv 0) (fC (.int 56))) (Zd gSb (Zv 3) (Zv 2)))) Wl)
  fNx)
  (wE (Zd Zho (Zv 1) (Zd Zc0 (Zv 0) (Zd gSb (Zd Zho (Zv 2) (fC (.int 1))) (Zv 1)))) Wl))
def Zos:FD:=W5 4 4 Ze2
def Zfg:FS :=
 (Yd (wE (Zd Zc0 (Zd Zxq (Zd Zho (Zd Zho (Zd Zc0 (Zv 0) (fC (.int 2147483629))) (Zd Zxq (fC (.int 9973)) (Zv 1))) (fC (.int 5))) (fC (.int 48271))) (fC (.int 2147483647))) (Zas 2))
  (Yd (wE (Zd Zc0 (Zd Zxq (Zv 2) (Zv 2)) (fC (.int 2147483587))) (Zas 2))
  (wE (Zd Jd (Zd Zc0 (Zd Zxq (Zd Zho (Zv 2) (Zd Zxq (fC (.int 7919)) (Zv 1))) (fC (.int 16807))) (fC (.int 2147483563))) (fC (.int 8))) Wl)))
def Zff:FD:=W5 2 3 Zfg
def Zcx:FS :=
 (Yd (wE (Zmh Yb) (Zek 2))
  (Yd (wE (Zv 0) (Zas 3))
  (Yd (Zea (iRa (Zf (Zv 1) Yb)) (gNm 4)
  (Yd (wE (Zw Zff (Zf (Zv 0) (Zf (Zv 4) Yb))) (Zas 5))
  (Yd (W6 (tV (Zd gGe (Zv 0) (Zd Zov (fC (.int 10)) (fC (.int 18)))))
  (wE (Zd Zc0 (Zv 3) (fC (.int 720720))) (Zas 5))
  fNx)
  (Yd (wE (Zd Jd (Zv 3) (fC (.int 720720))) (Zas 3))
  (Zah 2 (Zv 5))))))
  (Zmd 2))))
def Zk3:FD:=W5 2 6 Zcx
def Z1 (p:List Int):PyData:=.list (p.map PyData.int)
theorem Zrh {p:List Int} {i:Int} (h0:0 <= i) (h1:i < p.length):atI (p.map PyData.int) i = some (.int (p.getD i.toNat 0)):=by
 rw [Zlo h0,List.getElem?_map,List.getElem?_eq_getElem (by omega)]
 simp [List.getD_eq_getElem?_getD,List.getElem?_eq_getElem (show i.toNat < p.length by omega)]
theorem Zh7 {a b:FE}  {p:List Int} {i:Int} (ha:EvV a δ (Z1 p)) (hb:EvV b δ (.int i)) (h0:0 <= i) (h1:i < p.length):EvV (Zbz gIx a b) δ (.int (p.getD i.toNat 0)):=Z0p ha hb (Zrh h0 h1)
theorem Zbi {a:FE}  {p:List Int} (ha:EvV a δ (Z1 p)):EvV (Zc9 Zhn (Zf a Yb)) δ (.int p.length):=by
 have:=Zi0 (ds:=p.map PyData.int) ha
 rwa [List.length_map] at this
theorem Zgi (ns:List Int) {k:Int} (h0:0 <= k):∃ c,Z5 [Z1 ns,.int k] = .ok (.fz (.int c)):=by
 by_cases c:k < ns.length
 .exact ⟨_,Told.int <| Zy rfl <| Wj (Jb (W9 (Zf4 Za (Zbi Za) (decide_eq_true c))) (Z3 (Zh7 Za Za h0 c)))⟩
 .exact ⟨_,Told.int <| Zy rfl <| Zo (Zn (W9 (Zf4 Za (Zbi Za) (decide_eq_false c))) rfl) (Z3 Z0)⟩
end My
namespace L2
open PySem PySem.Spec PyProof.Rows
section
variable    {a:Expr}   {sp kp:Pos}    
end
end L2
namespace L2
open PySem PySem.Spec PyProof.Rows
def Zsg:List PyData→Option OT:=fun ds=>match ds with | [d]=>(Zfa d).map fun es=>.fz (.tuple es) | _=>none
def Zz2:List PyData→(OT→Prop)→Prop:=fun ds k=>n1 (fun d=>match Zfa d with | some es=>k (.fz (.tuple es)) | none=>False) ds
theorem Zo0:PN G (Zt9 G) Zz2:=fun H L xs ds k Q hx h kk=>by
 obtain ⟨v,d,rfl,rfl,q,h⟩:=hx.one h
 have nw:∀ {xs:List V} {es:List PyData},Das G H L xs es→k (.fz (.tuple es))→∀ p,H p = none→Q (.ref p) (upd H p (.tup xs)):=fun r h p hp =>
  kk _ _ _ [] (Z6 hp _) (.fz (.tup Zu ((r.same (Z6 hp _)).wide fun a l _=>⟨.inl l,fun m=>nomatch m⟩))) .nil (fun a m=>nomatch m) h
 cases q with
 | lst l e r=>exact ⟨_,_,rfl,.inl ⟨.inl e,nw r h⟩⟩
 | tup e r=>exact ⟨_,_,rfl,.inr ⟨.inl (.inl e),kk H _ _ [] (Same.refl H) (.fz (.tup e (r.wide fun a l _=>⟨.inl l,fun m=>nomatch m⟩))) .nil (fun a m=>nomatch m) h⟩⟩
 | scr ks=>exact ⟨_,_,rfl,.inl ⟨ks.sq,nw (Das.ints _) h⟩⟩
 | _=>exact h.elim
theorem Zvk:∀ (ds:List PyData) (r:OT) (k:OT→Prop),Zsg ds = some r→k r→Zz2 ds k:=fun ds r k h hk=>by
 unfold Zsg at h
 split at h
 case h_2=>cases h
 rename_i d
 show match Zfa d with | some es=>k (.fz (.tuple es)) | none=>False
 cases e:Zfa d with
 | none=>rw [e] at h; cases h
 | some es=>rw [e] at h; cases h; exact hk
section
variable    {a:Expr}   
theorem Z1l {n:Int} {t:Tok} (hg:Gl X x) (hm:X.mg x = some (.int n t)) (hdb:(x == ("__debug__" : Str)) = false:=by decide):ME X io true true (.Name x pos) (mC (.int n)) :=
 ⟨_,Zon (v:=.int n) hg hm ⟨t,rfl⟩ hdb,fun C H σ δ fp ex K Q R h k=>k H (.int n) _ δ fp [] (.fz R (.refl _ _ _ _) (.int n)) h⟩
theorem Z25 {z:Str} {t:Tok} (hg:Gl X x) (hm:X.mg x = some (.str z t)) (hdb:(x == ("__debug__" : Str)) = false:=by decide):ME X io true true (.Name x pos) (mC (.str z)) :=
 ⟨_,Zon (v:=.str z) hg hm ⟨t,rfl⟩ hdb,fun C H σ δ fp ex K Q R h k=>k H (.str z) _ δ fp [] (.fz R (.refl _ _ _ _) (.str z)) h⟩
end
end L2
namespace L2
open PySem PySem.Spec PyProof.Rows
def Zf0:List PyData→Option (List Str)
 | []=>some []
 | .str x :: ds=>(Zf0 ds).map (x :: ·)
 | _ :: _=>none
theorem Zeo:∀ (ts:List Str),Zf0 (ts.map PyData.str) = some ts
 | []=>rfl
 | t :: ts=>by rw [List.map_cons,Zf0,Zeo ts]; rfl
theorem Das.strs  :∀ {xs:List V} {ds:List PyData} {ts:List Str},Das G H L xs ds→Zf0 ds = some ts→xs = ts.map V.str
 | _,[],_,.nil,h=>by cases h; rfl
 | _,d :: ds,_,.cons h r,e=>by
  cases d with
  | str x =>
   rw [Zf0] at e
   obtain ⟨ts,e1,rfl⟩:=Option.map_eq_some_iff.mp e
   cases h
   rw [r.strs e1]; rfl
  | _=>cases e
theorem Ziq:∀ {ts:List Str} {us:List Value},Vals (ts.map V.str) us→∃ l:List (Str × Tok),us = strValues l/\l.map (·.1) = ts
 | [],_,r=>by cases r; exact ⟨[],rfl,rfl⟩
 | t :: ts,_,r=>by
  rw [List.map_cons] at r
  cases r with
  | cons h r =>
   obtain ⟨k,rfl⟩:=h
   obtain ⟨l,rfl,rfl⟩:=Ziq r
   exact ⟨(t,k) :: l,rfl,rfl⟩
def rJoin (K:PySem.W.Frag):V→List V→Hp→VK→Prop:=fun x vs H Q=>∃ sep b ts,x = .str sep/\vs = [.ref b]/\SqL K H b (ts.map V.str)/\JoinOk sep ts = true/\Q (.str (PySem.Txt.join sep ts)) H
theorem Zg4 (hK:X.K = K):MtR X "str.join" (rJoin K):=by
 intro pins s σ H x vs v us Q I rx rv h
 obtain ⟨sep,b,ts,rfl,rfl,hb,ok,q⟩:=h
 obtain ⟨t,rfl⟩:=rx
 obtain ⟨u,rfl,ru⟩:=rv.one
 cases ru
 obtain ⟨its,n,r,hl,o,e1,e2,e3,e4⟩:=I.lstQ hK hb
 obtain ⟨l,rfl,hl2⟩:=Ziq r
 exact SC.join (l:=l) (texts:=ts) ⟨o,e1,e2,n,e4⟩ hl2 ok fun t' k=>⟨.str _,H,I.tok k,⟨t',rfl⟩,q⟩
def Zb7 (z y:Str):Bool:=decide (z.length <= sizeLine) && (decide ((PySem.Txt.split z y).length <= sizeLine) && !(y.length == 0))
def Zua:V→List V→Hp→VK→Prop:=fun x vs H Q=>∃ z y,x = .str z/\vs = [.str y]/\Zb7 z y = true/\∀ p,H p = none→Q (.ref p) (upd H p (.lst ((PySem.Txt.split z y).map V.str)))
theorem Znr:∀ (l:List (Str × Tok)),Vals ((l.map (·.1)).map V.str) (strValues l)
 | []=>.nil
 | p :: l=>.cons ⟨p.2,rfl⟩ (Znr l)
theorem Zeh:MtR X "str.split" Zua:=by
 intro pins s σ H x vs v us Q I rx rv h
 obtain ⟨z,y,rfl,rfl,ok,q⟩:=h
 obtain ⟨t,rfl⟩:=rx
 obtain ⟨w,rfl,ru⟩:=rv.one
 obtain ⟨u,rfl⟩:=ru
 unfold Zb7 at ok
 rw [Bool.and_eq_true,Bool.and_eq_true,decide_eq_true_eq,decide_eq_true_eq,Bool.not_eq_true'] at ok
 obtain ⟨z1,z2,hy⟩:=ok
 have fin:∀ (l:List (Str × Tok)) (tk:Nat),l.map (·.1) = PySem.Txt.split z y→EP X pins σ Q (.ref s.heap.objs.size) { s with heap:=s.heap.push { cls:=.type "list", data:=.seq (strValues l).toArray },toks:=tk }:=fun l tk hl=>by
  refine ⟨.ref s.heap.objs.size,_,I.laid (a:=s.heap.objs.size) (t':=tk) (o:=.lst ((PySem.Txt.split z y).map V.str)) (fun _ _ q=>Heap.get?_push_of_some _ q) (Nat.le_refl _) ⟨by rw [List.length_map]; exact z2,strValues l,_,by rw [<- hl]; exact Znr l,Heap.get?_push_size _ rfl⟩,rfl,q _ (I.hok.fresh (Nat.le_refl _))⟩
 cases h1:(decide (z.length < y.length) || decide (Builtin.Str.strKind z < Builtin.Str.strKind y))
 .cases hf:(Builtin.Str.occurrences z y 0 z.length (z.length + 1)).isEmpty
  .have es:PySem.Txt.split z y = Builtin.Str.partsBetween z (Builtin.Str.occurrences z y 0 z.length (z.length + 1)) y.length:=(if_neg (ne_true_of_eq_false h1)).trans (if_neg (ne_true_of_eq_false hf))
   refine call_meets F.slot_str_split (typeIs_str _ _ _) F.entry_str_split (F.args_str_split_2 _ _) (meets_str_split_sep z y t u h1 hy hf z1 (es ▸ z2)) ?_
   show wants _ _ _ { s with toks:=_,heap:=s.heap.push { cls:=.type "list", data:=.seq (strsFrom s.toks (Builtin.Str.partsBetween z (Builtin.Str.occurrences z y 0 z.length (z.length + 1)) y.length)).toArray } }
   rw [strsFrom_eq]
   exact fin (numbered s.toks _) _ ((numbered_texts _ _).trans es.symm)
  .exact call_meets F.slot_str_split (typeIs_str _ _ _) F.entry_str_split (F.args_str_split_2 _ _) (meets_str_split_not_found z y t u h1 hy hf) (fin [(z,t)] s.toks ((if_neg (ne_true_of_eq_false h1)).trans (if_pos hf)).symm)
 .exact call_meets F.slot_str_split (typeIs_str _ _ _) F.entry_str_split (F.args_str_split_2 _ _) (meets_str_split_cannot_occur z y t u h1) (fin [(z,t)] s.toks (if_pos h1).symm)
end L2
variable {S':FS}{z:Str}{g:Str→List PyData→Option PyData}{cs:Zc}
namespace L2
open PySem PySem.Spec PyProof.Rows
section
variable    {o:Expr}  {mo:MEt}   {r:V→List V→Hp→VK→Prop}  
def PMs (G:PySem.W.Frag) (r:V→List V→Hp→VK→Prop) (g:Str→List PyData→Option PyData):Prop:=∀ (H:Hp) (L:Addr→Prop) (z:Str) (xs:List V) (ds:List PyData) (d:PyData) (Q:VK),Das G H L xs ds→g z ds = some d→(∀ v,ScD v d→Q v H)→r (.str z) xs H Q
def PM (G:PySem.W.Frag) (r:V→List V→Hp→VK→Prop) (g:Str→List PyData→Option OT):Prop:=∀ (H:Hp) (L:Addr→Prop) (z:Str) (xs:List V) (ds:List PyData) (d:OT) (Q:VK),Das G H L xs ds→g z ds = some d→(∀ H' v new,Same H H'→Own G H' (fun a=>(L a\/H a = none)/\a ∉ new) v d new→new.Nodup→(∀ a ∈ new,H a = none)→Q v H')→r (.str z) xs H Q
def Z8e (g:Str→List PyData→Option PyData) (mo:MEt) (mr:MAt):MEt:=fun δ K=>mo δ fun ro δ1=>∃ z,ro.data = .str z/\mr δ1 fun rs δ2=>∃ d,g z (OT.datas rs) = some d/\K (.fz d) δ2
def Z54 (g:Str→List PyData→Option OT) (mo:MEt) (mr:MAt):MEt:=fun δ K=>mo δ fun ro δ1=>∃ z,ro.data = .str z/\mr δ1 fun rs δ2=>∃ d,g z (OT.datas rs) = some d/\K d δ2
theorem Da.strInv     (h:Da G H L v (.str z)):v = .str z:=by cases h; rfl
theorem Ycc   {t:TA} (P:PMs G r g) (so:SE G io p c to mo) (sa:SA G io p' c' t mr):SE G io (p && p') true (tBM G "str" r to t) (Z8e g mo mr):=fun C H σ δ fp ex K Q R h kk =>
 so C H σ δ fp ex _ _ R h fun H1 v ro δ1 fp1 new1 r1 h1=>by
  obtain ⟨z,hz,h1⟩:=h1
  have q:=r1.da R
  rw [hz] at q
  cases q.strInv
  exact ⟨rfl,sa C H1 σ δ1 fp1 ex _ _ r1.base h1 fun H2 vs rs δ2 fp2 new2 r2 h2=>by
   obtain ⟨d,e,h2⟩:=h2
   exact P H2 _ z vs _ d _ (r2.das r1.base) e fun v sc=>kk H2 v _ δ2 fp2 [] (.fz r2.base (r1.stp.trans r2.stp) sc.da) h2⟩
theorem Yce {g:Str→List PyData→Option OT}  {t:TA} (P:PM G r g) (so:SE G io p c to mo) (sa:SA G io p' c' t mr):SE G io (p && p') c' (tBM G "str" r to t) (Z54 g mo mr):=fun C H σ δ fp ex K Q R h kk =>
 so C H σ δ fp ex _ _ R h fun H1 v ro δ1 fp1 new1 r1 h1=>by
  obtain ⟨z,hz,h1⟩:=h1
  have q:=r1.da R
  rw [hz] at q
  cases q.strInv
  exact ⟨rfl,sa C H1 σ δ1 fp1 ex _ _ r1.base h1 fun H2 vs rs δ2 fp2 new2 r2 h2=>by
   obtain ⟨d,e,h2⟩:=h2
   exact P H2 _ z vs _ d _ (r2.das r1.base) e fun H' v new s ow nd hn=>kk H' v d δ2 fp2 new (RE.tree R r2.base (r1.stp.trans r2.stp) s hn nd ow) h2⟩
theorem Ztd  (P:PMs X.K r g) (slot:Slot "str" name id) (hty:typeOf (.builtin id) = pure (.type "method_descriptor")) (hm:MtR X id r) (ho:ME X io p c o mo) (ha:MA X io p' c' (e :: es) mr)
  (hbase:attributeBase o name X.env (eval o X.env) = eval o X.env:=by rfl)
  (hfew:((backTo cpos (starEach (e :: es) X.env)).all (fun x=>!x.1) && (backToKw cpos (keywordEach [] X.env)).all (fun x=>x.1.isSome)
   && decide ((e :: es).length + ([]:List Keyword).length + (if ([]:List Keyword).isEmpty then 0 else 1) < 30)) = true:=by rfl)
  (hline:(apos.endLine == cpos.line) = true:=by rfl) (hs:starEach (e :: es) X.env = (false,eval e X.env) :: starEach es X.env:=by rfl) (hplain:(backTo cpos (starEach es X.env)).any (·.1) = false:=by rfl) :
  ME X io (p && p') true (.Call (.Attribute o name apos) (e :: es) [] cpos) (Z8e g mo mr):=by
 obtain ⟨_,O,so⟩:=ho
 obtain ⟨_,A,sa⟩:=ha
 exact ⟨_,Zsq PySem.F.plainAttrs_str slot hty hm O A hbase hfew hline hs hplain,Ycc P so sa⟩
theorem Ztv {g:Str→List PyData→Option OT} (P:PM X.K r g) (slot:Slot "str" name id) (hty:typeOf (.builtin id) = pure (.type "method_descriptor")) (hm:MtR X id r) (ho:ME X io p c o mo) (ha:MA X io p' c' (e :: es) mr)
  (hbase:attributeBase o name X.env (eval o X.env) = eval o X.env:=by rfl)
  (hfew:((backTo cpos (starEach (e :: es) X.env)).all (fun x=>!x.1) && (backToKw cpos (keywordEach [] X.env)).all (fun x=>x.1.isSome)
   && decide ((e :: es).length + ([]:List Keyword).length + (if ([]:List Keyword).isEmpty then 0 else 1) < 30)) = true:=by rfl)
  (hline:(apos.endLine == cpos.line) = true:=by rfl) (hs:starEach (e :: es) X.env = (false,eval e X.env) :: starEach es X.env:=by rfl) (hplain:(backTo cpos (starEach es X.env)).any (·.1) = false:=by rfl) :
  ME X io (p && p') c' (.Call (.Attribute o name apos) (e :: es) [] cpos) (Z54 g mo mr):=by
 obtain ⟨_,O,so⟩:=ho
 obtain ⟨_,A,sa⟩:=ha
 exact ⟨_,Zsq PySem.F.plainAttrs_str slot hty hm O A hbase hfew hline hs hplain,Yce P so sa⟩
def Zfy:Str→List PyData→Option PyData:=fun z ds=>match ds with
 | [.list es]=>(Zf0 es).bind fun ts=>if JoinOk z ts = true then some (.str (PySem.Txt.join z ts)) else none
 | _=>none
theorem Zg5:PMs G (rJoin G) Zfy:=fun H L z xs ds d Q hx h kk=>by
 unfold Zfy at h
 split at h
 case h_2=>cases h
 rename_i es
 obtain ⟨ts,h1,h⟩:=bs h
 split at h
 case isFalse=>cases h
 rename_i ok
 cases h
 cases hx with
 | cons q r0 =>
  cases r0
  cases q with
  | lst l e r=>exact ⟨z,_,ts,rfl,rfl,.inl (r.strs h1 ▸ e),ok,kk _ (.str _)⟩
  | scr ks =>
   rename_i a ns
   cases ns with
   | nil=>cases h1; exact ⟨z,_,[],rfl,rfl,ks.sq,ok,kk _ (.str _)⟩
   | cons n ns=>cases h1
def Jt:Str→List PyData→Option OT:=fun z ds=>match ds with
 | [.str y]=>if Zb7 z y = true then some (.nd (((PySem.Txt.split z y).map PyData.str).map OT.fz)) else none
 | _=>none
theorem Zkt  :∀ (ts:List Str),Das G H L (ts.map V.str) (ts.map PyData.str)
 | []=>.nil
 | t :: ts=>.cons (.str t) (Zkt ts)
theorem Zee:PM G Zua Jt:=fun H L z xs ds d Q hx h kk=>by
 unfold Jt at h
 split at h
 case h_2=>cases h
 rename_i y
 split at h
 case isFalse=>cases h
 rename_i ok
 cases h
 cases hx with
 | cons q r0 =>
  cases r0
  cases q.strInv
  exact ⟨z,y,rfl,rfl,ok,fun p hp=>kk _ _ [p] (Z6 hp _) (Own.list hp (Zkt _)) (Zcv p) (Za6 hp)⟩
def Zsb (g:Str→List PyData→Option PyData) (o:FE) (a:FA):FE:=fun δ=>(o δ).bind fun p=>match p.1.data with
 | .str z=>(a p.2).bind fun q=>(g z (OT.datas q.1)).bind fun d=>some (.fz d,q.2)
 | _=>none
def Zmv (g:Str→List PyData→Option OT) (o:FE) (a:FA):FE:=fun δ=>(o δ).bind fun p=>match p.1.data with
 | .str z=>(a p.2).bind fun q=>(g z (OT.datas q.1)).bind fun d=>some (d,q.2)
 | _=>none
variable {fo:FE} 
theorem Zk5  (h:ME X io p c e (Z8e g (o2 fo) (o2 ra))):ME X io p c e (o2 (Zsb g fo ra)):=h.weak fun δ K z=>by
 obtain ⟨r,δ',h,k⟩:=z
 obtain ⟨⟨x,δ1⟩,h1,h⟩:=bs h
 dsimp only at h
 split at h
 case h_2=>cases h
 rename_i z hz
 obtain ⟨⟨y,δ2⟩,h2,h⟩:=bs h
 obtain ⟨d,h3,h⟩:=bs h
 cases h
 exact ⟨x,δ1,h1,z,hz,y,δ2,h2,_,h3,k⟩
theorem Zku {g:Str→List PyData→Option OT} (h:ME X io p c e (Z54 g (o2 fo) (o2 ra))):ME X io p c e (o2 (Zmv g fo ra)):=h.weak fun δ K z=>by
 obtain ⟨r,δ',h,k⟩:=z
 obtain ⟨⟨x,δ1⟩,h1,h⟩:=bs h
 dsimp only at h
 split at h
 case h_2=>cases h
 rename_i z hz
 obtain ⟨⟨y,δ2⟩,h2,h⟩:=bs h
 obtain ⟨d,h3,h⟩:=bs h
 cases h
 exact ⟨x,δ1,h1,z,hz,y,δ2,h2,_,h3,k⟩
end
end L2
namespace L2
open PySem PySem.Spec PyProof.Rows
def Its (x:Str):It:=⟨fun i _=>i < x.cps.size,fun i H v H'=>H' = H/\∃ c,x.cps[i]? = some c/\v = .str ⟨#[c]⟩,fun i _=>x.cps.size <= i⟩
theorem Zn2     (x:Str) (t:Tok) (it:Addr):Turn P w K tg (Its x) [it] it (fun i h=>h.IsStrIter it "str_ascii_iterator" x t i) where
 mem:=by simp
 obj:=fun i h st b hb=>by
  have e:b = it:=by simpa using hb
  subst e
  obtain ⟨o,e,c,d⟩:=st
  exact ⟨o,e,fun v z=>by rw [d] at z; cases z⟩
 keep:=fun i h h' st k=>by
  obtain ⟨o,e,c,d⟩:=st
  exact ⟨o,k it (by simp) o e,c,d⟩
 item:=by
  intro X hP hw hK hc i pins s σ H E I hf st hg
  subst hP hw hK
  obtain ⟨f0,f1,f2,f3,f4,f5⟩:=hf it (by simp)
  have hx:x.cps[i]? = some x.cps[i]:=Array.getElem?_eq_getElem hg
  refine wpAny_pyNext_ascii_item st hx fun h' st' sb=>?_
  have I1:Inv X pins σ H { s with heap:=h',toks:=s.toks + 1 }:=I.turned (fun b o hb e=>(sb.2 b hb).trans e) f0 f1 f3 f4 f5
  obtain ⟨o,e,c,d⟩:=id st'
  exact ⟨_,rfl,Zs4 (s:={ s with heap:=h',toks:=s.toks + 1 }) e c d (by decide) ⟨.str ⟨#[x.cps[i]]⟩,H,I1,⟨_,rfl⟩,⟨rfl,_,hx,rfl⟩,st',fun b hb=>(hf b hb).1⟩⟩
 done:=by
  intro X hP hw hK hc i pins s σ H E I hf st hg
  subst hP hw hK
  obtain ⟨f0,f1,f2,f3,f4,f5⟩:=hf it (by simp)
  exact wpAny_pyNext_ascii_end (I.ok.hd hc) st (Array.getElem?_eq_none hg) fun h' eb=>⟨rfl,I.turned (t':=s.toks) (fun b o hb e=>eb b o hb e) f0 f1 f3 f4 f5⟩
 self:=fun _ _ _ _ _ st h=>wpAny_pyIter_striter_ascii st h
theorem Zpn     (x:Str) (t:Tok) (it:Addr):Turn P w K tg (Its x) [it] it (fun i h=>h.IsStrIter it "str_iterator" x t i) where
 mem:=by simp
 obj:=fun i h st b hb=>by
  have e:b = it:=by simpa using hb
  subst e
  obtain ⟨o,e,c,d⟩:=st
  exact ⟨o,e,fun v z=>by rw [d] at z; cases z⟩
 keep:=fun i h h' st k=>by
  obtain ⟨o,e,c,d⟩:=st
  exact ⟨o,k it (by simp) o e,c,d⟩
 item:=by
  intro X hP hw hK hc i pins s σ H E I hf st hg
  subst hP hw hK
  obtain ⟨f0,f1,f2,f3,f4,f5⟩:=hf it (by simp)
  have hx:x.cps[i]? = some x.cps[i]:=Array.getElem?_eq_getElem hg
  refine wpAny_pyNext_wide_item st hx fun h' st' sb=>?_
  have I1:Inv X pins σ H { s with heap:=h',toks:=s.toks + 1 }:=I.turned (fun b o hb e=>(sb.2 b hb).trans e) f0 f1 f3 f4 f5
  obtain ⟨o,e,c,d⟩:=id st'
  exact ⟨_,rfl,Zs4 (s:={ s with heap:=h',toks:=s.toks + 1 }) e c d (by decide) ⟨.str ⟨#[x.cps[i]]⟩,H,I1,⟨_,rfl⟩,⟨rfl,_,hx,rfl⟩,st',fun b hb=>(hf b hb).1⟩⟩
 done:=by
  intro X hP hw hK hc i pins s σ H E I hf st hg
  subst hP hw hK
  obtain ⟨f0,f1,f2,f3,f4,f5⟩:=hf it (by simp)
  exact wpAny_pyNext_wide_end (I.ok.hd hc) st (Array.getElem?_eq_none hg) fun h' eb=>⟨rfl,I.turned (t':=s.toks) (fun b o hb e=>eb b o hb e) f0 f1 f3 f4 f5⟩
 self:=fun _ _ _ _ _ st h=>wpAny_pyIter_striter_wide st h
def Z72 (tl:TE):TI:=fun σ H R=>tl σ H fun x H1=>∃ z,x = .str z/\R (Its z) H1
theorem Z0b {l:Expr}  (hl:PE X l tl):PI X tg l (Z72 tl):=by
 intro pins s σ H R I h
 refine thn (hl pins s σ H _ I h) fun v s1 qz9=>?_
 obtain ⟨x,H1,I1,r1,q1⟩:=qz9
 obtain ⟨z,e,q⟩:=q1
 subst e
 obtain ⟨t,rfl⟩:=r1
 have fp:∀ b ∈ [s1.heap.objs.size],Zgn X pins H1 b:=fun b hb=>by
  have e:b = s1.heap.objs.size:=by simpa using hb
  subst e
  exact I1.fpOk (Nat.le_refl _) (I1.hok.fresh (Nat.le_refl _))
 cases ha:z.cps.all (· < 128)
 .exact wpAny_pyIter_wide ha ⟨s1.heap.objs.size,[s1.heap.objs.size],_,_,H1,rfl,I1.kept (t':=s1.toks) fun b o e=>Heap.get?_push_of_some _ e,Zpn z t _,⟨_,Heap.get?_push_size _ rfl,rfl,rfl⟩,fp,q⟩
 .exact wpAny_pyIter_ascii ha ⟨s1.heap.objs.size,[s1.heap.objs.size],_,_,H1,rfl,I1.kept (t':=s1.toks) fun b o e=>Heap.get?_push_of_some _ e,Zn2 z t _,⟨_,Heap.get?_push_size _ rfl,rfl,rfl⟩,fp,q⟩
def Zi1 (z:Str):List PyData:=z.cps.toList.map fun c=>.str ⟨#[c]⟩
theorem Zrw {C:MC G}    :IterOk C fp ex H1 true (Its z) (Zi1 z):=fun H' _ i=>by
 unfold Zi1
 rw [List.getElem?_map,Array.getElem?_toList]
 refine ⟨fun d hd=>?_,fun hd=>?_⟩
 .obtain ⟨c,hc,rfl⟩:=Option.map_eq_some_iff.mp hd
  refine ⟨(Array.getElem?_eq_some_iff.mp hc).1,fun x H'' hy=>?_⟩
  obtain ⟨rfl,c',hc',rfl⟩:=hy
  rw [hc] at hc'
  cases hc'
  exact ⟨Same.refl _,.str _⟩
 .exact Array.getElem?_eq_none_iff.mp (Option.map_eq_none_iff.mp hd)
def iS (m:MEt):MIt:=fun δ K=>m δ fun r δ'=>match r.data with | .str z=>K (Zi1 z) δ' | _=>False
theorem Z0m (h:ME X io p c e m):MI X io p true tg e (iS m):=by
 obtain ⟨_,A,s⟩:=h
 exact ⟨_,Z0b A,fun C H σ δ fp ex K' Q R h kk=>s C H σ δ fp ex _ _ R h fun H1 v r δ1 fp1 new r1 h1=>by
  have q:=r1.da R
  generalize r.data = d at q h1
  split at h1
  case h_2=>exact h1.elim
  cases q.strInv
  exact ⟨_,rfl,kk _ H1 _ δ1 fp1 r1.base r1.stp Zrw h1⟩⟩
def Z6l (e:FE):FI:=fun δ=>(e δ).bind fun p=>match p.1.data with | .str z=>some (Zi1 z,p.2) | _=>none
theorem Z4n  (h:MI X io p c tg e (iS (o2 fa))):MI X io p c tg e (o2 (Z6l fa)):=h.weak fun δ K z=>by
 obtain ⟨r,δ',h,k⟩:=z
 obtain ⟨⟨x,δ1⟩,h1,h⟩:=bs h
 dsimp only at h
 split at h
 case h_2=>cases h
 rename_i z hz
 cases h
 refine ⟨x,_,h1,?_⟩
 show match x.data with | .str z=>K (Zi1 z) _ | _=>False
 rw [hz]; exact k
def Zpv:List PyData→Option PyData:=fun ds=>match ds with | [.str z]=>if z.length <= sizeLine then some (.int z.length) else none | _=>none
def Z30:List PyData→(PyData→Prop)→Prop:=fun ds k=>∃ d,Zpv ds = some d/\k d
theorem Z0l:∀ ds r k,Zpv ds = some r→k r→Z30 ds k:=fun ds r k h hk=>⟨r,h,hk⟩
theorem Zvv:PNs G (fun xs H Q=>∃ z,xs = [.str z]/\z.length <= sizeLine/\Q (.int z.length) H) Z30:=fun H L xs ds k Q hx h kk=>by
 obtain ⟨d,h,hk⟩:=h
 unfold Zpv at h
 split at h
 case h_2=>cases h
 split at h
 case isFalse=>cases h
 rename_i z hz
 cases h
 cases hx with
 | cons q r0 =>
  cases r0
  cases q.strInv
  exact ⟨z,rfl,hz,kk _ _ (.int _) hk⟩
def Zzk (neg:Bool):PyData→PyData→Option PyData:=fun d e=>match d,e with
 | .str i,.str j=>some (.bool (if neg then !(!(Builtin.Str.occurrences j i 0 j.length 1).isEmpty) else !(Builtin.Str.occurrences j i 0 j.length 1).isEmpty))
 | _,_=>none
def Ya0 (neg:Bool):PyData→PyData→(PyData→Prop)→Prop:=fun d e k=>∃ r,Zzk neg d e = some r/\k r
theorem Z7y {neg:Bool}:ByS (Zzk neg) (Ya0 neg):=fun _ _ r _ h hk=>⟨r,h,hk⟩
def Z81 (neg:Bool):R2:=fun x y H Q=>∃ i j,x = .str i/\y = .str j/\Q (.bl (if neg then !(!(Builtin.Str.occurrences j i 0 j.length 1).isEmpty) else !(Builtin.Str.occurrences j i 0 j.length 1).isEmpty)) H
theorem Zqx:OpR X (compareOp .NotIn) (Z81 true):=Zi3
theorem Z0y {neg:Bool}:P2s G (Z81 neg) (Ya0 neg):=fun H L x y d e k Q hx hy h kk=>by
 obtain ⟨r,h,hk⟩:=h
 unfold Zzk at h
 split at h
 case h_2=>cases h
 cases h
 cases hx.strInv
 cases hy.strInv
 exact ⟨_,_,rfl,rfl,kk _ _ (.bl _) hk⟩
end L2
namespace L2
open PySem PySem.Spec PyProof.Rows
end L2
namespace L2
open PySem PySem.Spec PyProof.Rows
end L2
namespace L2
open PySem PySem.Spec PyProof.Rows
def Z01:List V→Hp→VK→Prop:=fun xs H Q=>∃ z n,xs = [.str z]/\z.length <= 640/\intText? z = some n/\Q (.int n) H
theorem Zne :Zac X (.type "int") Z01:=by
 intro pins s σ H xs us Q I rv h
 obtain ⟨z,n,rfl,hl,hn,q⟩:=h
 obtain ⟨u,rfl,t,rfl⟩:=rv.one
 exact call_int_1 (PySem.W.KIN.gives_text hl hn).meets (show (Made.int n).post _ s from ⟨rfl,.int n,H,I.tok _,⟨_,rfl⟩,q⟩)
def Zoa:List PyData→Option PyData:=fun ds=>match ds with
 | [.str z]=>if z.length <= 640 then (intText? z).bind fun n=>some (.int n) else none
 | _=>none
def Z1h:List PyData→(PyData→Prop)→Prop:=fun ds k=>∃ d,Zoa ds = some d/\k d
theorem Z2m:∀ ds r k,Zoa ds = some r→k r→Z1h ds k:=fun ds r k h hk=>⟨r,h,hk⟩
theorem Zwf :PNs G Z01 Z1h:=fun H L xs ds k Q hx h kk=>by
 obtain ⟨d,h,hk⟩:=h
 unfold Zoa at h
 split at h
 case h_2=>cases h
 rename_i z
 cases hx with
 | cons q r0 =>
  cases r0
  cases q.strInv
  split at h
  case isFalse=>cases h
  rename_i hl
  obtain ⟨n,hn,h⟩:=bs h
  cases h
  exact ⟨z,n,rfl,hl,hn,kk _ _ (.int _) hk⟩
end L2
namespace L2
open PySem PySem.Spec PyProof.Rows
theorem Owns.deepT   {b' q:Addr} {ws ws':List V} {us us':List OT} {c:Nat} (hb:H b' = Option.some (HO.lst ws)) (hL:¬ L b') (hc:∀ cs,Owns G H L ws us cs→∃ cs',Owns G H L ws' us' cs'/\cs'.Sublist cs) (hq:H q = Option.some (HO.tup zs)) (hz:zs[c]? = Option.some (.ref b')) (hr:rs[c]? = Option.some (.nd us)) :
  ∀ {xs:List V} {ts:List OT} {as:List Addr} {j:Nat},Owns G H L xs ts as→as.Nodup→xs[j]? = Option.some (.ref q)→ts[j]? = Option.some (.tp rs)→∃ as',Owns G (upd H b' (.lst ws')) L xs (ts.set j (.tp (rs.set c (.nd us')))) as'/\as'.Sublist as/\b' ∈ as
 | _,_,_,_,.nil,_,e,_=>by simp at e
 | _,_,_,0,.cons (as:=as) (bs:=bs) k t,nd,e,e'=>by
  simp at e e'
  subst e e'
  have nd':=List.nodup_append.mp nd
  have kp:∀ a o,a ≠ b'→H a = Option.some o→upd H b' (.lst ws') a = Option.some o:=fun a o n q=>by rw [Zk n]; exact q
  have f1:∀ a (zs:MuO),L a→Rd H a zs.ho→L a/\Rd (upd H b' (.lst ws')) a zs.ho:=fun a zs l q=>⟨l,by
   have na:a ≠ b':=fun z=>hL (z ▸ l)
   rcases q with q | ⟨u,q⟩
   .exact .inl (kp a _ na q)
   .exact .inr ⟨u,kp a _ na q⟩⟩
  have f2:∀ a (zs:ImO),H a = Option.some zs.ho→upd H b' (.lst ws') a = Option.some zs.ho:=fun a zs q=>kp a _ (fun z=>ImO.nl q (z ▸ hb)) q
  cases k with
  | tp h r =>
   rename_i xs0
   rw [hq] at h
   cases h
   obtain ⟨cs',o',s',m'⟩:=Owns.deep hb hL hc r nd'.1 hz hr
   have nq:q ≠ b':=fun z=>by rw [z,hb] at hq; cases hq
   exact ⟨cs' ++ bs,.cons (.tp (by rw [Zk nq]; exact hq) o') (t.frame f1 f2 fun a m zs q=>kp a _ (fun z=>nd'.2.2 b' m' a m z.symm) q),List.Sublist.append_right s' bs,List.mem_append_left _ m'⟩
 | _,_,_,j + 1,.cons (as:=as) (bs:=bs) k t,nd,e,e'=>by
  have nd':=List.nodup_append.mp nd
  obtain ⟨as',o,s,m⟩:=Owns.deepT hb hL hc hq hz hr (j:=j) t nd'.2.1 (by simpa using e) (by simpa using e')
  have nb:b' ∉ as:=fun z=>nd'.2.2 b' z b' m rfl
  refine ⟨as ++ as',.cons ?_ o,List.Sublist.append_left s as,List.mem_append_right _ m⟩
  have kp:∀ a o,a ≠ b'→H a = Option.some o→upd H b' (.lst ws') a = Option.some o:=fun a o n q=>by rw [Zk n]; exact q
  refine k.frame (fun a zs l q=>⟨l,?_⟩) (fun a zs q=>kp a _ (fun z=>ImO.nl q (z ▸ hb)) q) fun a m' zs q=>kp a _ (fun z=>nb (z ▸ m')) q
  have na:a ≠ b':=fun z=>hL (z ▸ l)
  rcases q with q | ⟨u,q⟩
  .exact .inl (kp a _ na q)
  .exact .inr ⟨u,kp a _ na q⟩
def Ztb (c:Nat) (d:PyData):OT→OT
 | .tp rs=>.tp (match rs[c]? with | some (.nd us)=>rs.set c (.nd (us ++ [.fz d])) | _=>rs)
 | t=>t
def Zq1 (c:Nat) (d:PyData) (k:Nat) (ts:List OT):List OT:=(ts.take k).map (Ztb c d) ++ ts.drop k
theorem Zou (c:Nat) (d:PyData) (ts:List OT):Zq1 c d 0 ts = ts:=by simp [Zq1]
theorem Zs8 (c:Nat) (d:PyData) (ts:List OT):Zq1 c d ts.length ts = ts.map (Ztb c d):=by simp [Zq1]
theorem Zsr {c:Nat} {d:PyData} {k:Nat}  {t:OT} (h:ts[k]? = some t):(Zq1 c d k ts)[k]? = some t:=by
 obtain ⟨hk,e⟩:=List.getElem?_eq_some_iff.mp h
 unfold Zq1
 rw [List.getElem?_append_right (by simp; omega)]
 simp [Nat.min_eq_left (Nat.le_of_lt hk),h]
theorem Zse {c:Nat} {d:PyData} {k:Nat}  {t:OT} (h:ts[k]? = some t):(Zq1 c d k ts).set k (Ztb c d t) = Zq1 c d (k + 1) ts:=by
 obtain ⟨hk,e⟩:=List.getElem?_eq_some_iff.mp h
 unfold Zq1
 have hl:((ts.take k).map (Ztb c d)).length = k:=by simp [Nat.min_eq_left (Nat.le_of_lt hk)]
 rw [List.set_append_right _ _ (by omega),hl,Nat.sub_self,List.drop_eq_getElem_cons hk,e,List.set_cons_zero,List.take_succ_eq_append_getElem hk,e,List.map_append,List.append_assoc]
 rfl
section
variable    {pt kp sp:Pos}  
end
section
variable    {c:Nat} {d:PyData}
end
end L2
namespace L2
open PySem PySem.Spec PyProof.Rows
theorem Owns.split  :∀ {xs:List V} {ts:List OT} {as:List Addr},Owns G H L xs ts as→∃ ass:List (List Addr),ass.length = xs.length/\ass.flatten = as/\∀ (k:Nat) (x:V) (t:OT) (b:List Addr),xs[k]? = Option.some x→ts[k]? = Option.some t→ass[k]? = Option.some b→Own G H L x t b
 | _,_,_,.nil=>⟨[],rfl,rfl,fun k x t b e=>by simp at e⟩
 | _,_,_,.cons (as:=as) (bs:=bs) h r=>by
  obtain ⟨ass,e1,e2,h2⟩:=Owns.split r
  refine ⟨as :: ass,by rw [List.length_cons,List.length_cons,e1],by rw [List.flatten_cons,e2],fun k x t b q1 q2 q3=>?_⟩
  cases k with
  | zero =>
   simp at q1 q2 q3
   subst q1 q2 q3
   exact h
  | succ k=>exact h2 k x t b (by simpa using q1) (by simpa using q2) (by simpa using q3)
section
variable       {kd:PyData→Option α} {lt:α→α→Bool}
end
section
variable      {kd:PyData→Option α} {lt:α→α→Bool}
end
end L2
namespace L2
open PySem PySem.Spec PyProof.Rows
section
variable    {a:Expr}  
end
end L2
namespace L2
open PySem PySem.Spec PyProof.Rows
def Sg (z:Str) (t:Tok) (it:Addr) (i:Nat) (h:Heap):Prop:=h.IsStrIter it "str_ascii_iterator" z t i\/h.IsStrIter it "str_iterator" z t i
structure Ap (z TI TO i1 i2:Addr):Prop where
 a1:TI ≠ z
 a2:TO ≠ z
 a3:i1 ≠ z
 a4:i2 ≠ z
 a5:i1 ≠ TO
 a6:i2 ≠ TO
 a7:i1 ≠ i2
 a8:TI ≠ TO
 a9:TI ≠ i1
 a10:TI ≠ i2
abbrev yT1 (h:Heap) (x:Str) (t:Tok):Heap:=h.push { cls:=.type (strIterType x),data:=.fields #[.str x t,.int 0 0] }
abbrev yT2 (h:Heap) (x y:Str) (t u:Tok):Heap:=yT1 (yT1 h x t) y u
abbrev yT3 (h:Heap) (x y:Str) (t u:Tok):Heap:=(yT2 h x y t u).push { cls:=.type "tuple", data:=.seq #[.ref h.objs.size,.ref (yT1 h x t).objs.size] }
abbrev yT4 (h:Heap) (x y:Str) (t u:Tok):Heap:=(yT3 h x y t u).push { cls:=.type "tuple", data:=.seq #[.none,.none] }
abbrev yT5 (h:Heap) (x y:Str) (t u:Tok):Heap:=(yT4 h x y t u).push { cls:=.type "zip", data:=.fields #[.none,.bool false,.bool false,.ref (yT2 h x y t u).objs.size,.ref (yT3 h x y t u).objs.size] }
theorem Sg.at   {t:Tok} {it:Addr} (e:h.get? it = some { cls:=.type (strIterType x),data:=.fields #[.str x t,.int 0 0] }):Sg x t it 0 h:=by
 unfold strIterType at e
 split at e
 .exact .inl ⟨_,e,rfl,rfl⟩
 .exact .inr ⟨_,e,rfl,rfl⟩
section
variable    {a:Expr}  
end
end L2
namespace L2
open PySem PySem.Spec PyProof.Rows
section
variable      {fp:List Addr} {n:Nat}  {St:Nat→Heap→Prop}
end
section
variable    {a:Expr}  {t:TA}  
end
end L2
namespace L2
open PySem PySem.Spec PyProof.Rows
section
variable   {test:Expr} {rs:List Stmt}  {g:MGt} {mt:MTt} {ur:MSt} {pi:Pos}    {t:FT} {r:FS}
end
section
variable       {pt:Pos} 
end
theorem Znu {n:Int} (hg:Gl X x) (hm:∃ t,X.mg x = some (.int n t)) (hdb:(x == ("__debug__" : Str)) = false:=by decide):ME X io true true (.Name x pos) (mC (.int n)):=by
 obtain ⟨t,h⟩:=hm
 exact Z1l hg h hdb
theorem Zjy  (hg:Gl X x) (hm:∃ t,X.mg x = some (.str z t)) (hdb:(x == ("__debug__" : Str)) = false:=by decide):ME X io true true (.Name x pos) (mC (.str z)):=by
 obtain ⟨t,h⟩:=hm
 exact Z25 hg h hdb
end L2
namespace L2
end L2
namespace L2
open PySem PySem.Spec PyProof.Rows
def Zzg:OT→Bool
 | .tp [.nd us,_]=>decide (us.length < sizeLine)
 | _=>false
theorem Zrf {t:OT} (h:Zzg t = true):∃ us u,t = .tp [.nd us,u]/\us.length < sizeLine:=by
 unfold Zzg at h
 split at h
 .exact ⟨_,_,rfl,of_decide_eq_true h⟩
 .cases h
section
variable    {pt kp sp pt1:Pos} {k:Nat} 
end
section
variable    {k c0:Nat} {d:PyData}
end
section
variable   {ptt:Pos}    {kd:PyData→Option α} {lt:α→α→Bool} 
end
section
variable      {kd:PyData→Option α} {lt:α→α→Bool} {d:PyData}
end
end L2
namespace L2
open PySem PySem.Spec PyProof.Rows PySem.W
structure TmS where
 p:Array Nat
 q:Array (Nat × Nat × Nat)
 g:Nat
def TM (α:Type):Type:=TmS→KasT (Option (α × TmS))
def TM.nxt  (f:α→TM β):Option (α × TmS)→KasT (Option (β × TmS))
 | none=>.ret none
 | some r=>f r.1 r.2
noncomputable instance:Monad TM where
 pure a:=fun t=>.ret (some (a,t))
 bind m f:=fun t=>(m t).bind (TM.nxt f)
def Zri :TM α:=fun _=>.ret none
def Z2k (i j:Nat):TM (Option Bool):=fun t=>.ask i j fun b=>.ret (some (some b,t))
def Ybj (l:List Nat):Nat→Option Nat:=List.rec (motive:=fun _=>Nat→Option Nat) (fun _=>none) (fun x _ ih i=>Nat.rec (motive:=fun _=>Option Nat) (some x) (fun j _=>ih j) i) l
def Zet (a:Array Nat) (i:Nat):TM Nat:=match Ybj a.toList i with | some x=>pure x | none=>Zri
def fcN  (n:Nat) (k:Nat→β):β:=Nat.rec (motive:=fun _=>β) (k 0) (fun m _=>k (m + 1)) n
def fcL  (l:List Nat):(List Nat→β)→β:=List.rec (motive:=fun _=>(List Nat→β)→β) (fun k=>k []) (fun x _ ih k=>fcN x fun y=>ih fun m=>k (y :: m)) l
def fcQ  (l:List (Nat × Nat × Nat)):(List (Nat × Nat × Nat)→β)→β:=List.rec (motive:=fun _=>(List (Nat × Nat × Nat)→β)→β) (fun k=>k []) (fun x _ ih k=>fcN x.1 fun a=>fcN x.2.1 fun b=>fcN x.2.2 fun c=>ih fun m=>k ((a,b,c) :: m)) l
def fcT  (t:TmS) (k:TmS→β):β:=fcL t.p.toList fun p=>fcQ t.q.toList fun q=>fcN t.g fun g=>k ⟨⟨p⟩,⟨q⟩,g⟩
def Zgx:TM TmS:=fun t=>.ret (some (t,t))
def Zjn (f:TmS→TmS):TM PUnit:=fun t=>fcT (f t) fun t=>.ret (some (⟨⟩,t))
def Zzy :List Nat→β→(Nat→β→TM (ForInStep β))→TM β
 | [],b,_=>pure b
 | x :: l,b,f=>do
  match <- f x b with
  | .done b=>pure b
  | .yield b=>Zzy l b f
section
variable      {it:Array Keyed}
variable {α' β':Type}
end
end L2
namespace L2
open PySem PySem.Spec PyProof.Rows PySem.W
structure Rg where
 a:Nat
 b:Nat
noncomputable instance:ForIn TM Rg Nat where
 forIn r b f:=Zzy (List.range' r.a (r.b - r.a)) b f
def Zrg (le:Bool) (key:Nat) (arr:Array Nat) (base i:Nat):TM (Option Bool):=do
 let x <- Zet arr (base + i)
 if le then Z2k x key else return (<- Z2k key x).map (!·)
def Zmf (le:Bool) (key:Nat) (arr:Array Nat) (base n hint:Nat):TM (Option Nat):=do
 let mut last:=0
 let mut ofs:=1
 let mut lo:=0
 let mut hi:=0
 let some right <- Zrg le key arr base hint | return none
 if right then
  let most:=n - hint
  for _ in Rg.mk 0 n do
   if ofs >= most then break
   let some more <- Zrg le key arr base (hint + ofs) | return none
   if !more then break
   last:=ofs
   ofs:=2 * ofs + 1
  lo:=hint + last + 1
  hi:=hint + min ofs most
 else
  let most:=hint + 1
  for _ in Rg.mk 0 n do
   if ofs >= most then break
   let some more <- Zrg le key arr base (hint - ofs) | return none
   if more then break
   last:=ofs
   ofs:=2 * ofs + 1
  lo:=hint + 1 - min ofs most
  hi:=hint - last
 for _ in Rg.mk 0 n do
  if lo >= hi then break
  let m:=lo + (hi - lo) / 2
  let some more <- Zrg le key arr base m | return none
  if more then lo:=m + 1 else hi:=m
 return some hi
section
variable      {it:Array Keyed} 
end
end L2
namespace L2
open PySem PySem.Spec PyProof.Rows PySem.W
def Zlp (g:Nat):TM PUnit:=Zjn fun t=>{ t with g:=g }
def Ybr (a b:Array Nat):TM (Array Nat):=do
 let total:=a.size + b.size
 let fin (out:Array Nat) (i j:Nat):=out ++ a.extract i a.size ++ b.extract j b.size
 let lst (out:Array Nat) (i j:Nat):=out ++ b.extract j b.size ++ a.extract i a.size
 let mut out:Array Nat:=#[<- Zet b 0]
 let mut i:=0
 let mut j:=1
 if j == b.size then return fin out i j
 if i + 1 == a.size then return lst out i j
 let mut mg:=(<- Zgx).g
 for _ in Rg.mk 0 total do
  let mut na:=0
  let mut nb:=0
  for _ in Rg.mk 0 total do
   let some c <- Z2k (<- Zet b j) (<- Zet a i) | return fin out i j
   if c then
    out:=out.push (<- Zet b j); j:=j + 1; nb:=nb + 1; na:=0
    if j == b.size then return fin out i j
    if nb >= mg then break
   else
    out:=out.push (<- Zet a i); i:=i + 1; na:=na + 1; nb:=0
    if i + 1 == a.size then return lst out i j
    if na >= mg then break
  mg:=mg + 1
  for _ in Rg.mk 0 total do
   if mg > 1 then mg:=mg - 1
   Zlp mg
   let some k <- Zmf false (<- Zet b j) a i (a.size - i) 0 | return fin out i j
   na:=k
   if k > 0 then
    out:=out ++ a.extract i (i + k); i:=i + k
    if i + 1 == a.size then return lst out i j
    if i == a.size then return fin out i j
   out:=out.push (<- Zet b j); j:=j + 1
   if j == b.size then return fin out i j
   let some k <- Zmf true (<- Zet a i) b j (b.size - j) 0 | return fin out i j
   nb:=k
   if k > 0 then
    out:=out ++ b.extract j (j + k); j:=j + k
    if j == b.size then return fin out i j
   out:=out.push (<- Zet a i); i:=i + 1
   if i + 1 == a.size then return lst out i j
   if na < 7 && nb < 7 then break
  mg:=mg + 1
  Zlp mg
 Zri
end L2
variable {γ:Type}
namespace L2
open PySem PySem.Spec PyProof.Rows PySem.W
section
variable      {it:Array Keyed} 
end
end L2
namespace L2
open PySem PySem.Spec PyProof.Rows PySem.W
def Yck (a b:Array Nat):TM (Array Nat):=do
 let total:=a.size + b.size
 let fin (out:Array Nat) (i j:Nat):=a.extract 0 i ++ b.extract 0 j ++ out.reverse
 let fst (out:Array Nat) (i j:Nat):=b.extract 0 j ++ a.extract 0 i ++ out.reverse
 let mut i:=a.size - 1
 let mut j:=b.size
 let mut out:Array Nat:=#[<- Zet a i]
 if i == 0 then return fin out i j
 if j == 1 then return fst out i j
 let mut mg:=(<- Zgx).g
 for _ in Rg.mk 0 total do
  let mut na:=0
  let mut nb:=0
  for _ in Rg.mk 0 total do
   let some c <- Z2k (<- Zet b (j - 1)) (<- Zet a (i - 1)) | return fin out i j
   if c then
    i:=i - 1; out:=out.push (<- Zet a i); na:=na + 1; nb:=0
    if i == 0 then return fin out i j
    if na >= mg then break
   else
    j:=j - 1; out:=out.push (<- Zet b j); nb:=nb + 1; na:=0
    if j == 1 then return fst out i j
    if nb >= mg then break
  mg:=mg + 1
  for _ in Rg.mk 0 total do
   if mg > 1 then mg:=mg - 1
   Zlp mg
   let some x <- Zmf false (<- Zet b (j - 1)) a 0 i (i - 1) | return fin out i j
   let k:=i - x
   na:=k
   if k > 0 then
    out:=out ++ (a.extract x i).reverse; i:=x
    if i == 0 then return fin out i j
   j:=j - 1; out:=out.push (<- Zet b j)
   if j == 1 then return fst out i j
   let some x <- Zmf true (<- Zet a (i - 1)) b 0 j (j - 1) | return fin out i j
   let k:=j - x
   nb:=k
   if k > 0 then
    out:=out ++ (b.extract x j).reverse; j:=x
    if j == 1 then return fst out i j
    if j == 0 then return fin out i j
   i:=i - 1; out:=out.push (<- Zet a i)
   if i == 0 then return fin out i j
   if na < 7 && nb < 7 then break
  mg:=mg + 1
  Zlp mg
 Zri
section
variable      {it:Array Keyed} 
end
end L2
namespace L2
open PySem PySem.Spec PyProof.Rows PySem.W
def Zl4 (i j:Nat):TM (Option Bool):=do
 let t <- Zgx
 let x <- Zet t.p i
 let y <- Zet t.p j
 Z2k x y
def Ztu (i j:Nat):TM PUnit:=Zjn fun t=>{ t with p:=kas_rev t.p i j }
def mvL (l:List Nat) (i d:Nat):List Nat:=l.take (i - d) ++ ((l.drop i).take 1 ++ ((l.drop (i - d)).take d ++ l.drop (i + 1)))
def Ych (p:Array Nat) (i j:Nat):Array Nat:=if (Nat.blt i p.toList.length && Nat.ble j i) = true then ⟨mvL p.toList i (i - j)⟩ else bubble p i (i - j)
def Z5o (i j:Nat):TM PUnit:=Zjn fun t=>{ t with p:=Ych t.p i j }
def Z7i (lo m:Nat):TM (Option Nat):=do
 let mut n:=1
 for _ in Rg.mk 1 m do
  let some c <- Zl4 (lo + n) (lo + n - 1) | return none
  if c then break
  n:=n + 1
 if n == m then return some n
 if n > 1 then
  let some c <- Zl4 lo (lo + n - 1) | return none
  if c then return some n
  Ztu lo (lo + n)
 n:=n + 1
 let mut e:=0
 for _ in Rg.mk n m do
  let some c <- Zl4 (lo + n) (lo + n - 1) | return none
  if c then
   if e > 0 then Ztu (lo + n - (e + 1)) (lo + n)
   e:=0
  else
   let some d <- Zl4 (lo + n - 1) (lo + n) | return none
   if d then break
   e:=e + 1
  n:=n + 1
 if e > 0 then Ztu (lo + n - (e + 1)) (lo + n)
 Ztu lo (lo + n)
 for _ in Rg.mk n m do
  let some c <- Zl4 (lo + n) (lo + n - 1) | return none
  if c then break
  n:=n + 1
 return some n
def Z56 (lo n ok:Nat):TM Bool:=do
 for k in Rg.mk (max ok 1) n do
  let mut l:=0
  let mut r:=k
  for _ in Rg.mk 0 k do
   if l >= r then break
   let m:=(l + r) / 2
   let some c <- Zl4 (lo + k) (lo + m) | return false
   if c then r:=m else l:=m + 1
  Z5o (lo + k) (lo + l)
 return true
section
variable      {it:Array Keyed} 
end
end L2
namespace L2
open PySem PySem.Spec PyProof.Rows PySem.W
def layA  (k:Nat) (m a:Array γ):Array γ:=m.toList.zipIdx.foldl (fun a q=>a.setIfInBounds (k + q.2) q.1) a
def Ya3 (i:Nat):TM Bool:=do
 let t <- Zgx
 let (some (c,n,u),some (d,m,_)):=(t.q[i]?,t.q[i + 1]?) | Zri
 Zjn fun _=>{ t with q:=(t.q.setIfInBounds i (c,n + m,u)).eraseIdxIfInBounds (i + 1) }
 let some k <- Zmf false (<- Zet t.p d) t.p c n 0 | return false
 let (c,n):=(c + k,n - k)
 if n == 0 then return true
 let some m <- Zmf true (<- Zet t.p (c + n - 1)) t.p d m (m - 1) | return false
 if m == 0 then return true
 let x:=t.p.extract c d
 let y:=t.p.extract d (d + m)
 let z <- if n <= m then Ybr x y else Yck x y
 Zjn fun t=>{ t with p:=layA c z t.p }
 let _ <- Zgx
 return true
section
variable      {it:Array Keyed} 
def Z3a:TM PUnit:=do
 let sz:=(<- Zgx).p.size
 let mr:=minRun' sz sz 0
 let mut lo:=0
 for _ in Rg.mk 0 sz do
  if lo >= sz then break
  let some f <- Z7i lo (sz - lo) | return
  let mut n:=f
  if n < mr then
   let fo:=min (sz - lo) mr
   if !(<- Z56 lo fo n) then return
   n:=fo
  if let some (c,m,_):=(<- Zgx).q.back? then
   let u:=power' sz (2 * c + m) (2 * c + m + m + n) sz
   for _ in Rg.mk 0 sz do
    let z:=(<- Zgx).q
    let some (_,_,v):=(if z.size > 1 then z[z.size - 2]? else none) | break
    if v <= u then break
    if !(<- Ya3 (z.size - 2)) then return
   Zjn fun t=>{ t with q:=t.q.modify (t.q.size - 1) fun (c,m,_)=>(c,m,u) }
  Zjn fun t=>{ t with q:=t.q.push (lo,n,0) }
  lo:=lo + n
 for _ in Rg.mk 0 sz do
  let z:=(<- Zgx).q
  if z.size <= 1 then break
  let k:=z.size - 2
  let bf:=if k > 0 then z[k - 1]?.map (·.2.1) else none
  let k:=if bf.any (· < (z[k + 1]?.elim 0 (·.2.1))) then k - 1 else k
  if !(<- Ya3 k) then return
end
end L2
namespace L2
open PySem PySem.Spec PyProof.Rows PySem.W
def Z8v  (lt:Nat→Nat→Bool) (n:Nat):KasT α→Option α
 | .ret a=>some a
 | .ask i j k=>if (Nat.blt i n && Nat.blt j n) = true then Z8v lt n (k (lt i j)) else none
def Zv9 (lt:Nat→Nat→Bool) (n:Nat):Option (List Nat):=(Z8v lt n (Z3a ⟨(List.range n).toArray,#[],7⟩)).bind fun o=>o.map fun r=>r.2.p.toList
def Ycp  (d:α) (l:List Nat) (vs:List α):List α:=l.map fun i=>vs.getD i d
section
variable   {kd:PyData→Option α} {lt:α→α→Bool}
def Z1y (kd:PyData→Option α) (lt:α→α→Bool):List PyData→Option OT:=fun ds=>match ds with
 | [.list es]=>(Zv9 (lk kd lt es) es.length).bind fun p=>if (decide (2 <= es.length) && decide (es.length <= 10000) && decide (p.length = es.length) && es.all fun d=>(kd d).isSome) = true then some (.nd ((Ycp .none p es).map OT.fz)) else none
 | _=>none
def Z8m (kd:PyData→Option α) (lt:α→α→Bool):List PyData→Option OT:=fun ds=>match Zh4 kd lt ds with | some o=>some o | none=>Z1y kd lt ds
end
end L2
namespace L2
open PySem PySem.Spec
def EvP (e:FE) (δ:Zc) (Q:PyData→Zc→Prop):Prop:=∃ t δ',e δ = some (t,δ')/\Q t.data δ'
def EpT (t:FT) (δ:Zc) (Q:Bool→Zc→Prop):Prop:=∃ b δ',t δ = some (b,δ')/\Q b δ'
def EpS (S:FS) (δ:Zc) (N:Zc→Prop) (R:PyData→Zc→Prop):Prop:=(∃ δ',S δ = .nx δ'/\N δ')\/∃ o δ',S δ = .rt o δ'/\R o.data δ'
section
variable {e a b:FE} {as:FA}  {Q:PyData→Zc→Prop} {QA:List PyData→Zc→Prop} {T:Bool→Zc→Prop} {t u:FT}  {N:Zc→Prop} {R:PyData→Zc→Prop}  {d:PyData}
theorem Zfr (h:EvV e δ d) (q:Q d δ):EvP e δ Q:=by
 obtain ⟨t,e1,e2⟩:=h
 exact ⟨t,δ,e1,e2 ▸ q⟩
theorem Zd7  (h:EvT t δ p) (q:T p δ):EpT t δ T:=⟨p,δ,h,q⟩
theorem Zkm (h:EpS S δ (fun δ'=>EpS S' δ' N R) R):EpS (Yd S S') δ N R:=by
 rcases h with ⟨δ',e,h⟩ | ⟨o,δ',e,h⟩
 .rcases h with ⟨δ2,e2,q⟩ | ⟨o,δ2,e2,q⟩
  .exact .inl ⟨δ2,by rw [Ze6,e,Zpk,e2],q⟩
  .exact .inr ⟨o,δ2,by rw [Ze6,e,Zpk,e2],q⟩
 .exact .inr ⟨o,δ',by rw [Ze6,e,Zut],h⟩
theorem Zg3 (h:EvP e δ R):EpS (wE e Wl) δ N R:=by
 obtain ⟨t,δ',e1,q⟩:=h
 exact .inr ⟨t,δ',by rw [Zbn,e1]; rfl,q⟩
theorem Zpr (h:EpT t δ fun p δ'=>(p = true→EpS S δ' N R)/\(p = false→EpS S' δ' N R)):EpS (W6 t S S') δ N R:=by
 obtain ⟨p,δ',e1,q1,q2⟩:=h
 have e:W6 t S S' δ = if p = true then S δ' else S' δ':=by unfold W6; rw [e1]
 cases p with
 | true =>
  have g:=q1 rfl
  unfold EpS at g |-
  rw [e]; exact g
 | false =>
  have g:=q2 rfl
  unfold EpS at g |-
  rw [e]; exact g
theorem Zqv (q:N δ):EpS fNx δ N R:=.inl ⟨δ,rfl,q⟩
theorem Zsm {g:FG} (I:Nat→Zc→Prop) (ds:List PyData) (m:Nat) (h0:I m δ) (turn:∀ (k:Nat) (d:PyData) (δ:Zc),ds[k]? = some d→I (m + k) δ→∃ δ1,g d δ = some δ1/\EpS S δ1 (I (m + k + 1)) R) (fin:∀ δ',I (m + ds.length) δ'→N δ') :
  (∃ δ',forLoop g S ds δ = .nx δ'/\N δ')\/∃ o δ',forLoop g S ds δ = .rt o δ'/\R o.data δ':=by
 induction ds generalizing m δ with
 | nil=>exact .inl ⟨δ,rfl,fin δ h0⟩
 | cons d ds ih =>
  obtain ⟨δ1,e1,h⟩:=turn 0 d δ rfl h0
  rcases h with ⟨δ2,e2,q⟩ | ⟨o,δ2,e2,q⟩
  .have e:forLoop g S (d :: ds) δ = forLoop g S ds δ2:=by rw [forLoop,e1]; show (match S δ1 with | .nx δ2=>_ | .ct δ2=>_ | .bk δ2=>_ | r=>_) = _; rw [e2]
   rw [e]
   refine ih (m + 1) q (fun k d' δ' hk hI=>?_) fun δ' hI=>fin δ' (by rw [List.length_cons]; rw [show m + 1 + ds.length = m + (ds.length + 1) by omega] at hI; exact hI)
   have:=turn (k + 1) d' δ' hk (by rw [show m + (k + 1) = m + 1 + k by omega]; exact hI)
   rwa [show m + (k + 1) + 1 = m + 1 + k + 1 by omega] at this
  .refine .inr ⟨o,δ2,?_,q⟩
   rw [forLoop,e1]; show (match S δ1 with | .nx δ2=>_ | .ct δ2=>_ | .bk δ2=>_ | r=>_) = _; rw [e2]
theorem Zo3  {g:FG}  {δ0:Zc} (I:Nat→Zc→Prop) (hi:it δ = some (ds,δ0)) (h0:I 0 δ0) (turn:∀ (k:Nat) (d:PyData) (δ:Zc),ds[k]? = some d→I k δ→∃ δ1,g d δ = some δ1/\EpS S δ1 (I (k + 1)) R) (fin:∀ δ',I ds.length δ'→N δ'):EpS (Zea it g S) δ N R:=by
 have e:Zea it g S δ = forLoop g S ds δ0:=by unfold Zea; rw [hi]
 have h:=Zsm (R:=R) (N:=N) (S:=S) (g:=g) (δ:=δ0) I ds 0 h0 (fun k d δ hk hI=>by rw [Nat.zero_add] at hI |-; exact turn k d δ hk hI) (fun δ' hI=>by rw [Nat.zero_add] at hI; exact fin δ' hI)
 unfold EpS
 rw [e]; exact h
theorem Z5s {g:FG} (I:Nat→List PyData→Zc→Prop) (ds:List PyData) (m:Nat) (acc:List PyData) (h0:I m acc δ) (turn:∀ (k:Nat) (d:PyData) (acc:List PyData) (δ:Zc),ds[k]? = some d→I (m + k) acc δ→∃ δ1,g d δ = some δ1/\EpT t δ1 fun p δ2=>(p = true→EvP e δ2 fun d δ3=>I (m + k + 1) (acc ++ [d]) δ3)/\(p = false→I (m + k + 1) acc δ2)) :
  ∃ ts δ',compLoop g t e ds δ = some (ts,δ')/\I (m + ds.length) (acc ++ ts.map OT.data) δ':=by
 induction ds generalizing m acc δ with
 | nil=>exact ⟨[],δ,rfl,by rw [List.map_nil,List.append_nil]; exact h0⟩
 | cons d ds ih =>
  obtain ⟨δ1,e1,p,δ2,e2,q1,q2⟩:=turn 0 d acc δ rfl h0
  have next:∀ (k:Nat) (d:PyData) (acc:List PyData) (δ:Zc),ds[k]? = some d→I (m + 1 + k) acc δ→∃ δ1,g d δ = some δ1/\EpT t δ1 fun p δ2=>(p = true→EvP e δ2 fun d δ3=>I (m + 1 + k + 1) (acc ++ [d]) δ3)/\(p = false→I (m + 1 + k + 1) acc δ2):=fun k d acc δ hk hI=>by
   have:=turn (k + 1) d acc δ hk (by rw [show m + (k + 1) = m + 1 + k by omega]; exact hI)
   rwa [show m + (k + 1) + 1 = m + 1 + k + 1 by omega] at this
  have el:m + 1 + ds.length = m + (ds.length + 1):=by omega
  cases p with
  | true =>
   obtain ⟨o,δ3,e3,hI⟩:=q1 rfl
   obtain ⟨ts,δ',e4,hf⟩:=ih (m + 1) (acc ++ [o.data]) hI next
   refine ⟨o :: ts,δ',?_,?_⟩
   .rw [compLoop,e1]; show (t δ1).bind _ = _; rw [e2]; show (e δ2).bind _ = _; rw [e3]; show (compLoop g t e ds δ3).bind _ = _; rw [e4]; rfl
   .rw [List.length_cons,<- el,List.map_cons]; rw [List.append_assoc] at hf; exact hf
  | false =>
   obtain ⟨ts,δ',e4,hf⟩:=ih (m + 1) acc (q2 rfl) next
   refine ⟨ts,δ',?_,by rw [List.length_cons,<- el]; exact hf⟩
   rw [compLoop,e1]; show (t δ1).bind _ = _; rw [e2]; exact e4
end
end L2
namespace L2
open PySem PySem.Spec PyProof.Rows
section
variable    {a:Expr} {mi:MEt}    
end
end L2
namespace L2
open PySem PySem.Spec PyProof.Rows
section
variable        {p3:Pos}
end
section
variable        {u:FS}
end
end L2
namespace L2
open PySem PySem.Spec PyProof.Rows
section
variable     {u:FS}
end
end L2
namespace L2
open PySem PySem.Spec PyProof.Rows
def Zls (i j k:Nat) (d:PyData):MSt:=fun D δ=>match δ[i]? with
 | some (some (.nd ts))=>(j < δ.length/\k < δ.length/\∀ t ∈ ts,Zzg t = true)/\D.nx (((δ.set i (some (.nd (ts.map (Ztb 0 d))))).set j none).set k none)
 | _=>False
section
variable    {pt pt1:Pos} {k:Nat} 
theorem Zsl (i j k:Nat) {k3:Nat} {v0:V} {d:PyData} (he:PE X e (tC v0)) (hsc:ScD v0 d) (hc:X.calm = true) (nd:X.N.Nodup) (hN:X.N[i]? = some x) (hj:X.N[j]? = some y) (hk:X.N[k]? = some z) (hij:j ≠ i/\k ≠ i/\j ≠ k) (hlj:Loc X.env.scope y) (hlk:Loc X.env.scope z) (hio:j ∉ io/\k ∉ io:=by decide)
  (hv:Vis X.env.scope x:=by first | exact Or.inl rfl | exact Or.inr (Or.inl rfl) | exact Or.inr (Or.inr rfl)) (hvy:Vis X.env.scope y:=by first | exact Or.inl rfl | exact Or.inr (Or.inl rfl) | exact Or.inr (Or.inr rfl))
  (hd:(x == ("__debug__" : Str)) = false:=by decide) (hcd:(x == ("__classdict__" : Str)) = false:=by decide) (hdy:(y == ("__debug__" : Str)) = false:=by decide) (hcdy:(y == ("__classdict__" : Str)) = false:=by decide)
  (hxe:X.xe = fun _ _=>False:=by rfl)
  (hbase:attributeBase (.Name y px) "append" X.env (eval (.Name y px) X.env) = eval (.Name y px) X.env:=by rfl)
  (hfew:((backTo cpos (starEach [e] X.env)).all (fun x=>!x.1) && (backToKw cpos (keywordEach [] X.env)).all (fun x=>x.1.isSome)
   && decide ([e].length + ([]:List Keyword).length + (if ([]:List Keyword).isEmpty then 0 else 1) < 30)) = true:=by rfl)
  (hline:(apos.endLine == cpos.line) = true:=by rfl) (hs:starEach [e] X.env = (false,eval e X.env) :: starEach [] X.env:=by rfl) (hplain:(backTo cpos (starEach [] X.env)).any (·.1) = false:=by rfl)
  (hsw:swapsWith (.Call (.Attribute (.Name y px) "append" apos) [e] [] cpos) none p2.line X.env = pure false:=by rfl) (hfs:∀ z,foldedSetIterable (.Name x pl) X.env z = pure z:=by intro _; rfl)
  (hf:X.fn y = true\/X.env.scope.names.lookup y = some .local:=by first | exact .inl rfl | exact .inr rfl | assumption) (hf2:X.fn z = true\/X.env.scope.names.lookup z = some .local:=by first | exact .inl rfl | exact .inr rfl | assumption)
  (hn:(assignEach [.Name y pt1,.Name z pt2] X.env).length = 2:=by rfl) (hst:(assignEach [.Name y pt1,.Name z pt2] X.env).findIdx? (·.1) = none:=by rfl)
  (ha1:(assignEach (.Name y pt1 :: [.Name z pt2]) X.env).map (·.2) = assign (.Name y pt1) X.env :: (assignEach [.Name z pt2] X.env).map (·.2):=by rfl) (ha2:(assignEach (.Name z pt2 :: []) X.env).map (·.2) = assign (.Name z pt2) X.env :: (assignEach [] X.env).map (·.2):=by rfl) :
  MS X io (.For (.Tuple [.Name y pt1,.Name z pt2] k3 pt) (.Name x pl) [.Expr (.Call (.Attribute (.Name y px) "append" apos) [e] [] cpos) p2] [] pos) (Zls i j k d):=by
 refine ⟨_,Zvq (by rw [hxe]; exact PassesOwn.never) hc (Zm8 (pv i hN hv hd hcd)) (Zu1 hc (Zgz (Zjz (i:=j) nd hj hlj (hf:=hf)) (Zgz (Zjz (i:=k) nd hk hlk (hf:=hf2)) Zqf ha2) ha1) hn hst) (Zqa (Zke (Zsq PySem.F.plainAttrs_list PySem.F.slot_list_append PySem.F.type_list_append Zfj (pv j hj hvy hdy hcdy) (Ze7 he Zky hs) hbase hfew hline hs hplain) hsw)) hfs,fun C H σ δ fp ex D D' R h E=>?_⟩
 unfold Zls at h
 split at h
 case h_2=>exact h.elim
 rename_i ts hi
 obtain ⟨a',xs,bs,hv0,hx,ow,hfp⟩:=R.ownNd hi
 have ndi:=R.nd i
 rw [hfp] at ndi
 have hnd:=List.nodup_cons.mp ndi
 have notL:∀ a ∈ fp i,¬ Lf C fp ex a:=fun a m l=>l.1 ⟨i,m⟩
 refine ⟨_,hv0,a',rfl,⟨xs,.inl (.inl hx)⟩,?_⟩
 have inF:∀ a ∈ a' :: bs,a ∈ fp i:=fun a m=>by rw [hfp]; exact m
 refine Zrd (xs:=xs) (fun n σ' H'=>σ'.length = σ.length/\(∀ q,q ≠ j→q ≠ k→σ'[q]? = σ[q]?)/\H' a' = some (.lst xs)/\(∃ bs',Owns X.K H' (Lf C fp ex) xs (Zq1 0 d n ts) bs'/\bs'.Sublist bs)/\(∀ b o,H b = some o→b ∉ a' :: bs→H' b = some o)/\∀ b,H' b = none→H b = none)
  ⟨rfl,fun _ _ _=>rfl,hx,⟨bs,by rw [Zou]; exact ow,List.Sublist.refl _⟩,fun _ _ e _=>e,fun _ e=>e⟩ ?_ ?_ ?_
 .rintro n σ' H' _ ⟨_,_,e,_⟩
  exact .inl (.inl e)
 .rintro n xk σ' H' hk' ⟨hl,hσ,hx',⟨bs',ow',hsb⟩,keep,al⟩
  have hkl:n < ts.length:=by rw [<- ow.length]; exact (List.getElem?_eq_some_iff.mp hk').1
  obtain ⟨t,ht⟩:∃ t,ts[n]? = some t:=⟨_,List.getElem?_eq_getElem hkl⟩
  obtain ⟨us,u2,rfl,hus⟩:=Zrf (h.1.2.2 t (List.mem_of_getElem? ht))
  have hget:=Zsr (c:=0) (d:=d) ht
  obtain ⟨xr,cr,hxr,orow,hsub⟩:=ow'.get hget
  rw [hk'] at hxr
  cases hxr
  have ndb:bs'.Nodup:=hnd.2.sublist hsb
  cases orow with
  | tp hq r3 =>
   rename_i q zs
   obtain ⟨xc,cc,hxc,oc,hsub2⟩:=r3.get (j:=0) rfl
   have lz:=r3.length
   cases oc with
   | nd hb r4 =>
    rename_i b' ws bs4
    have hbm:b' ∈ bs':=hsub.subset (hsub2.subset (.head _))
    have hbf:b' ∈ fp i:=inF b' (.tail _ (hsb.subset hbm))
    have hLb:¬ Lf C fp ex b':=notL b' hbf
    have jl:j < σ'.length:=by rw [hl,R.len]; exact h.1.1
    match zs,lz,hxc,hq with
    | [w1,w2],_,hxc,hq =>
     have ew:w1 = .ref b':=by simpa using hxc
     subst ew
     refine ⟨q,[.ref b',w2],rfl,.inl (.inl hq),rfl,.ref b',[w2],rfl,w2,[],rfl,rfl,?_⟩
     show ∃ v,((σ'.set j (some (.ref b'))).set k (some w2))[j]? = some (some v)/\_
     refine ⟨_,by rw [List.getElem?_set_ne (Ne.symm hij.2.2)]; exact List.getElem?_set_self jl,?_⟩
     refine ⟨.inl ⟨rfl,ws,.inl (.inl hb)⟩,b',ws,v0,rfl,rfl,hb,by rw [r4.length]; exact hus,?_⟩
     have hba:a' ≠ b':=fun z=>hnd.1 (hsb.subset (z ▸ hbm))
     obtain ⟨as',oo,ss,_⟩:=Owns.deepT (ws':=ws ++ [v0]) (us':=us ++ [.fz d]) (c:=0) (rs:=[.nd us,u2]) hb hLb (fun cs hcs=>⟨cs ++ [],hcs.snoc (.fz hsc.da),by rw [List.append_nil]; exact List.Sublist.refl _⟩) hq rfl rfl ow' ndb hk' hget
     refine ⟨by rw [List.length_set,List.length_set]; exact hl,fun q hq hq2=>by rw [List.getElem?_set_ne (Ne.symm hq2),List.getElem?_set_ne (Ne.symm hq)]; exact hσ q hq hq2,by rw [Zk hba]; exact hx',⟨as',?_,ss.trans hsb⟩,fun b o eb nb=>?_,fun b eb=>?_⟩
     .rw [<- Zse (c:=0) (d:=d) ht]
      exact oo
     .have nz:b ≠ b':=fun z=>nb (by rw [z]; exact .tail _ (hsb.subset hbm))
      rw [Zk nz]; exact keep b o eb nb
     .refine al b ?_
      by_cases q:b = b'
      .subst q; rw [Zu] at eb; cases eb
      .rwa [Zk q] at eb
 .rintro σ' H' ⟨hl,hσ,hx',⟨bs',ow',hsb⟩,keep,al⟩
  rw [ow.length,Zs8] at ow'
  have sub:∀ a,a ∈ a' :: bs'→a ∈ fp i:=fun a m=>by
   rcases List.mem_cons.mp m with rfl | m
   .exact inF _ (.head _)
   .exact inF a (.tail _ (hsb.subset m))
  have lw:∀ a,Lf C fp ex a→H' a ≠ none→Lf C (fpu fp i (a' :: bs')) (exu ex []) a:=fun a l _=>⟨fun z=>by
   rcases z.of_u with z | ⟨k,_,z⟩
   .exact l.1 ⟨i,sub a z⟩
   .exact l.1 ⟨k,z⟩,fun z=>l.2.1 (Zaf.mp z),l.2.2⟩
  obtain ⟨R4,S4⟩:=R.change (new:=[]) (as':=a' :: bs') (t':=.nd (ts.map (Ztb 0 d))) (H':=H') hi hv0 (fun b o eb nb=>keep b o eb fun m=>nb (inF b m)) al (.nd hx' (ow'.wide lw)) (List.nodup_cons.mpr ⟨fun m=>hnd.1 (hsb.subset m),hnd.2.sublist hsb⟩) (fun a m=>.inl (sub a m)) (fun a m=>nomatch m)
  have R5:=R4.drop (ex':=ex) fun a z=>.inl z
  obtain ⟨fp6,R6,K6⟩:=R5.forget2 (σ':=σ.set j ((σ'[j]?).getD none)) hio.1 (by rw [List.length_set]) (fun q hq=>by rw [List.getElem?_set_ne (Ne.symm hq)])
  obtain ⟨fp7,R7,K7⟩:=R6.forget2 (σ':=σ') hio.2 (by rw [List.length_set]; exact hl) (fun q hq=>by
   by_cases ej:q = j
   .subst ej
    have jl:q < σ.length:=by rw [R.len]; exact h.1.1
    rw [List.getElem?_set_self jl,List.getElem?_eq_getElem (hl ▸ jl)]; rfl
   .rw [List.getElem?_set_ne (Ne.symm ej)]; exact hσ q ej hq)
  exact E.nx _ σ' _ fp7 R7 ((S4.kp.trans K6).trans K7) h.2
end
def Zli (i j k:Nat) (d:PyData):FS:=fun δ=>match δ[i]? with
 | some (some (.nd ts))=>if j < δ.length/\k < δ.length/\ts.all Zzg = true then .nx (((δ.set i (some (.nd (ts.map (Ztb 0 d))))).set j none).set k none) else .bad
 | _=>.bad
theorem Zsp    {k:Nat} {d:PyData} (h:MS X io st (Zls i j k d)):MS X io st (oS (Zli i j k d)):=h.weak fun D δ h=>by
 unfold oS Zli at h; unfold Zls
 split at h
 case h_2=>exact h.elim
 rename_i ts q; (try rw [q])
 obtain ⟨hc,h⟩:=Zd8 h
 exact ⟨⟨hc.1,hc.2.1,fun t ht=>List.all_eq_true.mp hc.2.2 t ht⟩,h⟩
end L2
namespace L2
open PySem PySem.Spec PyProof.Rows
def gt (ts:List OT) (k:Nat):OT:=ts.getD k (.fz .none)
inductive Zm9 (mt:MTt) (ts:List OT):List Nat→List Nat→Prop where
 | nil:Zm9 mt ts [] []
 | keep {k:Nat} {p q:List Nat}:mt [some (.fz (gt ts k).data)] (fun b _=>b = true)→Zm9 mt ts p q→Zm9 mt ts (k :: p) (k :: q)
 | skip {k:Nat} {p q:List Nat}:mt [some (.fz (gt ts k).data)] (fun b _=>b = false)→Zm9 mt ts p q→Zm9 mt ts (k :: p) q
structure Ydd {α:Type} (kd:PyData→Option α) (lt:α→α→Bool) (ds:List PyData) (p:List Nat):Prop where
 nd:p.Nodup
 bd:∀ k ∈ p,k < ds.length
 lw:p.length <= 10000
 is:(ds.length < 64/\p = if ds.length < 2 then List.range ds.length else Zm1 (lk kd lt ds) ds.length)\/(2 <= ds.length/\ds.length <= 10000/\Zv9 (lk kd lt ds) ds.length = some p/\p.length = ds.length)
 ky:keyed kd ds
section
variable   {lpos ps pe:Pos}    {kd:PyData→Option α} {lt:α→α→Bool} {mt:MTt}   
end
end L2
namespace L2
open PySem PySem.Spec PyProof.Rows
def Yb0  (kd:PyData→Option α) (lt:α→α→Bool) (ds:List PyData):Option (List Nat) :=
 if ds.all (fun d=>(kd d).isSome) = true then
  if ds.length < 64 then some (if ds.length < 2 then List.range ds.length else Zm1 (lk kd lt ds) ds.length)
  else (Zv9 (lk kd lt ds) ds.length).bind fun p=>if (decide (ds.length <= 10000) && p.isPerm (List.range ds.length)) = true then some p else none
 else none
def Z1j (t:FT) (ts:List OT):List Nat→Option (List Nat)
 | []=>some []
 | k :: p=>(t [some (.fz (gt ts k).data)]).bind fun b=>(Z1j t ts p).bind fun q=>some (if b.1 = true then k :: q else q)
def Ybd  (kd:PyData→Option α) (lt:α→α→Bool) (i:Nat) (t:FT):FS:=fun δ=>match δ[i]? with
 | some (some (.nd ts))=>match (Yb0 kd lt (OT.datas ts)).bind (Z1j t ts) with | some q=>.rt (.nd (q.map (gt ts))) (δ.set i none) | none=>.bad
 | _=>.bad
section
variable      {kd:PyData→Option α} {lt:α→α→Bool} {t:FT}
end
end L2
namespace L2
open PySem PySem.Spec PyProof.Rows
section
variable   {test:Expr} {rs:List Stmt} {mt:MTt} {ur:MSt} {pt pi:Pos}  
end
section
variable     {t:FT} {r:FS} {d:PyData}
end
end L2
namespace L2
open PySem PySem.Spec PyProof.Rows PySem.W PySem.SeqAt
def kdV:PyData→Option (List Int):=fun d=>match d with | .tuple (e :: es)=>Zjb (e :: es) | _=>none
theorem Zeg {d:PyData} {k:List Int} (h:kdV d = some k):k ≠ []/\d = .tuple (k.map PyData.int):=by
 unfold kdV at h
 split at h
 case h_2=>cases h
 have e:=Zd9 h
 exact ⟨fun z=>(by rw [z] at e; cases e),congrArg PyData.tuple e⟩
theorem Z4o     {Q:Bool→Shared→Prop} {fin:Bool}:∀ {xs ys:List Int} {vs us:List Value} (i:Nat),IntsAre vs xs→IntsAre us ys→fin = decide (i + xs.length < i + ys.length)→Q (ltI xs ys) s→KatLex prog w A true fin Q (vs.zip us) i s
 | [],[],_,_,i,.nil,.nil,hf,h=>kat_nil (by rw [hf,decide_eq_false (by simp)]; exact h)
 | [],y :: ys,_,_,i,.nil,.cons _ _ r,hf,h=>kat_nil (by rw [hf,decide_eq_true (by simp)]; exact h)
 | x :: xs,[],_,_,i,.cons _ _ r,.nil,hf,h=>kat_nil (by rw [hf,decide_eq_false (by simp)]; exact h)
 | x :: xs,y :: ys,_,_,i,.cons _ t r,.cons _ t2 r2,hf,h=>by
  refine kat_cons ?_
  refine EqAt.int_int _ _ _ _ prog w _ _ ?_
  rw [ltI] at h
  by_cases c:x = y
  .rw [if_pos c] at h
   rw [beq_iff_eq.mpr c]
   exact kat_yes (Z4o (i + 1) r r2 (by rw [hf]; refine decide_eq_decide.mpr ?_; rw [List.length_cons,List.length_cons]; omega) h)
  .rw [if_neg c] at h
   rw [beq_eq_false_iff_ne.mpr c]
   refine kat_no ?_
   cases i with
   | zero=>exact oneLt_int h
   | succ i=>exact kat_one _ _ (Z04 h)
theorem Zzx:Yaw kdV ltI:=by
 refine ⟨fun d k h=>by rw [(Zeg h).2]; exact (Zia k).1,tuples' true,fun prog w A E s vs ds as Q h2 r hk q=>?_,fun prog w A E s u v d e as bs k m C hu r1 r2 h1 h2 h=>?_⟩
 .have key:∃ fs:List Value,KatTups s.heap vs fs/\fs.length = vs.length/\∀ v ∈ fs,∃ i t,v = .int i t:=by
   clear h2 q
   induction ds generalizing vs as with
   | nil=>cases r; exact ⟨[],trivial,rfl,fun _ m=>nomatch m⟩
   | cons d ds ih =>
    cases r with
    | cons r q =>
     obtain ⟨fs,t,l,z⟩:=ih _ _ q fun d m=>hk d (.tail _ m)
     obtain ⟨k,hk⟩:=hk d (.head _)
     obtain ⟨kn,kd⟩:=Zeg hk
     rw [kd] at r
     obtain ⟨a,items,rfl,⟨o,e,c,n,hd⟩,ia⟩:=Zc4 r
     obtain ⟨x,xs,rfl⟩:=List.exists_cons_of_ne_nil kn
     generalize hl:items.toList = l' at ia
     cases ia with
     | cons _ t' ia =>
      rename_i vr
      have e0:items[0]? = some (.int x t'):=by rw [<- Array.getElem?_toList,hl]; rfl
      refine ⟨.int x t' :: fs,KatTups.cons e c hd e0 t,congrArg Nat.succ l,fun v hv=>?_⟩
      rcases List.mem_cons.mp hv with rfl | hv
      .exact ⟨_,_,rfl⟩
      .exact z v hv
  obtain ⟨fs,t,l,z⟩:=key
  exact kat_kind (T:=.type "int") t (by omega) (fun v hv=>by obtain ⟨i,t,rfl⟩:=z v hv; exact (show Looks _ _ (pure (Value.type "int")) _ from .now)) rfl q
 .rw [(Zeg h1).2] at r1
  rw [(Zeg h2).2] at r2
  obtain ⟨a,i1,rfl,⟨o1,g1,c1,n1,d1⟩,z1⟩:=Zc4 r1
  obtain ⟨b,i2,rfl,⟨o2,g2,c2,n2,d2⟩,z2⟩:=Zc4 r2
  refine kat_lt g1 d1 g2 d2 (Z4o 0 z1 z2 ?_ h)
  refine decide_eq_decide.mpr ?_
  rw [<- Zeb z1,<- Zeb z2,Array.length_toList,Array.length_toList]; omega
end L2
namespace L2
open PySem PySem.Spec PyProof.Rows PySem.W PySem.SeqAt
def LiesD (h:Heap) (d:Addr) (es:Array DictEntry) (ep:Nat):Prop:=∃ o,h.get? d = some o/\o.ExactDict/\o.data = .dict es ep
section
variable      {d it:Addr} {es:Array DictEntry} {ep:Nat}
theorem LiesD.ty (x:LiesD s.heap d es ep):s.TypeIs (.ref d) "dict" := let ⟨o,ho,e,_⟩:=x; ⟨o,ho,e.1⟩
theorem LiesD.ext  (x:LiesD h d es ep) (k:∀ o,h.get? d = some o→h'.get? d = some o):LiesD h' d es ep:=let ⟨o,ho,r⟩:=x; ⟨o,k o ho,r⟩
end
section
variable   {σ:St}   {d:Addr} 
theorem Inv.froze (I:Inv X pins σ H s) (e:H d = some (.dT kvs)):∃ o,Inv X pins σ (upd H d (.frz o (.dT kvs))) s:=by
 have ok:=I.hok d _ e
 obtain ⟨o,ho⟩:∃ o,s.heap.get? d = some o:=by
  obtain ⟨_,_,_,_,o,_,_,h,_⟩:=(show ObjOk X.prog X.w H s.heap d (.dT kvs) from ok)
  exact ⟨o,h⟩
 have ne:∀ {b:Addr} {u:HO},H b = some u→(∀ q,u ≠ .dT q)→b ≠ d:=fun h n z=>by
  rw [z,e] at h
  cases h
  exact n _ rfl
 have u:Un X.fs [] H (upd H d (.frz o (.dT kvs))) s.heap s.heap:=⟨fun b ob q _ _ _=>q,fun b ob q _ _ _=>⟨ob.slots,q⟩,fun b ob q n _=>by rw [Zk (fun z=>by rw [z,e] at n; cases n)]; exact n,fun b ob q _=>⟨ob,q⟩,
  fun b xs q=>by rw [Zk (ne q fun _ z=>by cases z)]; exact q,fun b ob v q=>by rw [Zk (ne q fun _ z=>by cases z)]; exact q,fun b ps q=>⟨#[],by rw [Zk (ne q fun _ z=>by cases z),q]; simp⟩⟩
 refine ⟨o,I.un (h':=s.heap) (t':=s.toks) u (I.hok.write (x:=d) (e:=d) (by rw [e]; exact True.intro) (.inl rfl) (fun b v _ q=>q) ⟨o,ho⟩ ⟨ho,ok.stay (fun b v _ q=>q) (fun b q=>?_) fun b xs q=>?_⟩)⟩
 .rw [Zk (ne q fun _ z=>by cases z)]; exact q
 .rw [Zk (ne q fun _ z=>by cases z)]; exact q
theorem Inv.frozen (I:Inv X pins σ H s) (e:Rd H d (.dT kvs)):∃ o,Inv X pins σ (upd H d (.frz o (.dT kvs))) s:=by
 rcases e with e | ⟨o,e⟩
 .exact I.froze e
 .refine ⟨o,?_⟩
  have:upd H d (.frz o (.dT kvs)) = H:=by
   funext b
   unfold upd
   split
   .rename_i z; rw [z,e]
   .rfl
  rw [this]; exact I
end
theorem Zm4  {F:α→β→Prop} {l:List α} {m:List β} (h:Paired F l m):l.length = m.length/\∀ (i:Nat) (a:α),l[i]? = some a→∃ b:β,m[i]? = some b/\F a b:=by
 induction h with
 | nil=>exact ⟨rfl,fun i a h=>by cases h⟩
 | cons r _ ih =>
  refine ⟨congrArg (· + 1) ih.1,fun i a h=>?_⟩
  cases i with
  | zero=>cases h; exact ⟨_,rfl,r⟩
  | succ i=>exact ih.2 i a h
theorem Zgr  :∀ ks:List Key,Das G H L (ks.map kV) (ks.map Zwb)
 | []=>.nil
 | .inl i :: ks=>.cons (.int i) (Zgr ks)
 | .inr x :: ks=>.cons (.str x) (Zgr ks)
end L2
namespace L2
open PySem PySem.Spec PyProof.Rows PySem.W PySem.SeqAt
section
variable      {d it:Addr} {es:Array DictEntry} {ep:Nat}
theorem Zpu  (nd:(d == sysModules) = false) (x:LiesD s.heap d es ep) (h:Q (.ref s.heap.objs.size) { s with heap:=s.heap.push { cls:=.type "dict_keyiterator", data:=.fields #[.ref d,.int 0 0,.int es.size 0,.int ep 0] } }):wpAny (model prog w) A (pyIter (.ref d)) Q E s:=by
 obtain ⟨o,ho,hc,dat⟩:=id x
 have hT:=x.ty
 refine wpAny_pyIter_slot hT PySem.F.slot_dict_iter (wpAny_call_entry PySem.F.slot_dict_iter hT PySem.F.entry_dict_iter ?_ (PySem.F.args_dict_iter_1 _))
 unfold Builtin.«dict.__iter__»
 refine wpAny_bind ?_
 unfold Builtin.Dict.dictSlotNone
 refine wpAny_bind (wpAny_notOrdered_dict hT ?_)
 show wpAny _ _ (pure (Value.ref d)) _ _ s
 refine wpAny_pure ?_
 show wpAny _ _ (Builtin.Dict.showsAll d >>= _) _ _ s
 unfold Builtin.Dict.showsAll
 rw [if_neg (by rw [nd]; exact Bool.false_ne_true)]
 refine wpAny_bind (wpAny_pure ?_)
 refine wpAny_bind (wpAny_dictEntries ho dat ?_)
 refine wpAny_bind (wpAny_dictEpoch ho dat ?_)
 exact wpAny_bind (wpAny_newObj_type (wpAny_pure ⟨_,rfl, "dict_keyiterator", _,⟨_,Heap.get?_push_size _ rfl,rfl⟩,PySem.F.slot_dict_keyiterator_next.lookup,h⟩))
theorem Zo9  {e:DictEntry} {Q:Option Value→Shared→Prop} (hit:s.heap.IsKeyIter it d i es.size ep) (l:LiesD s.heap d es ep) (hx:es[i]? = some e)
  (hQ:∀ h',h'.IsKeyIter it d (i + 1) es.size ep→Heap.SameBut it s.heap h'→Q (some e.key) { s with heap:=h' }):wpAny (model prog w) A (pyNext (.ref it)) Q E s:=by
 obtain ⟨o,ho,hc,hd⟩:=id hit
 obtain ⟨od,hod,_,dat⟩:=l
 have lt:i < es.size:=by
  rcases Nat.lt_or_ge i es.size with q | q
  .exact q
  .rw [Array.getElem?_eq_none q] at hx; cases hx
 unfold pyNext
 refine wpAny_bind (wpAny_attempt (wpAny_callSpecial?_slot (name:=Str.ofString "__next__") hit.typeIs PySem.F.slot_dict_keyiterator_next
  (wpAny_call_entry PySem.F.slot_dict_keyiterator_next hit.typeIs PySem.F.entry_dict_keyiterator_next ?_ (PySem.F.args_dict_keyiterator_next_1 _))))
 refine wpAny_bind (wpAny_pure (wpAny_bind (wpAny_bind ?_)))
 refine wpAny_bind (wpAny_typeNameOfWhole_keyiter hit.typeIs (wpAny_pure ?_))
 refine wpAny_bind (wpAny_fieldsOf ho hd ?_)
 have hown:Builtin.Dict_items.ownsTuple "dict_keyiterator" = false:=by decide
 simp only [hown,Bool.false_eq_true,if_false]
 show wpAny _ _ (if (Value.ref d == Value.none) = true then _ else _) _ _ s
 rw [if_neg (show ¬ ((Value.ref d == Value.none) = true) from Bool.false_ne_true)]
 refine wpAny_bind (wpAny_pure (wpAny_bind (wpAny_dictEntries hod dat ?_)))
 rw [if_neg (by simp)]
 refine wpAny_bind (wpAny_pure (wpAny_bind (wpAny_dictEpoch hod dat ?_)))
 rw [if_neg (by simp)]
 refine wpAny_pure ?_
 simp only [show ¬ ((i:Int) < 0) from by omega,if_false,Int.toNat_natCast,hx]
 refine wpAny_bind (wpAny_bind (wpAny_typeNameOfWhole_keyiter hit.typeIs (wpAny_pure ?_)))
 refine wpAny_bind (wpAny_isOneOf_keyiter hit.typeIs ?_)
 show wpAny _ _ (setField (.ref it) 1 (rawInt ((i:Int) + 1)) >>= _) _ _ s
 refine wpAny_bind (wpAny_setField ho hd (by simp) ?_)
 have hit':(s.heap.update it (Obj.mapFields (·.setIfInBounds 1 (rawInt ((i:Int) + 1))))).IsKeyIter it d (i + 1) es.size ep :=
  ⟨_,Heap.get?_update_self _ ho (Obj.isFreed_of_fields (Obj.data_mapFields hd _)),(Obj.cls_mapFields ..).trans hc,by rw [Obj.data_mapFields hd]; simp [rawInt]⟩
 refine wpAny_bind (wpAny_holding ?_)
 refine wpAny_bind (wpAny_isOneOf_keyiter (s:={ s with heap:=s.heap.update it (Obj.mapFields (·.setIfInBounds 1 (rawInt ((i:Int) + 1)))) }) hit'.typeIs ?_)
 show wpAny _ _ (pure e.key) _ _ _
 exact wpAny_pure (wpAny_pure ⟨_,rfl,wpAny_pure (hQ _ hit' (Heap.SameBut.update ..))⟩)
theorem Zra  {Q:Option Value→Shared→Prop} (hh:A.handled = none) (hit:s.heap.IsKeyIter it d i es.size ep) (l:LiesD s.heap d es ep) (hx:es.size <= i)
  (hQ:∀ h',Heap.ExtBut it s.heap h'→Q none { s with heap:=h' }):wpAny (model prog w) A (pyNext (.ref it)) Q E s:=by
 obtain ⟨o,ho,hc,hd⟩:=id hit
 obtain ⟨od,hod,_,dat⟩:=l
 unfold pyNext
 refine wpAny_bind (wpAny_attempt (wpAny_callSpecial?_slot (name:=Str.ofString "__next__") hit.typeIs PySem.F.slot_dict_keyiterator_next
  (wpAny_call_entry PySem.F.slot_dict_keyiterator_next hit.typeIs PySem.F.entry_dict_keyiterator_next ?_ (PySem.F.args_dict_keyiterator_next_1 _))))
 refine wpAny_bind (wpAny_pure (wpAny_bind (wpAny_bind ?_)))
 refine wpAny_bind (wpAny_typeNameOfWhole_keyiter hit.typeIs (wpAny_pure ?_))
 refine wpAny_bind (wpAny_fieldsOf ho hd ?_)
 have hown:Builtin.Dict_items.ownsTuple "dict_keyiterator" = false:=by decide
 simp only [hown,Bool.false_eq_true,if_false]
 show wpAny _ _ (if (Value.ref d == Value.none) = true then _ else _) _ _ s
 rw [if_neg (show ¬ ((Value.ref d == Value.none) = true) from Bool.false_ne_true)]
 refine wpAny_bind (wpAny_pure (wpAny_bind (wpAny_dictEntries hod dat ?_)))
 rw [if_neg (by simp)]
 refine wpAny_bind (wpAny_pure (wpAny_bind (wpAny_dictEpoch hod dat ?_)))
 rw [if_neg (by simp)]
 refine wpAny_pure ?_
 simp only [show ¬ ((i:Int) < 0) from by omega,if_false,Int.toNat_natCast,Array.getElem?_eq_none hx]
 refine wpAny_bind (wpAny_bind (wpAny_typeNameOfWhole_keyiter hit.typeIs (wpAny_pure ?_)))
 show wpAny _ _ (setField (.ref it) 0 .none >>= _) _ _ s
 refine wpAny_bind (wpAny_setField ho hd (by simp) ?_)
 show wpAny _ _ (newExc (.type "StopIteration") [] >>= _) _ _ _
 refine wpAny_bind ?_
 simp only [newExc,newTuple]
 refine wpAny_bind (wpAny_newObj_type ?_ (by size_fits))
 refine wpAny_bind (m:=firstArgMember _ _) (wpAny_of_eq (a:=Value.none) (by first | rfl | (simp only [firstArgMember]; rfl)) ?_)
 refine wpAny_newObj_type ?_ (by size_fits)
 simp only [raiseNew]
 refine wpAny_bind (wpAny_handled ?_)
 rw [show A.in1.handled = none from hh]
 refine wpAny_bind (wpAny_pure (wpAny_throw ?_))
 refine wpAny_bind (wpAny_isInstance (T := "StopIteration") (b:=true) ⟨_,Heap.get?_push_size _ rfl,rfl⟩ isSubtype_stop ?_)
 exact wpAny_pure (hQ _ (((Heap.SameBut.update ..).extBut.push _).push _))
theorem Zmw (hh:A.handled = none) (I d:Addr) (hne:d ≠ I) (es:Array DictEntry) (ep:Nat) :
  Walks prog w A I [I,d] [I] es.size (fun i v=>∃ e,es[i]? = some e/\v = e.key) (fun i h=>h.IsKeyIter I d i es.size ep/\LiesD h d es ep) where
 sub:=fun b hb=>by simp at hb; simp [hb]
 frame:=fun _ _ _ st hk=>⟨st.1.at fun o e=>hk I (by simp) o e,st.2.ext fun o e=>hk d (by simp) o e⟩
 item:=fun i s Q E hi st hQ=>by
  obtain ⟨e,hx⟩:∃ p,es[i]? = some p:=⟨es[i],by simp [hi]⟩
  refine Zo9 st.1 st.2 hx fun h' hit' hs'=>?_
  exact hQ e.key h' s.toks ⟨e,hx,rfl⟩ ⟨hit',st.2.ext fun o q=>hs'.extBut d o hne q⟩ fun b o hb e=>hs'.extBut b o (fun h=>hb (by simp [h])) e
 done:=fun s Q E st hQ=>Zra hh st.1 st.2 (Nat.le_refl _) fun h' he'=>hQ h' s.toks fun b o hb e=>he' b o (fun h=>hb (by simp [h])) e
 self:=fun _ _ _ _ st hQ=>wpAny_pyIter_keyiter st.1 hQ
theorem Zst (lo:(d == sysModules) = false):KdlSrc prog w "dict" d d es.size (fun i v=>∃ e,es[i]? = some e/\v = e.key) (fun h=>LiesD h d es ep) where
 type:=fun _ hm=>hm.ty
 there:=fun _ hm=>let ⟨_,ho,_⟩:=hm; ⟨Heap.lt_size ho,Heap.lt_size ho⟩
 keep:=fun _ _ hm hk=>hm.ext fun o e=>hk d (.inl rfl) o e
 notList:=by decide
 notTuple:=by decide
 hint:=fun _ _ _ _ hm hq=>kdl_hint_dict hm.ty hq
 iter:=fun _ s hh hm=>⟨_,_,(fun _ _ hq=>Zpu lo hm hq),Zmw hh _ d (let ⟨_,ho,_⟩:=hm; Nat.ne_of_lt (Heap.lt_size ho)) es ep,⟨⟨_,Heap.get?_push_size _ rfl,rfl,rfl⟩,hm.ext fun o e=>Heap.get?_push_of_some _ e⟩⟩
end
def KL (H:Hp) (kvs:List (List Key × V)) (vs:List V):Prop:=vs.length = kvs.length/\∀ (i:Nat) (k:List Key) (x:V),kvs[i]? = some (k,x)→∃ b,vs[i]? = some (.ref b)/\H b = some (.tup (k.map kV))
def Zue:List V→Hp→VK→Prop:=fun xs H Q=>∃ d kvs,xs = [.ref d]/\Rd H d (.dT kvs)/\kvs.length <= sizeLine/\∀ vs:List V,KL H kvs vs→∀ p,H p = none→Q (.ref p) (upd H p (.lst vs))
theorem Zl3  (hc:X.calm = true):Zac X (.type "list") Zue:=by
 intro pins s σ H xs us Q I rv h
 obtain ⟨d,kvs,rfl,rd,hn,q⟩:=h
 obtain ⟨u,rfl,ru⟩:=rv.one
 obtain rfl:u = Value.ref d:=ru
 obtain ⟨t1,t2,nsys⟩:=Z4j I (.inr ⟨kvs,rd⟩)
 obtain ⟨ob,I2⟩:=I.frozen rd
 obtain ⟨ho1,ok⟩:=(show ObjOk X.prog X.w _ s.heap d (.frz ob (.dT kvs)) from I2.hok d _ Zu)
 obtain ⟨_,_,xs,pr,o',en,ep,ho2,ex,dat,el,_⟩:=(show ObjOk X.prog X.w _ s.heap d (.dT kvs) from ok)
 rw [ho1] at ho2
 cases ho2
 obtain ⟨lx,ax⟩:=Zm4 pr
 have sz:en.size = xs.length:=by rw [<- Array.length_toList,el,List.length_map]
 have L:LiesD s.heap d en ep:=⟨ob,ho1,ex,dat⟩
 refine kdl_call (Zst nsys) (I.ok.hd hc) L (by rw [sz,<- lx]; exact hn) fun h' tk acc c hk hD hacc=>?_
 obtain ⟨vs,hvs⟩:∃ vs:List V,vs = xs.map fun z=>.ref z.2.1:=⟨_,rfl⟩
 have lv:vs.length = kvs.length:=by rw [hvs,List.length_map,lx]
 have KL':KL H kvs vs:=⟨lv,fun i k x h=>by
  obtain ⟨z,hz,r1,r2,r3⟩:=ax i (k,x) h
  refine ⟨z.2.1,by rw [hvs,List.getElem?_map,hz]; rfl,?_⟩
  by_cases y:z.2.1 = d
  .rw [y,Zu] at r2; cases r2
  .rwa [Zk y] at r2⟩
 have ea:acc.toList = xs.map fun z=>Value.ref z.2.1:=by
  refine List.ext_getElem? fun i=>?_
  rw [List.getElem?_map,Array.getElem?_toList]
  by_cases ci:i < acc.size
  .obtain ⟨e,h1,h2⟩:=hacc.2 i acc[i] (Array.getElem?_eq_getElem ci)
   rw [Array.getElem?_eq_getElem ci,h2]
   rw [<- Array.getElem?_toList,el,List.getElem?_map] at h1
   cases hz:xs[i]? with
   | none=>rw [hz] at h1; cases h1
   | some z=>rw [hz] at h1; cases h1; rfl
  .rw [Array.getElem?_eq_none (by omega),List.getElem?_eq_none (by have:=hacc.1; omega)]; rfl
 have vv:∀ xs:List (List Key × Addr × Value),Vals (xs.map fun z=>V.ref z.2.1) (xs.map fun z=>Value.ref z.2.1):=fun xs=>by
  induction xs with
  | nil=>exact .nil
  | cons z xs ih=>exact .cons rfl ih
 refine ⟨.ref s.heap.objs.size,_,I.laid (a:=s.heap.objs.size) (t':=tk) (o:=.lst vs) hk (Nat.le_refl _) ⟨by rw [lv]; exact hn,acc.toList,c,by rw [ea,hvs]; exact vv xs,by rw [Array.toArray_toList]; exact hD⟩,rfl,q vs KL' _ (I.hok.fresh (Nat.le_refl _))⟩
def Zgg:List PyData→Option OT:=fun ds=>match ds with
 | [.dict ((.none,.bool true) :: kvs)]=>if kvs.length <= sizeLine then some (.nd ((kvs.map (·.1)).map OT.fz)) else none
 | _=>none
def Zu9:List PyData→(OT→Prop)→Prop:=fun ds k=>∃ r,Zgg ds = some r/\k r
theorem Zyg:∀ (ds:List PyData) (r:OT) (k:OT→Prop),Zgg ds = some r→k r→Zu9 ds k:=fun ds r k h hk=>⟨r,h,hk⟩
theorem Zsd:PN G Zue Zu9:=fun H L xs ds k Q hx h kk=>by
 obtain ⟨r,h,hk⟩:=h
 unfold Zgg at h
 split at h
 case h_2=>cases h
 rename_i kvs
 split at h
 case isFalse=>cases h
 rename_i hl
 cases h
 cases hx with
 | cons q r0 =>
  cases r0
  generalize ed:PyData.dict ((.none,.bool true) :: kvs) = d at q
  cases q with
  | @dic a o t ks xs ds l e kd r =>
   unfold dcD at ed
   injection ed with ed
   injection ed with e1 e2
   injection e1 with _ e1
   injection e1 with e1
   subst e1 e2
   cases o with
   | lst ys=>exact kd.elim
   | dK z=>cases kd.1
   | dT z =>
    obtain ⟨_,rfl,rfl⟩:=kd
    have ld:=r.length
    rw [List.length_map] at ld
    have ek:(((z.map fun p=>(.inr p.1:KY)).map kyD).zip ds).map (·.1) = z.map fun p=>keyT p.1:=by
     rw [List.map_fst_zip (by rw [List.length_map,List.length_map]; omega),List.map_map]; rfl
    have lz:z.length <= sizeLine:=by
     rw [List.length_zip,List.length_map,List.length_map] at hl
     omega
    refine ⟨a,z,rfl,e,lz,fun vs K p hp=>?_⟩
    rw [ek] at hk
    have dv:∀ (z:List (List Key × V)) (vs:List V),KL H z vs→Das G H L vs (z.map fun p=>keyT p.1):=fun z=>by
     induction z with
     | nil=>intro vs K; have:=List.length_eq_zero_iff.mp K.1; subst this; exact .nil
     | cons y z ih =>
      intro vs K
      cases vs with
      | nil=>cases K.1
      | cons v vs =>
       obtain ⟨b,h1,h2⟩:=K.2 0 y.1 y.2 rfl
       cases h1
       exact .cons (.tup h2 (Zgr y.1)) (ih vs ⟨Nat.succ.inj K.1,fun i k x h=>K.2 (i + 1) k x h⟩)
    exact kk _ _ _ [p] (Z6 hp _) (Own.list hp (dv z vs K)) (Zcv p) (Za6 hp) hk
  | exc _ _ _=>unfold exD at ed; cases ed
  | fn _=>unfold fnD at ed; cases ed
  | _=>cases ed
end L2
namespace L2
open PySem PySem.Spec PyProof.Rows
end L2
namespace L2
open PySem PySem.Spec PyProof.Rows PySem.W PySem.SeqAt
open PySem.AutoSeq1 (wpAny_loadPart')
open MeetsSeq MeetsSeq2 MeetsSeq3 SeqRoads2
end L2
namespace L2
open PySem PySem.Spec PyProof.Rows
end L2
namespace L2
open PySem PySem.Spec PyProof.Rows
def Z7h (K:PySem.W.Frag):R2:=fun x y H Q=>∃ (L L':Addr→Prop) (ns ms:List Int),Da K H L x (.list (ns.map PyData.int))/\Da K H L' y (.list (ms.map PyData.int))/\Q (.bl (ltI ns ms)) H
theorem Z1m (hu:X.A.units + 64 < cLine):OpR X (compareOp .Lt) (Z7h X.K):=by
 intro pins s σ H x y v u Q I rx ry h
 obtain ⟨L,L',ns,ms,h1,h2,q⟩:=h
 obtain ⟨as,k1⟩:=h1.reads rfl I rx (lay_ints ns).1
 obtain ⟨bs,k2⟩:=h2.reads rfl I ry (lay_ints ms).1
 obtain ⟨a,i1,rfl,⟨⟨cls,dd,data,sl⟩,hl,hc,n,hd⟩,z1⟩:=Zgb k1
 obtain ⟨b,i2,rfl,⟨⟨cls2,dd2,data2,sl2⟩,hl2,hc2,n2,hd2⟩,z2⟩:=Zgb k2
 simp only at hc hd hc2 hd2
 subst hc hd hc2 hd2
 exact richCompare_meets_room (op:=.Lt) ⟨_,hl,rfl⟩ ⟨_,hl2,rfl⟩ F.slot_list_lt F.entry_list_lt (F.args_list_lt_2 _ _) (Zp1 a b i1 i2 n n2 dd dd2 sl sl2 z1 z2)
  ⟨hl,hl2,show Value.bool (ltI ns ms) ≠ Value.notImplemented/\_ from ⟨(fun x=>nomatch x),⟨.bl (ltI ns ms),H,I,rfl,q⟩⟩⟩ (by omega)
def Z4s:PyData→PyData→Option PyData:=fun d e=>match d,e with
 | .list ds,.list es=>(Zjb ds).bind fun ns=>(Zjb es).bind fun ms=>some (.bool (ltI ns ms))
 | _,_=>none
def Z7g:PyData→PyData→(PyData→Prop)→Prop:=fun d e k=>∃ r,Z4s d e = some r/\k r
theorem Z8c:ByS Z4s Z7g:=fun _ _ r _ h hk=>⟨r,h,hk⟩
theorem Zzr:P2s G (Z7h G) Z7g:=fun H L x y d e k Q hx hy h kk=>by
 obtain ⟨r,h,hk⟩:=h
 unfold Z4s at h
 split at h
 case h_2=>cases h
 obtain ⟨ns,h1,h⟩:=bs h
 obtain ⟨ms,h2,h⟩:=bs h
 cases h
 rw [Zd9 h1] at hx
 rw [Zd9 h2] at hy
 exact ⟨L,L,ns,ms,hx,hy,kk _ _ (.bl _) hk⟩
end L2
namespace L2
open PySem PySem.Spec PyProof.Rows
def Z89 (K:PySem.W.Frag):R2:=fun x y H Q=>rI0 (fun i j=>.bl (decide (i < j))) x y H Q\/Z7h K x y H Q
theorem Z11 (hu:X.A.units + 64 < cLine):OpR X (compareOp .Lt) (Z89 X.K):=fun pins s σ H x y v u Q I rx ry h=>h.elim (Zyi pins s σ H x y v u Q I rx ry) (Z1m hu pins s σ H x y v u Q I rx ry)
def Yam:PyData→PyData→(PyData→Prop)→Prop:=fun d e k=>Zru (fun i j=>.bool (decide (i < j))) d e k\/Z7g d e k
def Zzn:PyData→PyData→Option PyData:=fun d e=>(gLt d e).or (Z4s d e)
theorem Z5t:ByS Zzn Yam:=fun d e r k h hk=>by
 unfold Zzn at h
 cases c:gLt d e with
 | some z =>
  rw [c] at h
  cases h
  exact .inl (Z6a d e _ k c hk)
 | none =>
  rw [c] at h
  exact .inr (Z8c d e r k h hk)
theorem Z0g:P2s G (Z89 G) Yam:=fun H L x y d e k Q hx hy h kk=>h.elim (fun h=>.inl (Zft H L x y d e k Q hx hy h kk)) fun h=>.inr (Zzr H L x y d e k Q hx hy h kk)
end L2
namespace L2
open PySem PySem.Spec PyProof.Rows PySem.W
theorem Zcz  {lt:Nat→Nat→Bool} {f:α→KasT β} (t:KasT α):kEv lt (t.bind f) = kEv lt (f (kEv lt t)):=by
 induction t with
 | ret a=>rfl
 | ask i j k ih=>exact ih _
structure Tot (lt:Nat→Nat→Bool) (n:Nat):Prop where
 tr:∀ i j k,i < n→j < n→k < n→lt i j = true→lt j k = true→lt i k = true
 tot:∀ i j,i < n→j < n→i ≠ j→lt i j = false→lt j i = true
 asy:∀ i j,i < n→j < n→lt i j = true→lt j i = false
section
variable {lt:Nat→Nat→Bool} {n:Nat}
abbrev gD (p:Array Nat) (i:Nat):Nat:=p.getD i 0
theorem kP.size {p:Array Nat} (h:kP n p):p.size = n:=by rw [<- Array.length_toList,List.Perm.length_eq h,List.length_range]
theorem Zkd {p:Array Nat}  (h:i < p.size):p[i]? = some (gD p i):=by rw [Array.getElem?_eq_getElem h]; simp [gD,Array.getD,h]
theorem Zs3 {p q:Array Nat}  (h:p[i]? = q[j]?):gD p i = gD q j:=by
 show p.getD i 0 = q.getD j 0
 rw [Array.getD_eq_getD_getElem?,Array.getD_eq_getD_getElem?,h]
theorem kP.blw {p:Array Nat} (h:kP n p)  (hi:i < n):gD p i < n:=h.at (Nat.lt_of_le_of_lt (Nat.zero_le _) hi) i
theorem kP.ne {p:Array Nat} (h:kP n p)  (hi:i < j) (hj:j < n):gD p i ≠ gD p j:=fun e=>by
 have nd:p.toList.Nodup:=(List.Perm.nodup_iff h).mpr List.nodup_range
 have sz:=h.size
 have a:=Zkd (p:=p) (i:=i) (by omega)
 have b:=Zkd (p:=p) (i:=j) (by omega)
 rw [<- Array.getElem?_toList] at a b
 obtain ⟨a1,a2⟩:=List.getElem?_eq_some_iff.mp a
 obtain ⟨b1,b2⟩:=List.getElem?_eq_some_iff.mp b
 exact List.pairwise_iff_getElem.mp nd i j a1 b1 hi (by rw [a2,b2,e])
def Ri (lt:Nat→Nat→Bool) (p:Array Nat) (m:Nat):Prop:=∀ i j,i < j→j < m→lt (gD p i) (gD p j) = true
def Fa (lt:Nat→Nat→Bool) (p:Array Nat) (m:Nat):Prop:=∀ i j,i < j→j < m→lt (gD p j) (gD p i) = true
variable (T:Tot lt n)
include T
theorem Zt6 {p:Array Nat} (h:kP n p) (f:Nat):∀ m,1 <= m→m + f <= n→Ri lt p m→Ri lt p (kEv lt (kas_asc p f m))/\m <= kEv lt (kas_asc p f m)/\kEv lt (kas_asc p f m) <= m + f/\(kEv lt (kas_asc p f m) < m + f→lt (gD p (kEv lt (kas_asc p f m))) (gD p (kEv lt (kas_asc p f m) - 1)) = true):=by
 induction f with
 | zero=>exact fun m _ _ r=>⟨r,Nat.le_refl _,Nat.le_refl _,fun z=>absurd z (Nat.lt_irrefl _)⟩
 | succ f ih =>
  intro m h1 hn r
  show _/\_
  rw [kas_asc,kEv]
  cases c:lt (p.getD m 0) (p.getD (m - 1) 0) with
  | true =>
   rw [if_pos rfl,kEv]
   exact ⟨r,Nat.le_refl _,Nat.le_add_right _ _,fun _=>c⟩
  | false =>
   rw [if_neg Bool.false_ne_true]
   have up:lt (gD p (m - 1)) (gD p m) = true:=T.tot _ _ (h.blw (by omega)) (h.blw (by omega)) (h.ne (by omega) (by omega)).symm c
   have r2:Ri lt p (m + 1):=fun i j hij hj=>by
    rcases Nat.lt_or_ge j m with q | q
    .exact r i j hij q
    .have:j = m:=by omega
     subst this
     rcases Nat.lt_or_ge i (j - 1) with q2 | q2
     .exact T.tr _ _ _ (h.blw (by omega)) (h.blw (by omega)) (h.blw (by omega)) (r i (j - 1) q2 (by omega)) up
     .have:i = j - 1:=by omega
      subst this
      exact up
   obtain ⟨a,b,c,d⟩:=ih (m + 1) (by omega) (by omega) r2
   exact ⟨a,by omega,by omega,fun z=>d (by omega)⟩
theorem Zy0 {p:Array Nat} (h:kP n p) (f:Nat):∀ m,1 <= m→m + f <= n→Fa lt p m→∃ m',kEv lt (kas_desc f p m 0) = (p,m',0)/\Fa lt p m'/\m <= m'/\m' <= m + f:=by
 induction f with
 | zero=>exact fun m _ _ r=>⟨m,rfl,r,Nat.le_refl _,Nat.le_refl _⟩
 | succ f ih =>
  intro m h1 hn r
  rw [kas_desc,kEv]
  cases c:lt (p.getD m 0) (p.getD (m - 1) 0) with
  | true =>
   rw [if_pos rfl,if_neg (Nat.lt_irrefl _)]
   have r2:Fa lt p (m + 1):=fun i j hij hj=>by
    rcases Nat.lt_or_ge j m with q | q
    .exact r i j hij q
    .have:j = m:=by omega
     subst this
     rcases Nat.lt_or_ge i (j - 1) with q2 | q2
     .exact T.tr _ _ _ (h.blw (by omega)) (h.blw (by omega)) (h.blw (by omega)) c (r i (j - 1) q2 (by omega))
     .have:i = j - 1:=by omega
      subst this
      exact c
   obtain ⟨m',e,a,b,d⟩:=ih (m + 1) (by omega) (by omega) r2
   exact ⟨m',e,a,by omega,by omega⟩
  | false =>
   rw [if_neg Bool.false_ne_true,kEv]
   have up:lt (p.getD (m - 1) 0) (p.getD m 0) = true:=T.tot _ _ (h.blw (by omega)) (h.blw (by omega)) (h.ne (by omega) (by omega)).symm c
   rw [up,if_pos rfl,kEv]
   exact ⟨m,rfl,r,Nat.le_refl _,Nat.le_add_right _ _⟩
theorem Zq3 {p:Array Nat} (h:kP n p) (h0:0 < n):∃ m p',kEv lt (kas_count n p) = (m,p')/\kP n p'/\Ri lt p' m/\1 <= m/\m <= n:=by
 rw [kas_count,Zcz]
 obtain ⟨a,b,c,d⟩:=Zt6 T h (n - 1) 1 (Nat.le_refl _) (by omega) fun i j _ _=>by omega
 generalize kEv lt (kas_asc p (n - 1) 1) = m at a b c d
 by_cases e:m = n
 .rw [if_pos (by rw [e]; exact beq_self_eq_true _),kEv]
  exact ⟨m,p,rfl,h,a,b,by omega⟩
 rw [if_neg (fun z=>e (beq_iff_eq.mp z))]
 by_cases m1:m > 1
 .rw [if_pos m1,kEv,a 0 (m - 1) (by omega) (by omega),if_pos rfl,kEv]
  exact ⟨m,p,rfl,h,a,b,by omega⟩
 rw [if_neg m1]
 have em:m = 1:=by omega
 subst em
 have lt1:=d (by omega)
 rw [kas_descPart,Zcz]
 obtain ⟨m',e2,f2,b2,d2⟩:=Zy0 T h (n - (1 + 1)) (1 + 1) (by omega) (by omega) fun i j hij hj=>by
  have:i = 0:=by omega
  have:j = 1:=by omega
  subst i j
  exact lt1
 rw [e2,if_neg (Nat.lt_irrefl _),kas_tail3,Zcz,kEv]
 have kr:kP n (kas_rev p 0 m'):=h.rev _ _
 have rr:Ri lt (kas_rev p 0 m') m':=fun i j hij hj=>by
  have ge:∀ k,k < m'→gD (kas_rev p 0 m') k = gD p (m' - 1 - k):=fun k hk=>Zs3 (by
   have:=getElem?_mirror_all (xs:=p) (i:=0) (j:=m') (by rw [h.size]; omega) k
   rw [if_pos ⟨Nat.zero_le _,hk⟩,Nat.zero_add] at this
   exact this)
  rw [ge i (by omega),ge j hj]
  exact f2 _ _ (by omega) (by omega)
 obtain ⟨a,b,c,_⟩:=Zt6 T kr (n - m') m' (by omega) (by omega) rr
 have n2:2 <= n:=by omega
 have:m' <= n:=by omega
 refine ⟨_,_,rfl,kr,a,?_,?_⟩
 .exact Nat.le_trans (by omega) b
 .exact Nat.le_trans c (by omega)
theorem Zsc {p:Array Nat} (h:kP n p) {k:Nat} (hk:k < n) (f:Nat):∀ l r,l <= r→r <= k→r - l <= f→(∀ i,i < l→lt (gD p i) (gD p k) = true)→(∀ i,r <= i→i < k→lt (gD p k) (gD p i) = true)→Ri lt p k →
  kEv lt (kas_place p k f l r) <= k/\(∀ i,i < kEv lt (kas_place p k f l r)→lt (gD p i) (gD p k) = true)/\∀ i,kEv lt (kas_place p k f l r) <= i→i < k→lt (gD p k) (gD p i) = true:=by
 induction f with
 | zero =>
  intro l r lr rk z a b R
  have:l = r:=by omega
  subst this
  exact ⟨rk,a,b⟩
 | succ f ih =>
  intro l r lr rk z a b R
  rw [kas_place]
  by_cases c:l >= r
  .rw [if_pos c,kEv]
   exact ⟨by omega,a,fun i x y=>b i (by omega) y⟩
  rw [if_neg c,kEv]
  have hm:(l + r) / 2 < k:=by omega
  cases q:lt (p.getD k 0) (p.getD ((l + r) / 2) 0) with
  | true =>
   rw [if_pos rfl]
   refine ih _ _ (by omega) (by omega) (by omega) a (fun i x y=>?_) R
   by_cases e:i = (l + r) / 2
   .subst e; exact q
   .exact T.tr _ _ _ (h.blw hk) (h.blw (by omega)) (h.blw (by omega)) q (R _ _ (by omega) y)
  | false =>
   rw [if_neg Bool.false_ne_true]
   have up:lt (gD p ((l + r) / 2)) (gD p k) = true:=T.tot _ _ (h.blw hk) (h.blw (by omega)) (h.ne hm hk).symm q
   refine ih _ _ (by omega) (by omega) (by omega) (fun i x=>?_) b R
   by_cases e:i = (l + r) / 2
   .subst e; exact up
   .exact T.tr _ _ _ (h.blw (by omega)) (h.blw (by omega)) (h.blw hk) (R _ _ (by omega) hm) up
theorem Z37 (f:Nat):∀ {p:Array Nat} (h:kP n p) (k:Nat),k + f <= n→Ri lt p k→Ri lt (kEv lt (kas_bin f p k)) (k + f):=by
 induction f with
 | zero=>exact fun h k _ r=>r
 | succ f ih =>
  intro p h k hn r
  rw [kas_bin,Zcz]
  obtain ⟨a,b,c⟩:=Zsc T h (k:=k) (by omega) k 0 k (Nat.zero_le _) (Nat.le_refl _) (by omega) (fun i z=>absurd z (Nat.not_lt_zero _)) (fun i x y=>absurd y (by omega)) r
  generalize kEv lt (kas_place p k k 0 k) = l at a b c
  have ge:∀ j,gD (bubble p k (k - l)) j = if j = l then gD p k else if l < j/\j <= k then gD p (j - 1) else gD p j:=fun j=>by
   have e:=getElem?_bubble (xs:=p) (src:=k) (by rw [h.size]; omega) (k - l) (by omega) j
   have e0:k - (k - l) = l:=by omega
   rw [e0] at e
   by_cases c1:j = l
   .rw [if_pos c1] at e |-
    exact Zs3 e
   .rw [if_neg c1] at e |-
    by_cases c2:l < j/\j <= k
    .rw [if_pos c2] at e |-
     exact Zs3 e
    .rw [if_neg c2] at e |-
     exact Zs3 e
  have:=ih (h.bub k (k - l)) (k + 1) (by omega) fun i j hij hj=>?_
  .rw [show k + 1 + f = k + (f + 1) by omega] at this
   exact this
  rw [ge,ge]
  rcases Nat.lt_trichotomy j l with q | q | q
  .rw [if_neg (by omega),if_neg (by omega),if_neg (by omega),if_neg (by omega)]
   exact r i j hij (by omega)
  .rw [if_neg (by omega),if_neg (by omega),if_pos q]
   exact b i (by omega)
  .rw [if_neg (show ¬ j = l by omega),if_pos (show l < j/\j <= k by omega)]
   rcases Nat.lt_trichotomy i l with q2 | q2 | q2
   .rw [if_neg (by omega),if_neg (by omega)]
    exact r i (j - 1) (by omega) (by omega)
   .rw [if_pos q2]
    exact c (j - 1) (by omega) (by omega)
   .rw [if_neg (by omega),if_pos (by omega)]
    exact r (i - 1) (j - 1) (by omega) (by omega)
theorem Zyw (h0:0 < n):Ri lt (kEv lt (kas_sort n)) n:=by
 rw [kas_sort,Zcz]
 obtain ⟨m,p,e,kp,r,l1,l2⟩:=Zq3 T (p:=List.toArray (List.range n)) (List.Perm.refl _) h0
 rw [e]
 by_cases c:m < n
 .rw [if_pos c]
  have em:max m 1 = m:=by omega
  rw [em]
  have:=Z37 T (n - m) kp m (by omega) r
  rw [show m + (n - m) = n by omega] at this
  exact this
 .rw [if_neg c,kEv]
  have:m = n:=by omega
  rw [this] at r
  exact r
theorem Zxw (h0:0 < n):(Zm1 lt n).Pairwise fun i j=>lt i j = true:=by
 have h:kP n (kEv lt (kas_sort n)):=(Zfn h0).ev (P:=kP n)
 have r:=Zyw T h0
 refine List.pairwise_iff_getElem.mpr fun i j hi hj hij=>?_
 have sz:=h.size
 rw [<- Array.length_toList] at sz
 have l2:(Zm1 lt n).length = n:=sz
 have ge:∀ k (hk:k < (Zm1 lt n).length),(Zm1 lt n)[k] = gD (kEv lt (kas_sort n)) k:=fun k hk=>by
  have:=Zkd (p:=kEv lt (kas_sort n)) (i:=k) (by rw [h.size]; omega)
  rw [<- Array.getElem?_toList] at this
  exact (List.getElem?_eq_some_iff.mp this).2
 rw [ge,ge]
 exact r i j hij (by omega)
end
theorem Zvy {β:Type} {d:α} {lt:Nat→Nat→Bool} {vs:List α} {R:α→α→Prop} (T:Tot lt vs.length) (hR:∀ i j,i < vs.length→j < vs.length→lt i j = true→R (vs.getD i d) (vs.getD j d)):(sLay d lt vs).Pairwise R:=by
 unfold sLay
 split
 .rename_i c
  match vs,c with
  | [],_=>exact .nil
  | [a],_=>exact List.pairwise_singleton _ _
 .rename_i c
  have pm:=Zem (lt:=lt) (n:=vs.length) (by omega)
  have up:=Zxw T (by omega)
  have h:=List.Pairwise.imp_of_mem (fun {i j} hi hj e=>hR i j (List.mem_range.mp (pm.mem_iff.mp hi)) (List.mem_range.mp (pm.mem_iff.mp hj)) e) up
  exact List.pairwise_map.mpr h
end L2
namespace My
open PySem L2 PySem.Spec
abbrev Wr:=Zv 0
def Zap:FS :=
 (wE (Zjh (Ze5 "int" Wr) (fUn Z5f (Ze5 "bool" Wr))) Wl)
def Zau:FD:=W5 1 1 Zap
abbrev Zae:=Zv 1
abbrev Zf3:=Zf Wr Yb
abbrev Zzj:=fC .none
abbrev Zks:=wE (fC (.bool false)) Wl
abbrev Zl7:=Zf Zae Yb
def Y0 (R:FD):FS :=
 (Yd (W6 (tD (Ze5 "bool" Zae))
  (wE (Zjh (Ze5 "bool" Wr) (Zd gEq Wr Zae)) Wl)
  fNx)
  (Yd (W6 (tD (Ze5 "int" Zae))
  (wE (Zjh (Zw Zau Zf3) (Zd gEq Wr Zae)) Wl)
  fNx)
  (Yd (W6 (tD (Ze5 "str" Zae))
  (wE (Zjh (Ze5 "str" Wr) (Zd gEq Wr Zae)) Wl)
  fNx)
  (Yd (W6 (tV (Zd gIs Zae Zzj))
  (wE (Zd gIs Wr Zzj) Wl)
  fNx)
  (Yd (W6 (tO (tV (Zd gNe (Ze5 "tuple" Zae) (Ze5 "tuple" Wr))) (tV (Zd gNe (Ze5 "list" Zae) (Ze5 "list" Wr))))
  Zks
  fNx)
  (Yd (W6 (tV (Zd gNe (Zc9 Zhn Zf3) (Zc9 Zhn Zl7)))
  Zks
  fNx)
  (Yd (Zea (Zjc (Zf Wr Zl7)) (gTp 2 (gCn (gNm 2) (gCn (gNm 3) gNl)))
  (W6 (tNo (tD (Zw R (Zf (Zv 2) (Zf (Zv 3) Yb)))))
  Zks
  fNx))
  (wE (fC (.bool true)) Wl))))))))
def Zj:Nat→FD
 | 0=>fun _=>RF.bad
 | k + 1=>W5 2 4 (Y0 (Zj k))
abbrev Zds:=fC (.int 1)
abbrev Zyh:=Zbz gIx Wr Zds
abbrev Zkn:=fC (.int 0)
abbrev Z4w:=Zbz gIx Wr Zkn
abbrev Z48:=Zc9 Zrx (Zf Z4w Yb)
def Zdw:FS :=
 (Yd (W6 (tV (Zd gEq Zyh Zds))
  (wE Z48 Wl)
  fNx)
  (wE (Zd Zcn (Zd Zcn Z48 (fC (.str "/"))) (Zc9 Zrx (Zf Zyh Yb))) Wl))
def Za8:FD:=W5 1 1 Zdw
abbrev Z3q:=fC (.str "; ")
abbrev Zlw:=gNm 0
abbrev Z5j:=gTp 2 (gCn Zlw (gCn (gNm 1) gNl))
abbrev Z8l:=Zsb Zfy (fC (.str " ")) (Zf (Y4 1 [] (Zcl Wr) Zlw Zer (Zc9 Zrx Zf3)) Yb)
abbrev Z45:=fC (.str ": ")
def Wf:FS :=
 (Yd (W6 (tV (Zd gEq Wr (Zmh Yb)))
  (wE (fC (.str "none")) Wl)
  fNx)
  (wE (Zsb Zfy Z3q (Zf (Y4 2 [] (Zcl Wr) Z5j Zer (Zd Zcn (Zd Zcn Z8l Z45) (Zw Za8 Zl7))) Yb)) Wl))
def Yo:FD:=W5 1 1 Wf
abbrev Z4q:=Zd gNe Zae Zkn
abbrev Z4t:=Zf Zae (Zf (Zd Zc0 Wr Zae) Yb)
def J6:FS :=
 (Yd (Zgc (tV Z4q) (Zqy 0 1 Z4t))
  (wE (Zc9 Zzo Zf3) Wl))
def Wt:FD:=W5 2 2 J6
def Jk:FS :=
 (Yd (wE (Zw Wt (Zf Wr Zl7)) (Zas 2))
  (wE (Zlm (Zf (Zd Jd Wr (Zv 2)) (Zf (Zd Jd Zae (Zv 2)) Yb))) Wl))
def Yn:FD:=W5 2 3 Jk
abbrev Z1t:=Zf Zds Yb
abbrev Z2j:=Zd Zov Wr (fC (.int 4))
abbrev Z4u:=Zd Zov (fC (.int 10)) (fC (.int 40))
def Zbe:FS :=
 (Yd (wE (Zd Zc0 Wr (fC (.int 8))) (Zas 1))
  (Yd (wE (Zd Jd Wr (fC (.int 8))) (Zas 0))
  (Yd (W6 (tV (Zd gEq Zae Zkn))
  (wE (Zlm (Zf Zkn Z1t)) Wl)
  fNx)
  (Yd (W6 (tV (Zd gLt Zae (fC (.int 4))))
  (wE (Zlm (Zf (Zd Zc0 Wr (fC (.int 31))) Z1t)) Wl)
  fNx)
  (Yd (W6 (tV (Zd gLt Zae (fC (.int 6))))
  (wE (Zw Yn (Zf (Zd Zc0 Wr (fC (.int 41))) (Zf (Zd Zho Zds (Zd Zc0 (Zd Jd Wr (fC (.int 41))) (fC (.int 12)))) Yb))) Wl)
  fNx)
  (Yd (W6 (tV (Zd gEq Zae (fC (.int 6))))
  (wE (Zlm (Zf (Zd Zc0 Z2j Z4u) Z1t)) Wl)
  fNx)
  (wE (Zw Yn (Zf (Zd Zc0 Z2j Z4u) (Zf (Zd Zho Zds (Zd Zc0 (Zd Jd Z2j (fC (.int 7))) (Zd gSb Z4u Zds))) Yb))) Wl)))))))
def Wh:FD:=W5 1 2 Zbe
abbrev Zye:=fC (.int 2)
abbrev Ycv:=Zf Zye (Zf (fC (.int 4)) (Zf (fC (.int 8)) (Zf (fC (.int 16)) (Zf (fC (.int 32)) (Zf (fC (.int 64)) (Zf (fC (.int 128)) (Zf (fC (.int 256)) Yb)))))))
abbrev Z8z:=tV (Zd gEq (Zd Zc0 (Zd Jd Zae (Zbz gIx (Zmh (Zf Zds Ycv)) Wr)) Zye) Zds)
abbrev Z83:=Zw Wh (Zf (Zd Zc0 (Zd Jd (Zv 3) (fC (.int 512))) (Zd Zov (fC (.int 10)) (fC (.int 13)))) Yb)
abbrev Yab:=tV (Zd gGt (Zbz gIx (Zv 5) Zkn) Zkn)
abbrev Zur:=Zf (Zv 2) Yb
def Yx:FS :=
 (Yd (wE (Z1w true) (Zek 2))
  (Yd (Zea (Zcl Zae) (gNm 3)
  (Yd (wE (Y4 1 [3] (iRa (Zf (Zd gSb Wr Zds) Yb)) Zlw Z8z (Zd Zho Wr Zds)) (Zas 4))
  (Yd (wE Z83 (Zas 5))
  (W6 (tAn (tV (Zd gNe (Zv 4) (Zmh Yb))) Yab)
  (Zte 2 (Zv 5) (fBl Zsg (Zf (Zv 4) Yb)))
  fNx))))
  (Zc2 2 (wE (Y4 1 [2] (Zcl (fBl (Zh4 kdV ltI) (Zf (fBl Zgg Zur) Yb))) Zlw Zer (Zms (Zf (fBl Zl5 Zf3) (Zf (Zbz Zu3 Zae Wr) Yb)))) Wl))))
def Yw:FD:=W5 2 6 Yx
def J2:FS :=
 (W6 (tNo (tD (Ze5 "str" Wr)))
  (Zhz "NoText")
  fNx)
def J4:FD:=W5 1 1 J2
def Wv:FS :=
 (wE (Zfe (fun i j=>decide (i <= j)) (fun i j=>decide (i <= j)) Zds Wr (fC (.int 10))) Wl)
def Wu:FD:=W5 1 1 Wv
def Zav:FS :=
 (Yd (Zea (Zjc (Zf Wr (Zf (fSl Wr (oI Zds) oN) Yb))) (gTp 2 (gCn (gNm 1) (gCn (gNm 2) gNl)))
  (W6 (tNo (tV (Zd Zzn Zae (Zv 2))))
  Zks
  fNx))
  (wE (fC (.bool true)) Wl))
def Ye:FD:=W5 1 3 Zav
abbrev Z5l:=Zbz gIx Zae Zkn
abbrev Z9c:=wE (Zjh (Zw Ye Zl7) (Zjh (Zd gGe Z5l Zds) (Zd gLt (Zbz gIx Zae (fUn Z34 Zds)) Wr))) Wl
def Zcm:FS :=
 (Yd (W6 (tO (tNo (tD (Ze5 "list" Zae))) (tV (Zd gEq (Zc9 Zhn Zl7) Zkn)))
  Zks
  fNx)
  (Yd (Zea (Zcl Zae) (gNm 2)
  (W6 (tNo (tD (Zw Z4 Zur)))
  Zks
  fNx))
  Z9c))
def W8:FD:=W5 2 3 Zcm
def Jm:FS :=
 (Yd (W6 (tO (tNo (tD (Ze5 "tuple" Wr))) (tV (Zd gNe (Zc9 Zhn Zf3) Zye)))
  Zks
  fNx)
  (Yd (W6 (tO (tNo (tD (Zw Z4 (Zf Z4w Yb)))) (tNo (tD (Zw Z4 (Zf Zyh Yb)))))
  Zks
  fNx)
  (wE (Zjh (Zd gGe Zyh Zds) (Zd gEq (Zw Zz (Zf Z4w (Zf Zyh Yb))) Zds)) Wl)))
def Ys:FD:=W5 1 1 Jm
abbrev Z44:=Zbz gIx Zae Zds
abbrev Yat:=wE (Zjh (Zw W8 (Zf Wr (Zf Z5l Yb))) (Zjh (Zw Ys (Zf Z44 Yb)) (Zd gGt (Zbz gIx Z44 Zkn) Zkn))) Wl
def Wo:FS :=
 (Yd (W6 (tO (tNo (tD (Ze5 "tuple" Zae))) (tV (Zd gNe (Zc9 Zhn Zl7) Zye)))
  Zks
  fNx)
  Yat)
def Yc:FD:=W5 2 2 Wo
def Jo:FS :=
 (Yd (W6 (tNo (tD (Ze5 "list" Zae)))
  Zks
  fNx)
  (Yd (Zea (Zcl Zae) (gNm 2)
  (W6 (tNo (tD (Zw Yc (Zf Wr Zur))))
  Zks
  fNx))
  (wE (Zw Ye (Zf (Y4 1 [] (Zcl Zae) Zlw Zer Z4w) Yb)) Wl)))
def Yt:FD:=W5 2 3 Jo
def Zao:FS :=
 (Yd (W6 (tNo (tV (Zfe (fun i j=>decide (i <= j)) (fun i j=>decide (i <= j)) Zds (Zc9 Zpv Zf3) (fC (.int 40)))))
  Zks
  fNx)
  (Yd (Zea (Z6l Wr) (gNm 1)
  (W6 (tV (Zd (Zzk true) Zae (fC (.str "0123456789"))))
  Zks
  fNx))
  (wE (fOr (Zd gEq Wr (fC (.str "0"))) (Zd gNe (Zbz Z43 Wr Zkn) (fC (.str "0")))) Wl)))
def Ww:FD:=W5 1 2 Zao
def Js:FS :=
 (wE (fIf (tD (Zw Ww Zf3)) (Zc9 Zoa Zf3) Zzj) Wl)
def Zt:FD:=W5 1 1 Js
def W2:FS :=
 (Yd (wE Z48 (Zas 1))
  (Yd (W6 (tV (Zd gEq Zyh Zds))
  (wE Zae Wl)
  fNx)
  (wE (Zd Zcn (Zd Zcn Zae (fC (.str "/"))) (Zc9 Zrx (Zf Zyh Yb))) Wl)))
def Z9:FD:=W5 1 2 W2
abbrev Z5v:=Zmv Jt Wr (Zf (fC (.str "/")) Yb)
abbrev Yak:=Yd (wE (fBl Zsg (Zf (Ztp 1) Yb)) (Zre 2))
  (wE (fIf (tAn (tD (Zw Ys Zur)) (tV (Zd gEq (Zw Z9 Zur) Wr))) (Zv 2) Zzj) Wl)
def W3:FS :=
 (Yd (wE (Y4 1 [] (Zcl Z5v) Zlw Zer (Zw Zt Zf3)) (Zek 1))
  (Yd (W6 (tV (Zd gEq (Zc9 Zhn (Zf (Ztp 1) Yb)) Zds))
  (Zah 1 Zds)
  fNx)
  Yak))
def Yj:FD:=W5 1 3 W3
def W0:FS :=
 (Yd (wE (Zmv Jt Wr (Zf Z45 Yb)) (Zas 1))
  (Yd (W6 (tV (Zd gNe (Zc9 Zhn Zl7) Zye))
  (wE Zzj Wl)
  fNx)
  (wE (Zms (Zf (Y4 1 [] (Zcl (Zmv Jt Z5l (Zf (fC (.str " ")) Yb))) Zlw Zer (Zw Zt Zf3)) (Zf (Zw Yj (Zf Z44 Yb)) Yb))) Wl)))
def Z8:FD:=W5 1 2 W0
def Y6:FS :=
 (Yd (W6 (tV (Zd gEq Wr (fC (.str "none"))))
  (wE (Zmh Yb) Wl)
  fNx)
  (wE (Y4 1 [] (Zcl (Zmv Jt Wr (Zf Z3q Yb))) Zlw Zer (Zw Z8 Zf3)) Wl))
def Yk:FD:=W5 1 1 Y6
def Zar:FS :=
 (Yd (wE (Zw J4 Zl7) Zs9)
  (Yd (wE (Zw Yk Zl7) (Zek 2))
  (Yd (W6 (tO (tNo (tD (Zw Wu Zf3))) (tNo (tD (Zw Yt (Zf Wr (Zf (Ztp 2) Yb))))))
  (Zhz "NoText")
  fNx)
  (Zmd 2))))
def Yz:FD:=W5 2 3 Zar
def Za2:FS :=
 (wE Z8l Wl)
def Zaw:FD:=W5 1 1 Za2
def Zaq:FS :=
 (Yd (W6 (tV (Zd gEq (Zc9 Zhn Zf3) Zkn))
  (wE (fC (.str "none")) Wl)
  fNx)
  (wE (Zsb Zfy Z3q (Zf (Y4 2 [] (Zcl Wr) Z5j Zer (Zd Zcn (Zd Zcn (Zw Zaw Zf3) Z45) (Zw Z9 Zl7))) Yb)) Wl))
def Wy:FD:=W5 1 1 Zaq
abbrev Z7s:=Zw Wy (Zf (Zv 4) Yb)
def Zga:FS :=
 (Yd (wE (Zd Zho Zye (Zd Zc0 (Zw Z5 (Zf Wr (Zf Zkn Yb))) (fC (.int 9)))) (Zas 1))
  (Yd (wE (Zw Yw (Zf Zae (Zf (fSl Wr (oI Zye) (oI (fC (.int 62)))) Yb))) (Zas 2))
  (Yd (wE (Zw Yo Zur) (Zas 3))
  (Yd (wE (Y4 2 [] (Zcl (Zv 2)) Z5j Zer (Zlm (Zf (fBl Zl5 Zf3) Zl7))) (Zas 4))
  (Yd (wE Z7s (Zas 5))
  (Yd (W6 (tO (tNo (tD (Ze5 "str" (Zv 5)))) (tO (tV (Zd gNe (Zv 5) (Zv 3))) (tV (Zd gNe (Zv 4) (Zv 2)))))
  Zks
  fNx)
  (Yd (Zea (Zcl (Zmh (Zf Zae (Zf (Zd Zho Zae (Zd Zc0 (Zw Z5 (Zf Wr Z1t)) (Zd gSb (fC (.int 11)) Zae))) Yb)))) (gNm 6)
  (Yd (wE (Zw Yz (Zf (Zv 6) (Zf (Zv 3) Yb))) (Zek 7))
  (Yd (W6 (tNo (tD (Zw (Zj 6) (Zf (Ztp 7) Zur))))
  Zks
  fNx)
  (Yd (Zli 7 8 9 (.int 0))
  (Zah 7 Zkn)))))
  (wE (Zjh (Zw (Zj 6) (Zf (Zw Yz (Zf Zae (Zf (Zv 3) Yb))) Zur)) (Zd gEq Z7s (Zv 3))) Wl))))))))
def Zdj:FD:=W5 1 10 Zga
end My
namespace My
open PySem L2 PySem.Spec
def mkS (l:List Nat):Str:=⟨l.toArray⟩
def dg (n:Nat):List Nat:=(Nat.toDigits 10 n).map Char.toNat
def sgn (i:Int):List Nat:=if i < 0 then [45] else []
def tx (i:Int):List Nat:=sgn i ++ dg i.natAbs
def Cp (l:List Nat):Prop:=∀ c ∈ l,c < 128
theorem Zex (a b:List Nat):mkS a ++ mkS b = mkS (a ++ b):=by
 show Str.mk (a.toArray ++ b.toArray) = Str.mk (a ++ b).toArray
 rw [List.append_toArray]
theorem J0 (a:List Nat):(mkS a).length = a.length:=List.size_toArray ..
theorem Zgs {a b:List Nat} (h:mkS a = mkS b):a = b:=by
 have:=congrArg (fun s:Str=>s.cps.toList) h
 exact this
theorem Z3v (i:Int):Str.ofString (toString i) = mkS (tx i):=by
 rw [Str.ofString_eq_toList]
 refine congrArg (fun l:List Nat=>Str.mk l.toArray) ?_
 unfold tx sgn
 cases i with
 | ofNat n =>
  rw [if_neg (by exact Int.not_lt.mpr (Int.natCast_nonneg n))]
  show (String.ofList (Nat.toDigits 10 n)).toList.map Char.toNat = _
  rw [String.toList_ofList]; rfl
 | negSucc n =>
  rw [if_pos (Int.negSucc_lt_zero n)]
  show ("-" ++ String.ofList (Nat.toDigits 10 (n + 1))).toList.map Char.toNat = _
  rw [String.toList_append,List.map_append,String.toList_ofList (l:=Nat.toDigits 10 (n + 1))]; rfl
theorem dgc:∀ d:Fin 10,(Nat.digitChar d).toNat = 48 + d:=by decide
theorem Zkr {n:Nat} (h:n < 10):dg n = [48 + n]:=by
 unfold dg
 rw [Nat.toDigits_of_lt_base h]
 exact congrArg (fun x=>[x]) (dgc ⟨n,h⟩)
theorem Zry {n:Nat} (h:10 <= n):dg n = dg (n / 10) ++ [48 + n % 10]:=by
 unfold dg
 rw [Nat.toDigits_of_base_le (by decide) h,List.map_append]
 exact congrArg (fun x=>_ ++ [x]) (dgc ⟨n % 10,Nat.mod_lt _ (by decide)⟩)
theorem Zci {n c:Nat} (h:c ∈ dg n):48 <= c/\c <= 57:=by
 induction n using Nat.strongRecOn with
 | ind n ih =>
  by_cases k:n < 10
  .rw [Zkr k] at h
   have:=List.mem_singleton.mp h
   omega
  .rw [Zry (by omega)] at h
   rcases List.mem_append.mp h with h | h
   .exact ih (n / 10) (by omega) h
   .have:=List.mem_singleton.mp h
    omega
theorem Zw3 (n:Nat):dg n ≠ []:=by
 by_cases k:n < 10
 .rw [Zkr k]; intro z; cases z
 .rw [Zry (by omega)]; intro z
  exact List.append_ne_nil_of_right_ne_nil _ (List.cons_ne_nil _ _) z
theorem Z07 {n:Nat} (h:n < 2 ^ 400):(dg n).length <= 400:=by
 unfold dg
 rw [List.length_map]
 exact (Nat.length_toDigits_le_iff (by decide) (by decide)).mpr (Nat.lt_of_lt_of_le h (Nat.pow_le_pow_left (by decide) 400))
theorem Zt5 {i:Int} (h:Bt 400 i):(tx i).length <= 401:=by
 unfold tx sgn
 rw [List.length_append]
 have:=Z07 h
 split
 .rw [List.length_singleton]; omega
 .rw [List.length_nil]; omega
theorem Ze4 {i:Int} (h:Bt 400 i):Zrx [.int i] = some (.str (mkS (tx i))):=by
 have c:i.natAbs.log2 < 1920:=by
  by_cases z:i.natAbs = 0
  .rw [z]; decide
  .exact (Nat.log2_lt z).mpr (Nat.lt_of_lt_of_le h (Nat.pow_le_pow_right (by decide) (by decide)))
 show (if i.natAbs.log2 < 1920 then some (PyData.str (Str.ofString (toString i))) else none) = _
 rw [if_pos c,Z3v]
theorem Zbh {a b:List Nat} (h:a.length + b.length <= 1000000):Zcn (.str (mkS a)) (.str (mkS b)) = some (.str (mkS (a ++ b))):=by
 show (if (mkS a).length + (mkS b).length <= sizeLine then some (PyData.str (mkS a ++ mkS b)) else none) = _
 rw [J0,J0,if_pos (by rw [sizeLine_eq]; omega),Zex]
theorem Zk4 {a:List Nat} (h:Cp a):SeqAt.shaped (.str (mkS a)) = true:=by
 unfold SeqAt.shaped
 rw [PyData.canLay0]
 have:PyData.strOk (mkS a) = true:=by
  unfold PyData.strOk
  rw [Array.all_eq_true_iff_forall_mem]
  intro c m
  have:=h c (List.mem_toArray.mp m)
  exact decide_eq_true (by omega)
 rw [this]; rfl
theorem Zc7 {a b:List Nat} (ha:Cp a) (hb:Cp b):gEq (.str (mkS a)) (.str (mkS b)) = some (.bool (decide (a = b))):=by
 unfold gEq
 rw [if_pos (by rw [Zk4 ha,Zk4 hb]; rfl)]
 refine congrArg (fun z=>some (PyData.bool z)) ?_
 rw [PyData.eqv]
 rw [Bool.eq_iff_iff,beq_iff_eq,decide_eq_true_eq]
 exact ⟨Zgs,congrArg mkS⟩
theorem Zoz {a b:List Nat} (ha:Cp a) (hb:Cp b):gNe (.str (mkS a)) (.str (mkS b)) = some (.bool (!decide (a = b))):=by
 unfold gNe
 rw [if_pos (by rw [Zk4 ha,Zk4 hb]; rfl)]
 refine congrArg (fun z=>some (PyData.bool (!z))) ?_
 rw [PyData.eqv]
 rw [Bool.eq_iff_iff,beq_iff_eq,decide_eq_true_eq]
 exact ⟨Zgs,congrArg mkS⟩
def Qb (n:Nat) (q:Rat):Prop:=Bt n q.num/\Bt n (q.den:Int)
theorem Z4d   {as:FA} {x y:PyData} (h:EvA as δ [x,y]):Zqy i j as δ = .nx ((δ.set i (some (.fz x))).set j (some (.fz y))):=by
 obtain ⟨ts,e1,e2⟩:=h
 unfold Zqy
 rw [e1]
 show (match OT.datas ts with | [d,e]=>RS.nx ((δ.set i (some (.fz d))).set j (some (.fz e))) | _=>.bad) = _
 rw [e2]
theorem Zvz {t b:Int} (hb:0 < b):Int.gcd b (t.fmod b) = Int.gcd t b:=by
 rw [Zch hb,Int.gcd_comm b,Int.emod_def,Int.gcd_sub_mul_left_left]
theorem Znm {t b:Int} (hb:0 < b):Told Wt [.int t,.int b] (.int (Int.gcd t b:Int)):=by
 have ht:∀ x y:Int,EvT (tV Z4q) [some (.fz (.int x)),some (.fz (.int y))] (!decide (y = 0)):=fun x y=>W9 (Zl9 Za Z0 rfl)
 have hu:∀ x y:Int,y ≠ 0→Zqy 0 1 Z4t [some (.fz (.int x)),some (.fz (.int y))] = .nx [some (.fz (.int y)),some (.fz (.int (x.fmod y)))]:=fun x y hy=>Z4d (Zb Za (Zb (Zam Za Za hy) Zg))
 obtain ⟨z',e⟩:=Zhi (f1:=fun x y z=>[some (.fz (.int x)),some (.fz (.int y))]) (f2:=fun x y z=>[]) (t:=tV Z4q) (u:=Zqy 0 1 Z4t) (fun x y z=>ht x y) (fun x y z hy=>⟨none,hu x y hy⟩) ((t.fmod b).toNat + 1) b (t.fmod b) none (by omega) (Jx hb) (by omega)
 have e':whileLoop (tV Z4q) (Zqy 0 1 Z4t) ((t.fmod b).toNat + 1 + 1) [some (.fz (.int t)),some (.fz (.int b))] = .nx [some (.fz (.int (Int.gcd t b:Int))),some (.fz (.int 0))]:=by
  rw [whileLoop]
  have h1:=ht t b
  unfold EvT at h1
  rw [h1]
  dsimp only
  rw [if_pos (by rw [decide_eq_false (by omega)]; rfl),hu t b (by omega)]
  dsimp only
  rw [e,Zvz hb]
 exact Zy rfl <| Zo (Zis _ e' (by intro z; cases z)) (Z3 (EvV.cast (Jc (Zb Za Zg) (Zoi _)) (by rw [Int.natAbs_natCast])))
theorem Zbc {n:Nat} {t b:Int} (hb:0 < b) (hB:Bt n b) (hn:n <= 9000:=by decide):Told Yn [.int t,.int b] (frD (Rat.divInt t b)):=by
 have eg:(Int.gcd t b:Int) = shr t b:=by unfold shr; rw [if_neg (by omega)]
 obtain ⟨e1,e2⟩:=Z75 (t:=t) (b:=b) (by omega) hB hn _ eg
 exact Zy rfl <| Zo (Wg (Zq (Zb Za (Zb Za Zg)) (Znm hb))) (Z3 (Zkw (Zb (Zm Za Za e1) (Zb (Zm Za Za e2) Zg)) (show 2 <= 1000 by decide)))
theorem at0   {q:Rat} (h:δ[i]? = some (some (.fz (frD q)))):EvV (Zbz gIx (Zv i) Zkn) δ (.int q.num):=Zce (Za h) Z0 rfl
theorem at1   {q:Rat} (h:δ[i]? = some (some (.fz (frD q)))):EvV (Zbz gIx (Zv i) Zds) δ (.int (q.den:Int)):=Zce (Za h) Z0 rfl
def Qv (b:Int) (n:Nat) (q:Rat):Prop:=∃ x,q = Rat.divInt x b/\Bt n x
theorem Zyy {t b:Int} (hb:b ≠ 0):((Rat.divInt t b).den:Int) ∣ b:=by
 rw [Rat.den_divInt,if_neg hb]
 have:(b.natAbs / b.gcd t:Nat) ∣ b.natAbs:=Nat.div_dvd_of_dvd (by rw [Int.gcd_eq_natAbs_gcd_natAbs]; exact Nat.gcd_dvd_left ..)
 exact Int.ofNat_dvd_left.mpr this
structure Bot (b:Int):Prop where
 lo:1 <= b
 hi:b <= 1000000000
def Zzq (p:List Int) (lo hi:Option Int):List Int:=(p.drop (HT.sIx p.length 0 lo)).take (HT.sIx p.length p.length hi - HT.sIx p.length 0 lo)
theorem Zsk (p:List Int) (lo hi:Option Int):cutD (p.map PyData.int) lo hi = (Zzq p lo hi).map PyData.int:=by
 unfold cutD Zzq
 rw [List.length_map,List.map_take,List.map_drop]
theorem Z65 {e:FE}  {r p:List Int} {lo hi:FO} {l h:Option Int} (he:EvV e δ (Z1 r)) (hl:EvO lo δ l) (hh:EvO hi δ h) (hp:Zzq r l h = p):EvV (fSl e lo hi) δ (Z1 p):=hp ▸ (Z2f (ds:=r.map PyData.int) he hl hh).cast (by rw [Zsk]; rfl)
theorem Ztt (p:List Int) (a b:Nat):(Zzq p (some (a:Int)) (some ((a + b:Nat):Int))).length <= b:=by
 unfold Zzq
 rw [HT.sIx_nat,HT.sIx_nat,List.length_take,List.length_drop]; omega
theorem Zoj    {k c:Int} (h:δ[i]? = some (some (.fz (Z1 ns)))) (e:Z5 [Z1 ns,.int k] = .ok (.fz (.int c))):EvV (Zw Z5 (Zf (Zv i) (Zf (fC (.int k)) Yb))) δ (.int c):=Zq (Zb (Za h) (Zb Z0 Zg)) (.of e (OT.data_fz _))
theorem tw  {a b:Int}:EvV (Zlm (Zf (fC (.int a)) (Zf (fC (.int b)) Yb))) δ (.tuple [.int a,.int b]):=Zkw (Zb Z0 (Zb Z0 Zg)) (show 2 <= 1000 by decide)
theorem Zr2 {a b:List Int} (h:Z1 a = Z1 b):a = b:=by
 unfold Z1 at h
 injection h with h
 exact List.map_inj_right (fun x y z=>by injection z) |>.mp h
theorem Zvj (x y:Bool):gNe (.bool x) (.bool y) = some (.bool (x != y)):=by cases x <;> cases y <;> rfl
def ctD (p:List Int × Rat):PyData:=.tuple [Z1 p.1,frD p.2]
def Zd6 (L:List (List Int × Rat)):PyData:=.list (L.map ctD)
theorem Zn3 {t:FT} {a b:FE}  {d:PyData} (h:EvT t δ true) (k:EvV a δ d):EvV (fIf t a b) δ d:=by
 obtain ⟨o,e1,e2⟩:=k
 exact ⟨o,by unfold fIf; unfold EvT at h; rw [h]; exact e1,e2⟩
theorem Zby (q:Rat):Told Ys [frD q] (.bool true):=by
 have g1:(Int.gcd q.num (q.den:Int):Int) = 1:=by
  rw [Int.gcd_eq_natAbs_gcd_natAbs,Int.natAbs_natCast]
  exact congrArg Int.ofNat q.reduced
 have w:∀ {δ:Zc} {k i:Int},EvV (Zbz gIx Wr (fC (.int k))) δ (.int i)→EvT (tNo (tD (Zw Z4 (Zf (Zbz gIx Wr (fC (.int k))) Yb)))) δ false:=fun h=>Zbr (p:=true) (Ju (Zq (Zb h Zg) (.of (Zdx _) (OT.data_fz _))))
 exact Zy rfl <| Zo (Zn (Ztn (Zbr (p:=true) (Ju (Zdq Za rfl))) (W9 (Zl9 (Jc (Zb (Za (d:=frD q)) Zg) (Zqi [.int q.num,.int (q.den:Int)])) Z0 rfl))) rfl) <|
  Zo (Zn (Ztn (w (at0 rfl)) (w (at1 rfl))) rfl) <| Z3 (W7 (Zwp (at1 rfl) Z0 (decide_eq_true (Zro q))) (Zag (Zq (Zb (at0 rfl) (Zb (at1 rfl) Zg)) (.of (Zb3 _ _) (OT.data_fz _))) Z0 (by rw [g1]; rfl)))
def Ybg (n:Nat) (f:Nat→Nat→PyData):PyData:=.list ((List.range n).map fun i=>.list ((List.range n).map fun j=>f i j))
def frG (T:Nat→Nat→Rat):Nat→Nat→PyData:=fun i j=>frD (T i j)
theorem Zgl  (h:∀ d ∈ ds,Yu d = true):Yu (.list ds) = true:=by
 rw [Yu]
 induction ds with
 | nil=>rfl
 | cons d ds ih=>rw [Zcf,h d (.head _),ih fun e he=>h e (.tail _ he)]; rfl
theorem Zjr (p:List Int):Sh 1 (Z1 p):=Zjs fun d m=>by
 obtain ⟨x,_,rfl⟩:=List.mem_map.mp m
 exact Zo8 x
theorem Zbk (p:List Int):Yu (Z1 p) = true:=Zgl fun d m=>by
 obtain ⟨x,_,rfl⟩:=List.mem_map.mp m
 rfl
theorem Ztk (a b:List Int):gNe (Z1 a) (Z1 b) = some (.bool (!decide (a = b))):=by
 have s:SeqAt.shaped (Z1 a) = true:=((Zjr a).shp (by omega)).ok
 have t:SeqAt.shaped (Z1 b) = true:=((Zjr b).shp (by omega)).ok
 unfold gNe
 rw [if_pos (by rw [s,t]; rfl)]
 by_cases c:a = b
 .subst c
  rw [Zk7 (Zbk a)]
  simp
 .have:PyData.eqv (Z1 a) (Z1 b) = false:=by
   cases e:PyData.eqv (Z1 a) (Z1 b) with
   | false=>rfl
   | true=>exact absurd (Zr2 ((Zj3 _ _ (Zbk a) (Zbk b)).mp e)) c
  rw [this,decide_eq_false c]
def Z4y  (p:List α) (lo hi:Option Int):List α:=(p.drop (HT.sIx p.length 0 lo)).take (HT.sIx p.length p.length hi - HT.sIx p.length 0 lo)
theorem Zk8 {n:Nat}  {xs:List PyData} {Q:PyData→Prop} (hl:xs.length = np) (h:EpS S (Jq n xs) (fun _=>False) fun d _=>Q d):∃ d,Told (W5 np n S) xs d/\Q d:=by
 rcases h with ⟨_,_,z⟩ | ⟨o,δ',e,h⟩
 .exact z.elim
 .exact ⟨_,Zy hl ⟨o,δ',e,rfl⟩,h⟩
theorem Zlg     {g:FG} {t:FT}  (xs:List α) (mk f:α→PyData) (pr:α→Bool) (hi:EvI it δ (xs.map mk)) (hz:xs.length <= 1000000) (hb:blk 2 caps δ = none :: none :: cs) (h:∀ x ∈ xs,∀ z0 z1,∃ w0 w1,g (mk x) (z0 :: z1 :: cs) = some (w0 :: w1 :: cs)/\EvT t (w0 :: w1 :: cs) (pr x)/\EvV me (w0 :: w1 :: cs) (f x)):EvV (Y4 2 caps it g t me) δ (.list ((xs.filter pr).map f)):=by
 obtain ⟨ts,δ',e1,z0,z1,rfl,e2⟩:=Z5s (t:=t) (e:=me) (g:=g) (δ:=none :: none :: cs)
  (fun k acc δ=>∃ z0 z1,δ = z0 :: z1 :: cs/\acc = ((xs.take k).filter pr).map f) (xs.map mk) 0 [] ⟨none,none,rfl,rfl⟩ (fun k d acc δ hd q=>by
   obtain ⟨z0,z1,rfl,rfl⟩:=q
   rw [Nat.zero_add] at *
   rw [List.getElem?_map] at hd
   cases e:xs[k]? with
   | none=>rw [e] at hd; cases hd
   | some p =>
    rw [e] at hd
    cases hd
    have et:xs.take (k + 1) = xs.take k ++ [p]:=by rw [List.take_succ,e]; rfl
    obtain ⟨w0,w1,e1,e2,e3⟩:=h p (List.mem_of_getElem? e) z0 z1
    refine ⟨_,e1,Zd7 e2 ⟨fun c=>Zfr e3 ⟨_,_,rfl,?_⟩,fun c=>⟨_,_,rfl,?_⟩⟩⟩
    .rw [et,List.filter_append,List.filter_cons_of_pos c,List.filter_nil,List.map_append]; rfl
    .rw [et,List.filter_append,List.filter_cons_of_neg (by rw [c]; decide),List.filter_nil,List.append_nil])
 rw [Nat.zero_add,List.length_map,List.take_length,List.nil_append] at e2
 refine ⟨.nd ts,?_,by rw [OT.data_nd,e2]⟩
 unfold EvI at hi
 unfold Y4
 rw [hi]
 show (if (xs.map mk).length <= sizeLine then _ else none) = _
 rw [if_pos (by rw [List.length_map,sizeLine_eq]; omega),hb,e1]; rfl
inductive Rch (E:Nat→Nat→Prop) (s:Nat):Nat→Prop
 | refl:Rch E s s
 | step {k m:Nat}:Rch E s k→E k m→Rch E s m
theorem Z09 {a b:FE}  {x y d:PyData} (ha:EvV a δ x) (hb:EvV b δ y) (h:Zu3 x y = some (.fz d)):EvV (Zbz Zu3 a b) δ d:=Znq ha hb h (OT.data_fz _)
theorem Zgh {f g:Int→Int→Bool} {a b c:FE}  {i j k:Int} (ha:EvV a δ (.int i)) (hb:EvV b δ (.int j)) (hc:EvV c δ (.int k)) (h:f i j = true) (hg:g j k = true):EvV (Zfe f g a b c) δ (.bool true):=by
 obtain ⟨_,e1,d1⟩:=ha
 obtain ⟨_,e2,d2⟩:=hb
 obtain ⟨_,e3,d3⟩:=hc
 refine ⟨.fz (.bool true),?_,OT.data_fz _⟩
 unfold Zfe
 rw [e1,Option.bind_some,e2,Option.bind_some]
 dsimp only
 rw [d1,d2]
 dsimp only
 rw [if_pos h,e3,Option.bind_some,d3]
 dsimp only
 rw [hg]
theorem Zkp       (xs:List α) (mk f:α→PyData) (hi:EvI it δ (xs.map mk)) (hz:xs.length <= 1000000) (hb:blk 1 caps δ = none :: cs) (h:∀ x ∈ xs,EvV me (some (.fz (mk x)) :: cs) (f x)):∃ rs,Y4 1 caps it Zlw Zer me δ = some (.nd rs,δ)/\OT.datas rs = xs.map f:=by
 obtain ⟨t,e1,e2⟩:=Zgu xs mk f hi hz hb h
 cases t with
 | fz d =>
  unfold Y4 at e1
  unfold EvI at hi
  rw [hi,Option.bind_some] at e1
  split at e1
  .obtain ⟨z,h1,h2⟩:=bs e1
   cases h2
  .cases e1
 | tp ts=>rw [OT.data_tp] at e2; cases e2
 | dc _ _ _=>rw [OT.data_dc] at e2; cases e2
 | nd rs =>
  rw [OT.data_nd,<- datas_map] at e2
  injection e2 with e2
  exact ⟨rs,e1,e2⟩
theorem Zzd {e j:FE}   {d y:PyData} {t:Bool}   {k:KY} (he:EvV e δ d) (hi:δ[i]? = some (some (.dc t ks ds))) (hj:EvV j δ y) (hk:Zh5 y = some k) (ht:Zu7 k = t) (hl:ks.length < 1000000):Zte i e j δ = .nx (δ.set i (some (.dc t (Zi8 k ks) (Zi6 k d ks ds)))):=by
 obtain ⟨t1,e1,d1⟩:=he
 obtain ⟨t2,e2,d2⟩:=hj
 unfold Zte
 rw [Zbn,e1,Wb]
 rw [hi]
 dsimp only
 rw [Zbn,e2,Wb,d1,d2]
 rw [hk]
 dsimp only
 rw [if_pos ⟨ht,by rw [sizeLine_eq]; omega⟩]
theorem Z4r:Str.ofString "/" = mkS [47]:=by rw [Str.ofString_eq_toList]; rfl
theorem s_0:Str.ofString "0" = mkS [48]:=by rw [Str.ofString_eq_toList]; rfl
def en (i:Int) (s:List Nat) (n:Nat):Zc:=[some (.fz (.int i)),some (.fz (.str (mkS s))),some (.fz (.int n))]
def shw (p:Int × Int):List Nat:=tx p.1 ++ (if p.2 = 1 then [] else 47 :: tx p.2)
theorem Zvf {p:Int × Int} (h:p.2 ≠ 1):shw p = tx p.1 ++ [47] ++ tx p.2:=by
 unfold shw
 rw [if_neg h,List.append_assoc]; rfl
theorem Zxa {p:Int × Int} (h1:Bt 400 p.1) (h2:Bt 400 p.2):Told Z9 [prD p] (.str (mkS (shw p))):=by
 have l1:=Zt5 h1
 have l2:=Zt5 h2
 refine Zy rfl <| Zo (Wg (Jc (Zb (Zce (d:=.int p.1) Za Z0 rfl) Zg) (Ze4 h1))) ?_
 by_cases c:p.2 = 1
 .have:shw p = tx p.1:=by unfold shw; rw [if_pos c,List.append_nil]
  rw [this]
  exact Wj (Jb (W9 (Zag (Zce (d:=.int p.2) Za Z0 rfl) Z0 (decide_eq_true c))) (Z3 Za))
 .rw [Zvf c]
  refine Zo (Zn (W9 (Zag (Zce (d:=.int p.2) Za Z0 rfl) Z0 (decide_eq_false c))) rfl) (Z3 ?_)
  exact Zm (Zm Za Z0 (by rw [Z4r]; exact Zbh (by rw [List.length_singleton]; omega))) (Jc (Zb (Zce (d:=.int p.2) Za Z0 rfl) Zg) (Ze4 h2)) (Zbh (by rw [List.length_append,List.length_singleton]; omega))
theorem Zyf {e:FE}   {d:PyData} (h:EvV e δ d) (hf:J8 d = true):wE e (Zre i) δ = .nx (δ.set i (some (.fz d))):=by
 obtain ⟨o,e1,rfl⟩:=h
 rw [Zbn,e1,Wb,Zs1,if_pos hf]
def lw (ns:List Int) (z1 z2 z3 z4 z5 z6 z7 z8 z9 z10:Option OT):Zc:=[some (.fz (Z1 ns)),z1,z2,z3,z4,z5,z6,z7,z8,z9,z10]
theorem Zr8  (f:α→PyData) (L:List α) (lo hi:Option Int):cutD (L.map f) lo hi = (Z4y L lo hi).map f:=by
 unfold cutD Z4y
 rw [List.length_map,List.map_take,List.map_drop]
theorem Zsu {p:List Int} (h:0 < p.length):gIx (Z1 p) (.int (-1)) = some (.fz (.int (p.getD (p.length - 1) 0))):=by
 unfold Z1
 rw [Zv1]
 have e:p = p.dropLast ++ [p.getLast (by intro z; rw [z] at h; simp at h)]:=(List.dropLast_concat_getLast _).symm
 have g:p.getD (p.length - 1) 0 = p.getLast (by intro z; rw [z] at h; simp at h):=by
  rw [List.getLast_eq_getElem,List.getD_eq_getElem?_getD,List.getElem?_eq_getElem (by omega)]; rfl
 rw [g]
 conv=>lhs; rw [e,List.map_append]
 rw [List.map_cons,List.map_nil,Ztl]; rfl
theorem Z2c  (p:List α):Z4y p (some 1) none = p.drop 1:=by
 cases p with
 | nil=>rfl
 | cons x p =>
  unfold Z4y
  have e1:HT.sIx (x :: p).length 0 (some (1:Int)) = 1:=by unfold HT.sIx; simp
  have e2:HT.sIx (x :: p).length (x :: p).length none = (x :: p).length:=rfl
  rw [e1,e2]
  exact List.take_of_length_le (by rw [List.length_drop]; omega)
def Ris  (lt:α→α→Bool) (p:List α):Prop:=∀ k x y,p[k]? = some x→p[k + 1]? = some y→lt x y = true
theorem scan2  {enc:α→PyData} {lt:α→α→Bool} {p:List α}   {g:FG} {R:PyData→Zc→Prop} {E:Option OT→Option OT→Zc} (hp:∀ z z',(E z z')[i]? = some (some (.fz (.list (p.map enc))))) (hg:∀ x y z z',g (.tuple [enc x,enc y]) (E z z') = some (E (some (.fz (enc x))) (some (.fz (enc y)))))
  (hS:∀ x y,x ∈ p→y ∈ p→∀ N:Zc→Prop,(lt x y = true→N (E (some (.fz (enc x))) (some (.fz (enc y)))))→(lt x y = false→R (.bool false) (E (some (.fz (enc x))) (some (.fz (enc y)))))→EpS S (E (some (.fz (enc x))) (some (.fz (enc y)))) N R)
  (no:¬ Ris lt p→∀ δ,R (.bool false) δ) (yes:Ris lt p→∀ z z',EpS S' (E z z') (fun _=>False) R) (z z':Option OT):EpS (Yd (Zea (Zjc (Zf (Zv i) (Zf (fSl (Zv i) (oI Zds) oN) Yb))) g S) S') (E z z') (fun _=>False) R:=by
 have ez:EvI (Zjc (Zf (Zv i) (Zf (fSl (Zv i) (oI Zds) oN) Yb))) (E z z') ((p.zip (p.drop 1)).map fun q=>.tuple [enc q.1,enc q.2]):=by
  refine Zym (as:=p.map enc) (bs:=(p.drop 1).map enc) (Za (hp z z')) ((Z2f (ds:=p.map enc) (Za (hp z z')) (Z58 (Z0 (d:=.int 1))) Ybf).cast (by rw [Zr8,Z2c])) ?_
  unfold Zj8
  rw [List.zip_map,List.map_map]; rfl
 refine Zkm (Zo3 (ds:=(p.zip (p.drop 1)).map fun q:α × α=>.tuple [enc q.1,enc q.2]) (fun k δ=>(∃ z z',δ = E z z')/\∀ j x y,j < k→p[j]? = some x→p[j + 1]? = some y→lt x y = true) ez ⟨⟨_,_,rfl⟩,fun j _ _ hj=>absurd hj (Nat.not_lt_zero j)⟩ (fun k d δ hd q=>?_) fun δ' q=>?_)
 .obtain ⟨⟨z,z',rfl⟩,hq⟩:=q
  rw [List.getElem?_map] at hd
  cases e:(p.zip (p.drop 1))[k]? with
  | none=>rw [e] at hd; cases hd
  | some xy =>
   rw [e] at hd
   cases hd
   obtain ⟨a,b⟩:=List.getElem?_zip_eq_some.mp e
   rw [List.getElem?_drop,Nat.add_comm] at b
   refine ⟨_,hg _ _ _ _,hS xy.1 xy.2 (List.mem_of_getElem? a) (List.mem_of_getElem? b) _ (fun l=>⟨⟨_,_,rfl⟩,fun j x y hj ha hb=>?_⟩) fun l=>no (fun r=>?_) _⟩
   .by_cases c:j = k
    .subst c
     rw [a] at ha
     rw [b] at hb
     cases ha
     cases hb
     exact l
    .exact hq j x y (by omega) ha hb
   .rw [r k _ _ a b] at l; cases l
 .obtain ⟨⟨z,z',rfl⟩,hq⟩:=q
  refine yes (fun k x y ha hb=>hq k x y ?_ ha hb) z z'
  have:=(List.getElem?_eq_some_iff.mp hb).1
  rw [List.length_map,List.length_zip,List.length_drop]
  omega
theorem Zez  {enc:α→PyData} {lt:α→α→Bool} (hl:∀ a b,Zzn (enc a) (enc b) = some (.bool (lt a b))) (p:List α):∃ b:Bool,Told Ye [.list (p.map enc)] (.bool b)/\(b = true ↔ Ris lt p):=by
 have key:∃ d,Told Ye [.list (p.map enc)] d/\∃ b,d = .bool b/\(b = true ↔ Ris lt p):=by
  refine Zk8 rfl (scan2 (enc:=enc) (lt:=lt) (p:=p) (E:=fun z z'=>[some (.fz (.list (p.map enc))),z,z']) (fun _ _=>rfl) (fun _ _ _ _=>rfl) (fun x y _ _ N h1 h2=>?_) (fun n _=>⟨false,rfl,(fun z=>nomatch z),fun z=>absurd z n⟩) (fun r z z'=>Zg3 (Zfr Z0 ⟨true,rfl,fun _=>r,fun _=>rfl⟩)) none none)
  exact Zpr (Zd7 (Zbr (W9 (Zm (Za (i:=1) rfl) (Za (i:=2) rfl) (hl x y)))) ⟨fun c=>Zg3 (Zfr Z0 (h2 (by simpa using c))),fun c=>Zqv (h1 (by simpa using c))⟩)
 obtain ⟨d,h,b,rfl,hb⟩:=key
 exact ⟨b,h,hb⟩
theorem Zz7 (a b:Int):Zzn (.int a) (.int b) = some (.bool (decide (a < b))):=rfl
theorem Z0x (a b:List Int):Zzn (Z1 a) (Z1 b) = some (.bool (ltI a b)):=by
 show ((none:Option PyData).or ((Zjb (a.map PyData.int)).bind _)) = _
 rw [Zck,Option.bind_some,Zck,Option.bind_some]; rfl
def Z1b (n:Int) (p:List Int):Prop:=p ≠ []/\Ris (fun a b=>decide (a < b)) p/\1 <= p.getD 0 0/\p.getD (p.length - 1) 0 < n
theorem Zm6 (n:Int) (p:List Int):∃ b:Bool,Told W8 [.int n,Z1 p] (.bool b)/\(b = true ↔ Z1b n p):=by
 by_cases c:p.length = 0
 .refine ⟨false,Zy rfl <| Wj <| Jb (Ztn (Zbr (p:=true) (Ju (Zdq (Za (i:=1) (d:=Z1 p) rfl) rfl))) (W9 (Zag (Zbi (Za rfl)) Z0 (decide_eq_true (by omega))))) (Z3 Z0),(fun z=>nomatch z),fun z=>absurd (List.length_eq_zero_iff.mp c) z.1⟩
 have ne:p ≠ []:=fun z=>c (by rw [z]; rfl)
 obtain ⟨r,Tr,hr⟩:=Zez Zz7 p
 have head:∀ {d:PyData},(∀ z,Zkg Z9c [some (.fz (.int n)),some (.fz (Z1 p)),z] d)→Told W8 [.int n,Z1 p] d:=fun {d} hd=>Zy rfl <| Zo (Zn (Ztn (Zbr (p:=true) (Ju (Zdq (Za (i:=1) (d:=Z1 p) rfl) rfl))) (W9 (Zag (Zbi (Za rfl)) Z0 (decide_eq_false (by omega))))) rfl) <| Zla (ds:=p.map PyData.int) (fun i δ=>∃ z,δ = [some (.fz (.int n)),some (.fz (Z1 p)),z]) (J7 (Za (i:=1) rfl)) ⟨_,rfl⟩ (fun i d δ hd q=>by
  obtain ⟨z,rfl⟩:=q
  obtain ⟨x,_,rfl⟩:=List.mem_map.mp (List.mem_of_getElem? hd)
  exact ⟨_,_,rfl,.inl (Zn (Zbr (p:=true) (Ju (Zq (Zb (Za (i:=2) rfl) Zg) (.of (Zdx x) (OT.data_fz _))))) rfl),_,rfl⟩) fun δ' q=>by
  obtain ⟨z,rfl⟩:=q
  exact hd z
 have er:∀ z,EvV (Zw Ye Zl7) [some (.fz (.int n)),some (.fz (Z1 p)),z] (.bool r):=fun z=>Zq (Zb (Za (i:=1) rfl) Zg) Tr
 cases r with
 | false=>exact ⟨false,head fun z=>Z3 (Zgq (er z)),(fun z=>nomatch z),fun z=>hr.mpr z.2.1⟩
 | true =>
  have a0:∀ z,EvV Z5l [some (.fz (.int n)),some (.fz (Z1 p)),z] (.int (p.getD 0 0)):=fun z=>Zh7 (Za (i:=1) rfl) (Z0 (d:=.int 0)) (by decide) (by omega)
  by_cases c3:1 <= p.getD 0 0
  .refine ⟨decide (p.getD (p.length - 1) 0 < n),head fun z=>Z3 (W7 (er z) (W7 (Zwp (a0 z) Z0 (decide_eq_true c3)) (Zf4 (Zce (Za (i:=1) rfl) (Z13 Z0) (Zsu (by omega))) (Za (i:=0) rfl) rfl))),fun z=>⟨ne,hr.mp rfl,c3,of_decide_eq_true z⟩,fun z=>decide_eq_true z.2.2.2⟩
  .exact ⟨false,head fun z=>Z3 (W7 (er z) (Zgq (Zwp (a0 z) Z0 (decide_eq_false c3)))),(fun z=>nomatch z),fun z=>absurd z.2.2.1 c3⟩
def WL (n:Int) (L:List (List Int × Rat)):Prop:=(∀ p ∈ L,Z1b n p.1/\0 < p.2.num)/\Ris (fun a b:List Int × Rat=>ltI a.1 b.1) L
theorem Zcu (n:Int) (p:List Int × Rat):∃ b:Bool,Told Yc [.int n,ctD p] (.bool b)/\(b = true ↔ Z1b n p.1/\0 < p.2.num):=by
 obtain ⟨r,Tr,hr⟩:=Zm6 n p.1
 have head:∀ {d:PyData},Zkg Yat [some (.fz (.int n)),some (.fz (ctD p))] d→Told Yc [.int n,ctD p] d:=fun h=>Zy rfl <| Zo (Zn (Ztn (Zbr (p:=true) (Ju (Zdq (Za (i:=1) (d:=ctD p) rfl) rfl))) (W9 (Zl9 (Jc (Zb (Za (i:=1) (d:=ctD p) rfl) Zg) (Zqi [Z1 p.1,frD p.2])) Z0 rfl))) rfl) h
 have e1:EvV Z44 [some (.fz (.int n)),some (.fz (ctD p))] (frD p.2):=Zce (Za (i:=1) (d:=ctD p) rfl) (Z0 (d:=.int 1)) rfl
 have er:=Zq (δ:=[some (.fz (.int n)),some (.fz (ctD p))]) (Zb (Za (i:=0) rfl) (Zb (Zce (Za (i:=1) (d:=ctD p) rfl) (Z0 (d:=.int 0)) rfl) Zg)) Tr
 cases r with
 | false=>exact ⟨false,head (Z3 (Zgq er)),(fun z=>nomatch z),fun z=>hr.mpr z.1⟩
 | true=>exact ⟨decide (0 < p.2.num),head (Z3 (W7 er (W7 (Zq (Zb e1 Zg) (Zby p.2)) (Zz8 (Zce e1 (Z0 (d:=.int 0)) rfl) Z0 rfl)))),fun z=>⟨hr.mp rfl,of_decide_eq_true z⟩,fun z=>decide_eq_true z.2⟩
theorem Zf2 (n:Int) (L:List (List Int × Rat)) (hl:L.length <= 1000):∃ b:Bool,Told Yt [.int n,Zd6 L] (.bool b)/\(b = true ↔ WL n L):=by
 obtain ⟨r,Tr,hr⟩:=Zez Z0x (L.map fun p=>p.1)
 have hr2:r = true ↔ Ris (fun a b:List Int × Rat=>ltI a.1 b.1) L:=hr.trans ⟨fun h k x y hx hy=>h k x.1 y.1 (by rw [List.getElem?_map,hx]; rfl) (by rw [List.getElem?_map,hy]; rfl),fun h k x y hx hy=>by
  rw [List.getElem?_map] at hx hy
  cases ex:L[k]? with
  | none=>rw [ex] at hx; cases hx
  | some u =>
   cases ey:L[k + 1]? with
   | none=>rw [ey] at hy; cases hy
   | some v =>
    rw [ex] at hx
    rw [ey] at hy
    cases hx
    cases hy
    exact h k u v ex ey⟩
 have key:∃ d,Told Yt [.int n,Zd6 L] d/\∃ b,d = .bool b/\(b = true ↔ WL n L):=by
  refine Zk8 rfl (Zkm (Zpr (Zd7 (Zbr (p:=true) (Ju (Zdq (Za (i:=1) (d:=Zd6 L) rfl) rfl))) ⟨(fun c=>nomatch c),fun _=>Zqv (Zkm (Zo3 (ds:=L.map ctD) (fun k δ=>(∃ z,δ = [some (.fz (.int n)),some (.fz (Zd6 L)),z])/\∀ p ∈ L.take k,Z1b n p.1/\0 < p.2.num) (J7 (Za (i:=1) rfl)) ⟨⟨_,rfl⟩,fun _ m=>nomatch m⟩ (fun k d δ hd q=>?_) fun δ' q=>?_))⟩)))
  .obtain ⟨⟨z,rfl⟩,hq⟩:=q
   rw [List.getElem?_map] at hd
   cases e:L[k]? with
   | none=>rw [e] at hd; cases hd
   | some p =>
    rw [e] at hd
    cases hd
    obtain ⟨b,Tb,hb⟩:=Zcu n p
    refine ⟨_,rfl,Zpr (Zd7 (Zbr (Ju (Zq (Zb (Za (i:=0) rfl) (Zb (Za (i:=2) rfl) Zg)) Tb))) ⟨fun c=>Zg3 (Zfr Z0 ⟨false,rfl,(fun z=>nomatch z),fun z=>?_⟩),fun c=>Zqv ⟨⟨_,rfl⟩,fun t ht=>?_⟩⟩)⟩
    .rw [hb.mpr (z.1 p (List.mem_of_getElem? e))] at c; cases c
    .rw [List.take_succ,e] at ht
     rcases List.mem_append.mp ht with m | m
     .exact hq t m
     .rw [List.mem_singleton.mp m]; exact hb.mp (by simpa using c)
  .obtain ⟨⟨z,rfl⟩,hq⟩:=q
   rw [List.length_map,List.take_length] at hq
   refine Zg3 (Zfr (Zq (Zb (EvV.cast (Zgu (cs:=[]) L ctD (fun p=>Z1 p.1) (J7 (Za (i:=1) rfl)) (by omega) rfl fun p _=>Zce (Za (i:=0) (d:=ctD p) rfl) (Z0 (d:=.int 0)) rfl) (y:=.list ((L.map fun p=>p.1).map Z1)) ?_) Zg) Tr) ⟨r,rfl,fun z=>⟨hq,hr2.mp z⟩,fun z=>hr2.mpr z.2⟩)
   rw [List.map_map]; rfl
 obtain ⟨d,h,b,rfl,hb⟩:=key
 exact ⟨b,h,hb⟩
def kA (A:List Int):KY:=.inr (A.map fun x=>(.inl x:Key))
def kyA (q:List Int × Int):KY:=kA q.1
theorem Zp3 {A B:List Int} (h:kA A = kA B):A = B:=by
 have:A.map (fun x=>(.inl x:Key)) = B.map fun x=>(.inl x:Key):=Sum.inr.inj h
 exact (List.map_inj_right fun x y e=>Sum.inl.inj e).mp this
theorem Z9e (A:List Int):kyD (kA A) = .tuple (A.map PyData.int):=by
 show PyData.tuple ((A.map _).map Zwb) = _
 rw [List.map_map]; rfl
theorem Zz3 (A:List Int):Zh5 (.tuple (A.map PyData.int)) = some (kA A):=by rw [<- Z9e]; exact Zus _
theorem Z6e {A:List Int} {D:List (List Int × Int)}:Zq0 (kA A) (D.map kyA) = true ↔ A ∈ D.map Prod.fst:=by
 unfold Zq0
 rw [List.any_map,List.any_eq_true]
 constructor
 .rintro ⟨q,hq,h⟩
  have h:kyA q = kA A:=of_decide_eq_true h
  rw [<- Zp3 h]
  exact List.mem_map_of_mem hq
 .intro h
  obtain ⟨q,hq,rfl⟩:=List.mem_map.mp h
  exact ⟨q,hq,decide_eq_true rfl⟩
theorem Zpq     {t:FT}  (xs:List α) (mk f:α→PyData) (pr:α→Bool) (hi:EvI it δ (xs.map mk)) (hz:xs.length <= 1000000) (hb:blk 1 caps δ = none :: cs) (ht:∀ x ∈ xs,EvT t (some (.fz (mk x)) :: cs) (pr x)) (h:∀ x ∈ xs,pr x = true→EvV me (some (.fz (mk x)) :: cs) (f x)):EvV (Y4 1 caps it Zlw t me) δ (.list ((xs.filter pr).map f)):=by
 have ch:∀ x,∃ o:OT,x ∈ xs→pr x = true→me (some (.fz (mk x)) :: cs) = some (o,some (.fz (mk x)) :: cs)/\o.data = f x:=fun x=>by
  by_cases c:x ∈ xs/\pr x = true
  .obtain ⟨o,e1,e2⟩:=h x c.1 c.2
   exact ⟨o,fun _ _=>⟨e1,e2⟩⟩
  .exact ⟨.fz .none,fun a b=>absurd ⟨a,b⟩ c⟩
 obtain ⟨g,hg⟩:=Classical.axiomOfChoice ch
 unfold EvI at hi
 refine ⟨_,Zqd (cs:=cs) xs mk pr g hi (by rw [sizeLine_eq]; omega) hb (fun x hx=>ht x hx) fun x hx hp=>(hg x hx hp).1,?_⟩
 rw [OT.data_nd,List.map_map]
 refine congrArg PyData.list (List.map_congr_left fun x hx=>?_)
 obtain ⟨h1,h2⟩:=List.mem_filter.mp hx
 exact (hg x h1 h2).2
theorem Z6s (p:List Int × Rat):Sh 2 (ctD p):=Zug fun d m=>by
 rcases List.mem_cons.mp m with rfl | m
 .exact Zjr _
 .rw [List.mem_singleton.mp m]; exact Zia [p.2.num,(p.2.den:Int)]
theorem Zs5 (p:List Int × Rat):Yu (ctD p) = true:=by
 show (Yu (Z1 p.1) && (Yu (frD p.2) && true)) = true
 rw [Zbk]; rfl
theorem Zt2 (L:List (List Int × Rat)):Sh 3 (Zd6 L):=Zjs fun d m=>by
 obtain ⟨p,_,rfl⟩:=List.mem_map.mp m
 exact Z6s p
theorem Zqb (L:List (List Int × Rat)):Yu (Zd6 L) = true:=Zgl fun d m=>by
 obtain ⟨p,_,rfl⟩:=List.mem_map.mp m
 exact Zs5 p
theorem Zrn  {f:α→β} {l m:List β} (h:l.Perm m):∀ L:List α,m = L.map f→∃ L1:List α,L1.Perm L/\l = L1.map f:=by
 induction h with
 | nil=>exact fun L e=>⟨[],by rw [List.map_eq_nil_iff.mp e.symm],rfl⟩
 | cons x h ih =>
  intro L e
  cases L with
  | nil=>cases e
  | cons y L =>
   injection e with e1 e2
   obtain ⟨L1,p,e3⟩:=ih L e2
   exact ⟨y :: L1,p.cons y,by rw [e1,e3]; rfl⟩
 | swap x y l =>
  intro L e
  cases L with
  | nil=>cases e
  | cons a L =>
   cases L with
   | nil=>injection e with _ e; cases e
   | cons b L =>
    injection e with e1 e2
    injection e2 with e2 e3
    exact ⟨b :: a :: L,.swap a b L,by rw [e1,e2,e3]; rfl⟩
 | trans _ _ ih1 ih2 =>
  intro L e
  obtain ⟨L1,p1,e1⟩:=ih2 L e
  obtain ⟨L2,p2,e2⟩:=ih1 L1 e1
  exact ⟨L2,p2.trans p1,e2⟩
theorem Zvd:∀ {a b c:List Int},ltI a b = true→ltI b c = true→ltI a c = true:=by
 intro a
 induction a with
 | nil =>
  intro b c h1 h2
  cases b with
  | nil=>cases h1
  | cons y b=>cases c with
   | nil=>cases h2
   | cons z c=>rfl
 | cons x a ih =>
  intro b c h1 h2
  cases b with
  | nil=>cases h1
  | cons y b=>cases c with
   | nil=>cases h2
   | cons z c =>
    unfold ltI at h1 h2 |-
    by_cases e1:x = y
    .subst e1
     rw [if_pos rfl] at h1
     by_cases e2:x = z
     .rw [if_pos e2] at h2 |-; exact ih h1 h2
     .rw [if_neg e2] at h2 |-; exact h2
    .rw [if_neg e1] at h1
     have l1:=of_decide_eq_true h1
     by_cases e2:y = z
     .subst e2
      rw [if_neg e1]; exact h1
     .rw [if_neg e2] at h2
      have l2:=of_decide_eq_true h2
      rw [if_neg (by omega)]
      exact decide_eq_true (by omega)
theorem Zxi:∀ a:List Int,ltI a a = false:=by
 intro a
 induction a with
 | nil=>rfl
 | cons x a ih=>unfold ltI; rw [if_pos rfl]; exact ih
theorem Zw5:∀ {a b:List Int},a ≠ b→ltI a b = false→ltI b a = true:=by
 intro a
 induction a with
 | nil =>
  intro b ne h
  cases b with
  | nil=>exact absurd rfl ne
  | cons y b=>cases h
 | cons x a ih =>
  intro b ne h
  cases b with
  | nil=>rfl
  | cons y b =>
   unfold ltI at h |-
   by_cases e:x = y
   .subst e
    rw [if_pos rfl] at h |-
    exact ih (fun z=>ne (z ▸ rfl)) h
   .rw [if_neg e] at h
    rw [if_neg (Ne.symm e)]
    have:=of_decide_eq_false h
    exact decide_eq_true (by omega)
def jn (c:Nat):List (List Nat)→List Nat
 | []=>[]
 | [x]=>x
 | x :: y :: r=>x ++ c :: jn c (y :: r)
theorem Zpj (x:Str):x = mkS x.cps.toList:=by
 unfold mkS
 rw [Array.toArray_toList]
theorem Zjv (c:Nat):∀ ps:List (List Nat),Str.join (mkS [c]) (ps.map mkS) = mkS (jn c ps)
 | []=>rfl
 | [x]=>rfl
 | x :: y :: r=>by
  show mkS x ++ mkS [c] ++ Str.join (mkS [c]) ((y :: r).map mkS) = _
  rw [Zjv c (y :: r),Zex,Zex,List.append_assoc]; rfl
theorem Zkx {c:Nat}:∀ {x y a b:List Nat},c ∉ x→c ∉ y→x ++ c :: a = y ++ c :: b→x = y/\a = b
 | [],[],a,b,_,_,h=>⟨rfl,(List.cons.inj h).2⟩
 | [],z :: y,a,b,_,hy,h=>absurd (show c ∈ z :: y by rw [(List.cons.inj h).1]; exact .head _) hy
 | z :: x,[],a,b,hx,_,h=>absurd (show c ∈ z :: x by rw [<- (List.cons.inj h).1]; exact .head _) hx
 | z :: x,w :: y,a,b,hx,hy,h=>by
  obtain ⟨h1,h2⟩:=List.cons.inj h
  obtain ⟨e1,e2⟩:=Zkx (fun m=>hx (.tail _ m)) (fun m=>hy (.tail _ m)) h2
  exact ⟨by rw [h1,e1],e2⟩
theorem Zuj {c:Nat}:∀ {P Q:List (List Nat)},P ≠ []→Q ≠ []→(∀ p ∈ P,c ∉ p)→(∀ q ∈ Q,c ∉ q)→jn c P = jn c Q→P = Q
 | [],_,h,_,_,_,_=>absurd rfl h
 | _,[],_,h,_,_,_=>absurd rfl h
 | [x],[y],_,_,_,_,h=>by rw [show x = y from h]
 | [x],y :: z :: r,_,_,hp,_,h=>by
  have h:x = y ++ c :: jn c (z :: r):=h
  exact absurd (show c ∈ x by rw [h]; exact List.mem_append_right _ (.head _)) (hp x (.head _))
 | x :: z :: r,[y],_,_,_,hq,h=>by
  have h:x ++ c :: jn c (z :: r) = y:=h
  exact absurd (show c ∈ y by rw [<- h]; exact List.mem_append_right _ (.head _)) (hq y (.head _))
 | x :: z :: r,y :: w :: s,_,_,hp,hq,h=>by
  obtain ⟨e1,e2⟩:=Zkx (hp x (.head _)) (hq y (.head _)) (show x ++ c :: jn c (z :: r) = y ++ c :: jn c (w :: s) from h)
  rw [e1,Zuj (List.cons_ne_nil _ _) (List.cons_ne_nil _ _) (fun p m=>hp p (.tail _ m)) (fun q m=>hq q (.tail _ m)) e2]
theorem Zs6 {c:Nat} {ps:List (List Nat)} (h:∀ p ∈ ps,c ∉ p) (hn:ps ≠ []):PySem.Txt.split (mkS (jn c ps)) (mkS [c]) = ps.map mkS:=by
 have e1:=StrLaws.join_split (mkS (jn c ps)) (mkS [c])
 have e2:=StrLaws.split_free (mkS (jn c ps)) c
 have e3:1 <= (PySem.Txt.split (mkS (jn c ps)) (mkS [c])).length:=PyProof.Rows.split_pos _ _
 rw [show mkS [c] = (⟨#[c]⟩:Str) from rfl] at *
 generalize PySem.Txt.split (mkS (jn c ps)) ⟨#[c]⟩ = P at *
 have eP:P = (P.map fun x=>x.cps.toList).map mkS:=by
  rw [List.map_map]
  exact ((List.map_congr_left fun x _=>(Zpj x).symm).trans (List.map_id _)).symm
 have ej:=Zjv c (P.map fun x=>x.cps.toList)
 rw [<- eP,show mkS [c] = (⟨#[c]⟩:Str) from rfl,e1] at ej
 rw [eP,<- Zuj (c:=c) hn (fun z=>by rw [List.map_eq_nil_iff.mp z] at e3; exact absurd e3 (by decide)) h (fun q m=>by
  obtain ⟨x,hx,rfl⟩:=List.mem_map.mp m
  exact e2 x hx) (Zgs ej)]
theorem Zu2 (c:Nat):∀ ps:List (List Nat),(jn c ps).length <= (ps.map fun p=>p.length + 1).sum
 | []=>Nat.le_refl _
 | [x]=>by show x.length <= x.length + 1 + 0; omega
 | x :: y :: r=>by
  have:=Zu2 c (y :: r)
  show (x ++ c :: jn c (y :: r)).length <= _
  rw [List.length_append,List.length_cons,List.map_cons,List.sum_cons]; omega
theorem Zox  (f:α→Nat) (k:Nat):∀ l:List α,(∀ x ∈ l,f x <= k)→(l.map f).sum <= l.length * k
 | [],_=>Nat.zero_le _
 | x :: l,h=>by
  have:=Zox f k l fun y m=>h y (.tail _ m)
  have:=h x (.head _)
  rw [List.map_cons,List.sum_cons,List.length_cons,Nat.succ_mul]; omega
theorem Zu6 {c d:Nat}:∀ {ps:List (List Nat)},d ∈ jn c ps→d = c\/∃ p ∈ ps,d ∈ p
 | [],h=>nomatch h
 | [x],h=>.inr ⟨x,.head _,h⟩
 | x :: y :: r,h=>by
  rcases List.mem_append.mp (show d ∈ x ++ c :: jn c (y :: r) from h) with h | h
  .exact .inr ⟨x,.head _,h⟩
  .rcases List.mem_cons.mp h with h | h
   .exact .inl h
   .exact (Zu6 h).imp id fun ⟨p,m,q⟩=>⟨p,.tail _ m,q⟩
theorem Zo1 {c:Nat} {ps:List (List Nat)} (h:(ps.map fun p=>p.length + 1).sum <= 1000000):JoinOk (mkS [c]) (ps.map mkS) = true:=by
 refine PyProof.Rows.joinOk_of ?_
 have e:∀ ps:List (List Nat),((ps.map mkS).map (·.length)).sum + ps.length = (ps.map fun p=>p.length + 1).sum:=fun ps=>by
  induction ps with
  | nil=>rfl
  | cons p ps ih =>
   rw [List.map_cons,List.map_cons,List.map_cons,List.sum_cons,List.sum_cons,List.length_cons,<- ih,J0]; omega
 have:=e ps
 rw [List.length_map]
 show _ + ps.length * 1 <= _
 omega
theorem Zr1 {c:Nat} {ps:List (List Nat)} (h:(ps.map fun p=>p.length + 1).sum <= 1000000):Zfy (mkS [c]) [.list (ps.map fun p=>.str (mkS p))] = some (.str (mkS (jn c ps))):=by
 show ((Zf0 (ps.map fun p=>PyData.str (mkS p))).bind fun ts=>if JoinOk (mkS [c]) ts = true then some (PyData.str (PySem.Txt.join (mkS [c]) ts)) else none) = _
 have e:Zf0 (ps.map fun p=>PyData.str (mkS p)) = some (ps.map mkS):=by
  have:=Zeo (ps.map mkS)
  rwa [List.map_map] at this
 rw [e,Option.bind_some,if_pos (Zo1 h)]
 unfold PySem.Txt.join
 rw [StrLaws.glued_eq_join,Zjv]
theorem Znt {c:Nat} {ps:List (List Nat)} (h:∀ p ∈ ps,c ∉ p) (hn:ps ≠ []) (hl:(jn c ps).length <= 1000000) (hk:ps.length <= 1000000):Jt (mkS (jn c ps)) [.str (mkS [c])] = some (.nd ((ps.map fun p=>PyData.str (mkS p)).map OT.fz)):=by
 show (if Zb7 (mkS (jn c ps)) (mkS [c]) = true then some (OT.nd (((PySem.Txt.split (mkS (jn c ps)) (mkS [c])).map PyData.str).map OT.fz)) else none) = _
 have s:=Zs6 h hn
 rw [if_pos (by unfold Zb7; rw [s,J0,List.length_map,sizeLine_eq,decide_eq_true (by omega),decide_eq_true (by omega)]; rfl),s,List.map_map,List.map_map,List.map_map]
 rfl
theorem Zuz  {o:FE} {a:FA}    {d:PyData} (ho:EvV o δ (.str z)) (ha:EvA a δ ds) (h:g z ds = some d):EvV (Zsb g o a) δ d:=by
 obtain ⟨t,e1,e2⟩:=ho
 obtain ⟨ts,e3,e4⟩:=ha
 refine ⟨.fz d,?_,OT.data_fz d⟩
 unfold Zsb
 rw [e1,Option.bind_some]
 dsimp only
 rw [e2]
 show ((a δ).bind fun q=>(g z (OT.datas q.1)).bind fun d=>some (OT.fz d,q.2)) = _
 rw [e3,Option.bind_some]
 dsimp only
 rw [e4,h]; rfl
theorem Zuh {g:Str→List PyData→Option OT} {o:FE} {a:FA}    {t0:OT} {d:PyData} (ho:EvV o δ (.str z)) (ha:EvA a δ ds) (h:g z ds = some t0) (hd:t0.data = d):EvV (Zmv g o a) δ d:=by
 obtain ⟨t,e1,e2⟩:=ho
 obtain ⟨ts,e3,e4⟩:=ha
 refine ⟨t0,?_,hd⟩
 unfold Zmv
 rw [e1,Option.bind_some]
 dsimp only
 rw [e2]
 show ((a δ).bind fun q=>(g z (OT.datas q.1)).bind fun d=>some (d,q.2)) = _
 rw [e3,Option.bind_some]
 dsimp only
 rw [e4,h]; rfl
theorem Zgt {c:Nat} {o a:FE}  {ps:List (List Nat)} (ho:EvV o δ (.str (mkS (jn c ps)))) (ha:EvV a δ (.str (mkS [c]))) (h:∀ p ∈ ps,c ∉ p) (hn:ps ≠ []) (hl:(jn c ps).length <= 1000000) (hk:ps.length <= 1000000):EvV (Zmv Jt o (Zf a Yb)) δ (.list (ps.map fun p=>.str (mkS p))) :=
 Zuh ho (Zb ha Zg) (Znt h hn hl hk) (by rw [OT.data_nd,OT.map_fz])
theorem Zxf {c:Nat} {o a:FE}  {ps:List (List Nat)} (ho:EvV o δ (.str (mkS [c]))) (ha:EvV a δ (.list (ps.map fun p=>.str (mkS p)))) (h:(ps.map fun p=>p.length + 1).sum <= 1000000):EvV (Zsb Zfy o (Zf a Yb)) δ (.str (mkS (jn c ps))) :=
 Zuz ho (Zb ha Zg) (Zr1 h)
theorem Z9h:Str.ofString " " = mkS [32]:=by rw [Str.ofString_eq_toList]; rfl
theorem Zpw {c:Nat}   (h:z = mkS [c]):EvV (fC (.str z)) δ (.str (mkS [c])):=h ▸ Z0
theorem Zgv:∀ (k:Nat) {n:Nat},n < 10 ^ (k + 1)→(dg n).length <= k + 1
 | 0,n,h=>by rw [Zkr (by simpa using h)]; exact Nat.le_refl _
 | k + 1,n,h=>by
  by_cases c:n < 10
  .rw [Zkr c]; show 1 <= k + 1 + 1; omega
  .rw [Zry (by omega),List.length_append]
   have:=Zgv k (n:=n / 10) (by rw [Nat.pow_succ] at h; omega)
   show _ + 1 <= _
   omega
theorem Zze {n:Nat} (h:n ≠ 0):∃ d r,dg n = d :: r/\49 <= d/\d <= 57:=by
 induction n using Nat.strongRecOn with
 | _ n ih =>
  by_cases c:n < 10
  .exact ⟨48 + n,[],Zkr c,by omega,by omega⟩
  .obtain ⟨d,r,e,h1,h2⟩:=ih (n / 10) (by omega) (by omega)
   exact ⟨d,r ++ [48 + n % 10],by rw [Zry (by omega),e]; rfl,h1,h2⟩
theorem Zdl (n:Nat):tx (n:Int) = dg n:=by
 unfold tx sgn
 rw [if_neg (by omega)]; rfl
theorem Zwl {n:Nat} (h:(dg n).length <= 640):Zoa [.str (mkS (dg n))] = some (.int n):=by
 show (if (mkS (dg n)).length <= 640 then (intText? (mkS (dg n))).bind fun n=>some (PyData.int n) else none) = _
 rw [if_pos (by rw [J0]; exact h),intText_digits (x:=mkS (dg n)) (fun c m=>Zci m) (Zw3 n) (by rw [J0]; omega)]
 show some (PyData.int ((PySem.NumText.digitsVal (dg n):Nat):Int)) = _
 unfold dg
 rw [PySem.W.KIN.val_back]
theorem Zyx:∀ d:Fin 10,(!(!(Builtin.Str.occurrences ("0123456789" : Str) ⟨#[48 + (d:Nat)]⟩ 0 ("0123456789" : Str).length 1).isEmpty)) = false:=by decide +kernel
theorem Z3j (d:Fin 10):Zzk true (.str ⟨#[48 + (d:Nat)]⟩) (.str "0123456789") = some (.bool false):=(show Zzk true (.str ⟨#[48 + (d:Nat)]⟩) (.str "0123456789") = some (.bool _) from rfl).trans (congrArg (fun b=>some (PyData.bool b)) (Zyx d))
theorem Ztx  (d:α) (r:List α):atI (d :: r) 0 = some d:=by
 unfold atI ixN
 rw [if_pos (by decide),if_pos (by simp)]; rfl
theorem Zh1 {n:Nat} (h:(dg n).length <= 40):Told Ww [.str (mkS (dg n))] (.bool true):=by
 have l1:1 <= (dg n).length:=List.length_pos_iff.mpr (Zw3 n)
 have el:∀ {δ:Zc},δ[0]? = some (some (.fz (.str (mkS (dg n)))))→EvV (Zc9 Zpv (Zf (Zv 0) Yb)) δ (.int ((dg n).length:Int)):=fun hδ=>Jc (Zb (Za hδ) Zg) (by
  show (if (mkS (dg n)).length <= sizeLine then some (PyData.int ((mkS (dg n)).length:Int)) else none) = _
  rw [J0,if_pos (by rw [sizeLine_eq]; omega)])
 refine Zy rfl <| Zo (Zn (Zbr (p:=true) (W9 (Zgh Z0 (el rfl) Z0 (decide_eq_true (by omega)) (decide_eq_true (by omega))))) rfl) ?_
 refine Zla (ds:=(dg n).map fun c=>.str ⟨#[c]⟩) (fun _ δ=>∃ z,δ = [some (.fz (.str (mkS (dg n)))),z]) (by
  unfold EvI Z6l
  show Option.bind (Zv 0 (Jq 2 [PyData.str (mkS (dg n))])) _ = _
  rw [show Zv 0 (Jq 2 [PyData.str (mkS (dg n))]) = some (.fz (.str (mkS (dg n))),Jq 2 [PyData.str (mkS (dg n))]) from rfl,Option.bind_some]
  dsimp only
  rw [OT.data_fz]; rfl) ⟨none,rfl⟩ (fun k d δ hd q=>?_) fun δ' q=>?_
 .obtain ⟨z,rfl⟩:=q
  obtain ⟨c,hc,rfl⟩:=List.mem_map.mp (List.mem_of_getElem? hd)
  have hm:=Zci hc
  have:=Z3j ⟨c - 48,by omega⟩
  rw [show 48 + (c - 48) = c by omega] at this
  exact ⟨_,_,rfl,.inl (Zn (W9 (Zm (Za (i:=1) rfl) Z0 this)) rfl),_,rfl⟩
 .obtain ⟨z,rfl⟩:=q
  have cp:Cp (dg n):=fun c m=>by have:=Zci m; omega
  by_cases c:n = 0
  .subst c
   exact Z3 (Zxv (Zm (Za (i:=0) rfl) Z0 (by rw [s_0,Zkr (by decide),Zc7 (fun c m=>by rw [List.mem_singleton.mp m]; decide) (fun c m=>by rw [List.mem_singleton.mp m]; decide)]; rfl)))
  .obtain ⟨d,r,e,h1,h2⟩:=Zze c
   refine Z3 (Zx4 (Zm (Za (i:=0) rfl) Z0 (d:=.bool false) ?_) (Zm (Znq (o:=.fz (.str (mkS [d]))) (Za (i:=0) rfl) Z0 ?_ (OT.data_fz _)) Z0 ?_))
   .rw [s_0,Zc7 cp (fun c m=>by rw [List.mem_singleton.mp m]; decide),decide_eq_false (by rw [e]; intro z; have:=(List.cons.inj z).1; omega)]
   .show (if (mkS (dg n)).length <= sizeLine then (atI (mkS (dg n)).cps.toList 0).map fun c=>OT.fz (.str ⟨#[c]⟩) else none) = _
    rw [if_pos (by rw [J0,sizeLine_eq]; omega),e,show atI (mkS (d :: r)).cps.toList 0 = some d from Ztx d r]; rfl
   .rw [s_0,Zoz (fun c m=>by rw [List.mem_singleton.mp m]; omega) (fun c m=>by rw [List.mem_singleton.mp m]; decide),decide_eq_false (by intro z; have:=(List.cons.inj z).1; omega)]; rfl
theorem Jy {n:Nat} (h:(dg n).length <= 40):Told Zt [.str (mkS (dg n))] (.int n) :=
 Zy rfl <| Z3 (Zn3 (Ju (Zq (Zb Za Zg) (Zh1 h))) (Jc (Zb Za Zg) (Zwl (by omega))))
structure DsQ (q:Rat):Prop where
 n0:0 <= q.num
 n1:q.num < 10 ^ 40
 d1:q.den < 10 ^ 40
set_option exponentiation.threshold 500
def qtx (q:Rat):List Nat:=shw (q.num,(q.den:Int))
theorem DsQ.top {q:Rat} (h:DsQ q):∃ n:Nat,q.num = (n:Int)/\(dg n).length <= 40:=by
 obtain ⟨n,e⟩:=Int.eq_ofNat_of_zero_le h.n0
 refine ⟨n,e,Zgv 39 ?_⟩
 have:=h.n1
 rw [e] at this
 exact Int.ofNat_lt.mp (by simpa using this)
theorem DsQ.bot {q:Rat} (h:DsQ q):(dg q.den).length <= 40:=Zgv 39 h.d1
theorem DsQ.bn {q:Rat} (h:DsQ q):Bt 400 q.num:=Bt.of_lt (Int.lt_of_lt_of_le (by decide) h.n0) (Int.lt_trans h.n1 (by decide +kernel))
theorem DsQ.bd {q:Rat} (h:DsQ q):Bt 400 (q.den:Int):=Bt.of_lt (Int.lt_of_lt_of_le (by decide) (Int.natCast_nonneg _)) (Int.lt_trans (b:=10 ^ 40) (by have:=Int.ofNat_lt.mpr h.d1; simpa using this) (by decide +kernel))
theorem Zvn {q:Rat} (h:DsQ q):Told Z9 [frD q] (.str (mkS (qtx q))):=Zxa (p:=(q.num,(q.den:Int))) h.bn h.bd
theorem Zjj {q:Rat} (h:DsQ q):∀ c ∈ qtx q,47 <= c/\c <= 57:=fun c m=>by
 obtain ⟨n,e,_⟩:=h.top
 unfold qtx shw at m
 rw [e,Zdl] at m
 rcases List.mem_append.mp m with m | m
 .have:=Zci m; omega
 .split at m
  .exact nomatch m
  .rcases List.mem_cons.mp m with m | m
   .omega
   .rw [Zdl] at m; have:=Zci m; omega
theorem Zey {q:Rat} (h:DsQ q):(qtx q).length <= 81:=by
 obtain ⟨n,e,l⟩:=h.top
 have l2:=h.bot
 unfold qtx shw
 rw [e,Zdl,Zdl]
 split
 .rw [List.append_nil]; omega
 .rw [List.length_append,List.length_cons]; omega
theorem Zfd {q:Rat} (h:DsQ q):Told Yj [.str (mkS (qtx q))] (frD q):=by
 obtain ⟨n,en,ln⟩:=h.top
 have ld:=h.bot
 have cpq:Cp (qtx q):=fun c m=>by have:=Zjj h c m; omega
 have no:∀ m:Nat,47 ∉ dg m:=fun m z=>by have:=Zci z; omega
 have fin:∀ {o:OT},o.data = .list [.int q.num,.int (q.den:Int)]→Zkg Yak [some (.fz (.str (mkS (qtx q)))),some o,none] (frD q):=fun e1=>by
  refine Zo (Zyf (d:=frD q) (Zmn (o:=.fz (frD q)) (Zb (Zif (i:=1) rfl e1) Zg) rfl (OT.data_fz _)) rfl) ?_
  exact Z3 (Zn3 (Zx8 (Ju (Zq (Zb (Za (i:=2) rfl) Zg) (Zby q))) (W9 (Zm (Zq (Zb (Za (i:=2) rfl) Zg) (Zvn h)) (Za (i:=0) rfl) (by rw [Zc7 cpq cpq,decide_eq_true rfl])))) (Za (i:=2) rfl))
 by_cases c:q.den = 1
 .have eq:qtx q = jn 47 [dg n]:=by
   unfold qtx shw
   rw [en,Zdl,if_pos (by rw [c]; rfl),List.append_nil]; rfl
  obtain ⟨rs,e4,e5⟩:=Zkp (δ:=[some (.fz (.str (mkS (qtx q)))),none,none]) (caps:=[]) (cs:=[]) (me:=Zw Zt Zf3) [dg n] (fun p=>.str (mkS p)) (fun _=>.int q.num) (it:=Zcl Z5v)
   (J7 (Zgt (c:=47) (Za (i:=0) (by rw [eq]; rfl)) (Zpw Z4r) (fun p m=>by rw [List.mem_singleton.mp m]; exact no n) (by simp) (by rw [<- eq]; have:=Zey h; omega) (Nat.le_of_ble_eq_true rfl))) (Nat.le_of_ble_eq_true rfl) rfl fun p m=>by
    rw [List.mem_singleton.mp m,en]
    exact Zq (Zb Za Zg) (Jy ln)
  have d1:(OT.nd rs).data = .list [.int q.num]:=by rw [OT.data_nd,<- datas_map,e5]; rfl
  have lr:rs.length = 1:=by have:=congrArg List.length e5; rwa [J5] at this
  refine Zy rfl <| Zo (Zfc e4) <| Zo (Zg0 (W9 (Zag (i:=1) (j:=1) (Zi0 (ds:=[.int q.num]) (Zif (i:=1) rfl d1)) Z0 rfl)) (Zva Z0 rfl (by omega))) (fin ?_)
  rw [OT.data_nd,List.map_append,<- datas_map,e5,c]
  show PyData.list ([.int q.num] ++ [(OT.fz (.int 1)).data]) = _
  rw [OT.data_fz]; rfl
 .have eq:qtx q = jn 47 [dg n,dg q.den]:=by
   unfold qtx shw
   rw [en,Zdl,if_neg (by intro z; exact c (Int.ofNat_inj.mp z)),Zdl]; rfl
  obtain ⟨rs,e4,e5⟩:=Zkp (δ:=[some (.fz (.str (mkS (qtx q)))),none,none]) (caps:=[]) (cs:=[]) (me:=Zw Zt Zf3) [n,q.den] (fun p=>.str (mkS (dg p))) (fun p=>.int p) (it:=Zcl Z5v)
   (J7 (Zgt (c:=47) (ps:=[dg n,dg q.den]) (Za (i:=0) (by rw [eq]; rfl)) (Zpw Z4r) (fun p m=>by
    rcases List.mem_cons.mp m with rfl | m
    .exact no n
    .rw [List.mem_singleton.mp m]; exact no _) (by simp) (by rw [<- eq]; have:=Zey h; omega) (Nat.le_of_ble_eq_true rfl))) (Nat.le_of_ble_eq_true rfl) rfl fun p m=>by
    refine Zq (Zb Za Zg) (Jy ?_)
    rcases List.mem_cons.mp m with rfl | m
    .exact ln
    .rw [List.mem_singleton.mp m]; exact ld
  have d1:(OT.nd rs).data = .list [.int q.num,.int (q.den:Int)]:=by rw [OT.data_nd,<- datas_map,e5,en]; rfl
  exact Zy rfl <| Zo (Zfc e4) <| Zo (Zn (W9 (Zag (i:=2) (j:=1) (Zi0 (ds:=[.int q.num,.int (q.den:Int)]) (Zif (i:=1) rfl d1)) Z0 rfl)) rfl) (fin d1)
theorem Z2a {e:FE}  {d:PyData} (h:EvV e δ d) (hd:Zax d = false):EvV (Zd gIs e Zzj) δ (.bool false):=Zm h Z0 (by rw [Z6d,hd])
theorem Zeq (k:Nat) (i:Int):Told (Zj (k + 1)) [.int i,.int i] (.bool true) :=
 show Told (W5 2 4 (Y0 (Zj k))) [.int i,.int i] (.bool true) from Zy rfl <| Zo (Zn (Ju (Zbd (Za (d:=.int i)) rfl)) rfl) <| Wj <| Jb (Ju (Zbd (Za (d:=.int i)) rfl)) <|
  Z3 (W7 (Zq (Zb (Za (d:=.int i)) Zg) (Zy rfl (Z3 (W7 (Zbd (Za (d:=.int i)) rfl) (Z1p (Zbd (Za (d:=.int i)) rfl) rfl))))) (Zm Za Za ((Z0q i i).trans (by rw [decide_eq_true rfl]))))
theorem Zct {k:Nat} {x:PyData}  (hx:x = .list ds\/x = .tuple ds) (h:∀ d ∈ ds,Told (Zj k) [d,d] (.bool true)):Told (Zj (k + 1)) [x,x] (.bool true):=by
 have key:Zj4 "bool" x = false→Zj4 "int" x = false→Zj4 "str" x = false→Zax x = false→Zfm x = false→Zhn [x] = some (.int ds.length)→Zzh [x,x] = some (Zj8 ds ds)→Told (Zj (k + 1)) [x,x] (.bool true):=fun h0 h1 h2 h3 hf hl hz =>
  show Told (W5 2 4 (Y0 (Zj k))) [x,x] (.bool true) from Zy rfl <| Zo (Zn (Ju (Zdq Za h0 hf)) rfl) <| Zo (Zn (Ju (Zdq Za h1 hf)) rfl) <| Zo (Zn (Ju (Zdq Za h2 hf)) rfl) <| Zo (Zn (W9 (Z2a Za h3)) rfl) <|
   Zo (Zn (Ztn (W9 (Zm (Zbd Za hf) (Zbd Za hf) ((Zvj _ _).trans (by rw [bne_self_eq_false])))) (W9 (Zm (Zbd Za hf) (Zbd Za hf) ((Zvj _ _).trans (by rw [bne_self_eq_false]))))) rfl) <|
   Zo (Zn (W9 (Zl9 (Jc (Zb Za Zg) hl) (Jc (Zb Za Zg) hl) (by rw [decide_eq_true rfl]; rfl))) rfl) <|
   Zla (ds:=Zj8 ds ds) (fun i δ=>∃ z1 z2,δ = [some (.fz x),some (.fz x),z1,z2]) (Zn5 (Zb Za (Zb Za Zg)) hz) ⟨none,none,rfl⟩ (fun i d δ hd q=>by
    obtain ⟨z1,z2,rfl⟩:=q
    obtain ⟨a,b,ha,hb,rfl⟩:=Zlf hd
    rw [ha] at hb
    cases hb
    exact ⟨_,_,rfl,.inl (Zn (Zbr (p:=true) (Ju (Zq (Zb Za (Zb Za Zg)) (h a (List.mem_of_getElem? ha))))) rfl),_,_,rfl⟩) fun δ' _=>Z3 Z0
 rcases hx with rfl | rfl
 .exact key rfl rfl rfl rfl rfl (Zt8 ds) rfl
 .exact key rfl rfl rfl rfl rfl (Zqi ds) rfl
theorem Zsv (k:Nat) (q:Rat):Told (Zj (k + 2)) [frD q,frD q] (.bool true):=Zct (ds:=[.int q.num,.int (q.den:Int)]) (.inr rfl) fun d m=>by
 rcases List.mem_cons.mp m with rfl | m
 .exact Zeq k _
 .rw [List.mem_singleton.mp m]; exact Zeq k _
theorem Zzt {t b:Int} (ht:0 <= t) (hb:0 < b):0 <= (Rat.divInt t b).num/\(Rat.divInt t b).num <= t:=by
 have e:(Rat.divInt t b).num = t / (Int.gcd b t:Int):=by
  rw [Rat.num_divInt,Int.sign_eq_one_of_pos hb,Int.one_mul]
 rw [e]
 exact ⟨Int.ediv_nonneg ht (Int.natCast_nonneg _),Int.ediv_le_self _ ht⟩
theorem Z2o {t b:Int} (hb:0 < b):((Rat.divInt t b).den:Int) <= b:=Int.le_of_dvd hb (Zyy (by omega))
theorem Zqt {t b:Int} (ht:0 <= t) (h1:t < 10 ^ 40) (hb:0 < b) (h2:b < 10 ^ 40):DsQ (Rat.divInt t b):=by
 obtain ⟨a,c⟩:=Zzt ht hb
 refine ⟨a,Int.lt_of_le_of_lt c h1,?_⟩
 have:=Int.lt_of_le_of_lt (Z2o (t:=t) hb) h2
 exact Int.ofNat_lt.mp (by simpa using this)
theorem Zpt {t:Int} (ht:0 <= t) (h1:t < 10 ^ 40):DsQ (t:Rat):=⟨ht,h1,by show 1 < 10 ^ 40; decide +kernel⟩
theorem Z1v {e:FE}  {t:Int} (h:EvV e δ (.int t)):EvV (Zlm (Zf e Z1t)) δ (frD (t:Rat)):=Zkw (Zb h (Zb Z0 Zg)) (show 2 <= 1000 by decide)
theorem Z98:Zov (.int 10) (.int 40) = some (.int 10000000000000000000000000000000000000000):=rfl
theorem Zyd {v:Int} (h0:0 <= v) (h1:v < 10000000000000):∃ q,Told Wh [.int v] (frD q)/\DsQ q:=by
 have n0:0 <= v.fdiv 8:=by rw [Int.fdiv_eq_ediv_of_nonneg _ (by decide)]; omega
 have n1:v.fdiv 8 < 10000000000000:=by rw [Int.fdiv_eq_ediv_of_nonneg _ (by decide)]; omega
 have big:(10000000000000000000000000000000000000000:Int) = 10 ^ 40:=by decide +kernel
 have fin:∀ {q:Rat},DsQ q→Zkg _ [some (.fz (.int (v.fdiv 8))),some (.fz (.int (v.fmod 8)))] (frD q)→∃ q,Told Wh [.int v] (frD q)/\DsQ q:=fun hd h =>
  ⟨_,Zy rfl (Zo (Wg (Zam Za Z0 (by decide))) (Zo (Wg (Zfk (Za (i:=0) rfl) Z0)) h)),hd⟩
 have w0:=Jx (i:=v) (j:=8) (by decide)
 have w1:=Zaj (i:=v) (j:=8) (by decide)
 generalize v.fdiv 8 = u at n0 n1 fin
 generalize v.fmod 8 = w at w0 w1 fin
 have ep:Zov (.int u) (.int 4) = some (.int (u ^ 4)):=Z2h (i:=u) (j:=4) (by unfold Z7l; exact decide_eq_true ⟨by decide,by decide,by omega⟩)
 have ev4:∀ {z:Option OT},EvV Z2j [some (.fz (.int u)),z] (.int (u ^ 4)):=Zm (Za (i:=0) rfl) Z0 ep
 have m40:∀ {z:Option OT},EvV (Zd Zc0 Z2j Z4u) [some (.fz (.int u)),z] (.int ((u ^ 4).fmod 10000000000000000000000000000000000000000)):=Zam ev4 (Zm Z0 Z0 Z98) (by decide)
 have t0:=Jx (i:=u ^ 4) (j:=10000000000000000000000000000000000000000) (by decide)
 have t1:=Zaj (i:=u ^ 4) (j:=10000000000000000000000000000000000000000) (by decide)
 by_cases c0:w = 0
 .subst c0
  exact fin (q:=0) ⟨by decide,by decide +kernel,by decide +kernel⟩ (Wj (Jb (W9 (Zag (Za (i:=1) rfl) Z0 (decide_eq_true rfl))) (Z3 (tw (a:=0) (b:=1)))))
 by_cases c1:w < 4
 .refine fin (q:=((u.fmod 31:Int):Rat)) (Zpt (Jx (by decide)) (Int.lt_trans (Zaj (i:=u) (j:=31) (by decide)) (by decide +kernel))) (Zo (Zn (W9 (Zag (Za (i:=1) rfl) Z0 (decide_eq_false c0))) rfl) (Wj (Jb (W9 (Zf4 (Za (i:=1) rfl) Z0 (decide_eq_true c1))) (Z3 ?_))))
  exact Z1v (Zam (Za (i:=0) rfl) Z0 (by decide))
 by_cases c2:w < 6
 .have a0:=Jx (i:=u) (j:=41) (by decide)
  have a1:=Zaj (i:=u) (j:=41) (by decide)
  have b0:=Jx (i:=u.fdiv 41) (j:=12) (by decide)
  have b1:=Zaj (i:=u.fdiv 41) (j:=12) (by decide)
  refine fin (Zqt (t:=u.fmod 41) (b:=1 + (u.fdiv 41).fmod 12) a0 (Int.lt_trans a1 (by decide +kernel)) (by omega) (Int.lt_of_le_of_lt (b:=12) (by omega) (by decide +kernel))) (Zo (Zn (W9 (Zag (Za (i:=1) rfl) Z0 (decide_eq_false c0))) rfl) (Zo (Zn (W9 (Zf4 (Za (i:=1) rfl) Z0 (decide_eq_false c1))) rfl) (Wj (Jb (W9 (Zf4 (Za (i:=1) rfl) Z0 (decide_eq_true c2))) (Z3 ?_)))))
  exact Zq (Zb (Zam (Za (i:=0) rfl) Z0 (by decide)) (Zb (Zi4 Z0 (Zam (Zfk (Za (i:=0) rfl) Z0) Z0 (by decide))) Zg)) (Zbc (n:=10) (by omega) (Bt.of_lt (by omega) (by omega)))
 by_cases c3:w = 6
 .refine fin (q:=(((u ^ 4).fmod 10000000000000000000000000000000000000000:Int):Rat)) (Zpt t0 (big ▸ t1)) (Zo (Zn (W9 (Zag (Za (i:=1) rfl) Z0 (decide_eq_false c0))) rfl) (Zo (Zn (W9 (Zf4 (Za (i:=1) rfl) Z0 (decide_eq_false c1))) rfl) (Zo (Zn (W9 (Zf4 (Za (i:=1) rfl) Z0 (decide_eq_false c2))) rfl) (Wj (Jb (W9 (Zag (Za (i:=1) rfl) Z0 (decide_eq_true c3))) (Z3 (Z1v m40)))))))
 .have b0:=Jx (i:=(u ^ 4).fdiv 7) (j:=10000000000000000000000000000000000000000 - 1) (by decide)
  have b1:=Zaj (i:=(u ^ 4).fdiv 7) (j:=10000000000000000000000000000000000000000 - 1) (by decide)
  refine fin (Zqt (t:=(u ^ 4).fmod 10000000000000000000000000000000000000000) (b:=1 + ((u ^ 4).fdiv 7).fmod (10000000000000000000000000000000000000000 - 1)) t0 (big ▸ t1) (by omega) (Int.lt_of_lt_of_le (b:=10000000000000000000000000000000000000000) (by omega) (Int.le_of_eq big))) (Zo (Zn (W9 (Zag (Za (i:=1) rfl) Z0 (decide_eq_false c0))) rfl) (Zo (Zn (W9 (Zf4 (Za (i:=1) rfl) Z0 (decide_eq_false c1))) rfl) (Zo (Zn (W9 (Zf4 (Za (i:=1) rfl) Z0 (decide_eq_false c2))) rfl) (Zo (Zn (W9 (Zag (Za (i:=1) rfl) Z0 (decide_eq_false c3))) rfl) (Z3 ?_)))))
  exact Zq (Zb m40 (Zb (Zi4 Z0 (Zam (Zfk ev4 Z0) (Znc (Zm Z0 Z0 Z98) Z0) (by decide))) Zg)) (Zbc (n:=200) (by omega) (Bt.of_lt (Int.lt_of_lt_of_le (b:=0) (by decide +kernel) (by omega)) (Int.lt_of_lt_of_le (b:=10000000000000000000000000000000000000001) (by omega) (by decide +kernel))))
theorem Zq9 {q:Rat} (h:DsQ q):Told Za8 [frD q] (.str (mkS (qtx q))):=by
 have s:EvV Z48 (Jq 1 [frD q]) (.str (mkS (tx q.num))):=Jc (Zb (at0 rfl) Zg) (Ze4 h.bn)
 by_cases c:q.den = 1
 .refine Zy rfl <| Wj <| Jb (W9 (Zag (at1 rfl) Z0 (decide_eq_true (by omega)))) (Z3 (s.cast ?_))
  unfold qtx shw
  rw [if_pos (by rw [c]; rfl),List.append_nil]
 .have c':((q.den:Int)) ≠ 1:=fun z=>c (Int.ofNat_inj.mp z)
  have l1:=Zey h
  unfold qtx shw at l1
  rw [if_neg c',List.length_append,List.length_cons] at l1
  dsimp only at l1
  refine Zy rfl <| Zo (Zn (W9 (Zag (at1 rfl) Z0 (decide_eq_false c'))) rfl) (Z3 ((Zm (Zm s (Zpw Z4r) (Zbh (by show _ + 1 <= _; omega))) (Jc (Zb (at1 rfl) Zg) (Ze4 h.bd)) (Zbh (by rw [List.length_append]; show _ + 1 + _ <= _; omega))).cast ?_))
  unfold qtx
  rw [Zvf c']
def jn2 (c d:Nat):List (List Nat)→List Nat
 | []=>[]
 | [x]=>x
 | x :: y :: r=>x ++ c :: d :: jn2 c d (y :: r)
theorem Zg9 (c d:Nat):∀ ps:List (List Nat),Str.join (mkS [c,d]) (ps.map mkS) = mkS (jn2 c d ps)
 | []=>rfl
 | [x]=>rfl
 | x :: y :: r=>by
  show mkS x ++ mkS [c,d] ++ Str.join (mkS [c,d]) ((y :: r).map mkS) = _
  rw [Zg9 c d (y :: r),Zex,Zex,List.append_assoc]; rfl
def Occ (w:List Nat) (c d:Nat):Prop:=∃ u v,w = u ++ c :: d :: v
theorem Zje {c d:Nat} (ne:c ≠ d):∀ {x y a b:List Nat},¬ Occ x c d→c ∉ y→x ++ c :: d :: a = y ++ c :: d :: b→x = y/\a = b
 | [],[],a,b,_,_,h=>⟨rfl,(List.cons.inj (List.cons.inj h).2).2⟩
 | [],z :: y,a,b,_,hy,h=>absurd (show c ∈ z :: y by rw [(List.cons.inj h).1]; exact .head _) hy
 | [z],[],a,b,hx,_,h=>absurd (List.cons.inj (List.cons.inj h).2).1 ne
 | z :: w :: x,[],a,b,hx,_,h=>by
  have h1:=List.cons.inj h
  have h2:=List.cons.inj h1.2
  exact absurd ⟨[],x,by rw [h1.1,h2.1]; rfl⟩ hx
 | z :: x,w :: y,a,b,hx,hy,h=>by
  obtain ⟨h1,h2⟩:=List.cons.inj h
  obtain ⟨e1,e2⟩:=Zje ne (x:=x) (fun ⟨u,v,e⟩=>hx ⟨z :: u,v,by rw [e]; rfl⟩) (fun m=>hy (.tail _ m)) h2
  exact ⟨by rw [h1,e1],e2⟩
theorem Znh {c d:Nat} (ne:c ≠ d):∀ {P Q:List (List Nat)},P ≠ []→Q ≠ []→(∀ p ∈ P,¬ Occ p c d)→(∀ q ∈ Q,c ∉ q)→jn2 c d P = jn2 c d Q→P = Q
 | [],_,h,_,_,_,_=>absurd rfl h
 | _,[],_,h,_,_,_=>absurd rfl h
 | [x],[y],_,_,_,_,h=>by rw [show x = y from h]
 | [x],y :: z :: r,_,_,hp,_,h=>absurd ⟨y,jn2 c d (z :: r),h⟩ (hp x (.head _))
 | x :: z :: r,[y],_,_,_,hq,h=>by
  have h:x ++ c :: d :: jn2 c d (z :: r) = y:=h
  exact absurd (show c ∈ y by rw [<- h]; exact List.mem_append_right _ (.head _)) (hq y (.head _))
 | x :: z :: r,y :: w :: s,_,_,hp,hq,h=>by
  obtain ⟨e1,e2⟩:=Zje ne (hp x (.head _)) (hq y (.head _)) (show x ++ c :: d :: jn2 c d (z :: r) = y ++ c :: d :: jn2 c d (w :: s) from h)
  rw [e1,Znh ne (List.cons_ne_nil _ _) (List.cons_ne_nil _ _) (fun p m=>hp p (.tail _ m)) (fun q m=>hq q (.tail _ m)) e2]
open Builtin Builtin.Str in
theorem Zdd  {c d a b:Nat} (hb:b <= x.length) (hn:∀ k,a <= k→k < b→¬ StrLaws.At x (mkS [c,d]) x.length k):¬ Occ (strSub x a b).cps.toList c d:=by
 rintro ⟨u,v,e⟩
 rw [StrLaws.strSub_toList] at e
 have hl:=congrArg List.length e
 rw [List.length_append,List.length_cons,List.length_cons,List.length_take,List.length_drop] at hl
 have hx:x.cps.toList.length = x.length:=Array.length_toList
 refine hn (a + u.length) (Nat.le_add_right _ _) (by omega) ⟨by show a + u.length + 2 <= x.length; omega,?_⟩
 rw [StrLaws.subAt_eq]
 have e2:(x.cps.toList.drop (a + u.length)).take 2 = [c,d]:=by
  have e3:((x.cps.toList.drop a).take (b - a)).drop u.length = c :: d :: v:=by rw [e,List.drop_left]
  rw [List.drop_take,List.drop_drop] at e3
  have e4:=congrArg (List.take 2) e3
  rw [List.take_take,Nat.min_eq_left (by omega)] at e4
  exact e4
 show ((x.cps.toList.drop (a + u.length)).take 2 == [c,d]) = true
 rw [e2]; exact beq_self_eq_true _
open Builtin Builtin.Str in
theorem Zes  {c d:Nat}:∀ (cuts:List Nat) (a f:Nat),StrLaws.ChainG x (mkS [c,d]) x.length a cuts f→(∀ k,f <= k→¬ StrLaws.At x (mkS [c,d]) x.length k)→∀ p ∈ StrLaws.partsFrom x 2 a cuts,¬ Occ p.cps.toList c d
 | [],a,f,h,hn,p,hp=>by
  have e:f = a:=h
  subst e
  rw [List.mem_singleton.mp hp]
  exact Zdd (Nat.le_refl _) fun k h1 _=>hn k h1
 | e :: r,a,f,h,hn,p,hp=>by
  rcases List.mem_cons.mp hp with rfl | hp'
  .exact Zdd (by have:=h.2.1.1; omega) h.2.2.1
  .exact Zes r _ f h.2.2.2 hn p hp'
open Builtin Builtin.Str in
theorem Zka  {c d:Nat} (hc:c < 128) (hd:d < 128):∀ p ∈ PySem.Txt.split x (mkS [c,d]),¬ Occ p.cps.toList c d:=by
 obtain ⟨f,hG,hn⟩:=StrLaws.occ_tight x (mkS [c,d]) (by show 1 <= 2; decide)
 unfold PySem.Txt.split
 split
 .rename_i h
  intro p hp
  rw [List.mem_singleton.mp hp]
  rintro ⟨u,v,e⟩
  have hl:=congrArg List.length e
  rw [List.length_append,List.length_cons,List.length_cons] at hl
  have hx:x.cps.toList.length = x.length:=Array.length_toList
  rw [Bool.or_eq_true,decide_eq_true_eq,decide_eq_true_eq] at h
  rcases h with h | h
  .have:x.length < 2:=h
   omega
  .have k1:Builtin.Str.strKind (mkS [c,d]) = 1:=by
    unfold Builtin.Str.strKind mkS
    rw [if_pos]
    simp only [Array.all_eq_true_iff_forall_mem]
    intro z m
    rcases List.mem_cons.mp (List.mem_toArray.mp m) with rfl | m
    .exact decide_eq_true (by omega)
    .rw [List.mem_singleton.mp m]; exact decide_eq_true (by omega)
   have k2:1 <= Builtin.Str.strKind x:=by
    unfold Builtin.Str.strKind
    (repeat' split) <;> decide
   omega
 .split
  .rename_i he
   intro p hp
   rw [List.mem_singleton.mp hp]
   rw [List.isEmpty_iff.mp he] at hG
   have ef:f = 0:=hG
   subst ef
   rw [<- StrLaws.sub_whole x]
   exact Zdd (Nat.le_refl _) fun k h1 _=>hn k h1
  .rw [StrLaws.partsBetween_eq]
   exact Zes _ 0 f hG hn
theorem Zod {c d:Nat} (hc:c < 128) (hd:d < 128) (ne:c ≠ d) {ps:List (List Nat)} (h:∀ p ∈ ps,c ∉ p) (hn:ps ≠ []):PySem.Txt.split (mkS (jn2 c d ps)) (mkS [c,d]) = ps.map mkS:=by
 have e1:=StrLaws.join_split (mkS (jn2 c d ps)) (mkS [c,d])
 have e2:=Zka (x:=mkS (jn2 c d ps)) hc hd
 have e3:1 <= (PySem.Txt.split (mkS (jn2 c d ps)) (mkS [c,d])).length:=PyProof.Rows.split_pos _ _
 generalize PySem.Txt.split (mkS (jn2 c d ps)) (mkS [c,d]) = P at *
 have eP:P = (P.map fun x=>x.cps.toList).map mkS:=by
  rw [List.map_map]
  exact ((List.map_congr_left fun x _=>(Zpj x).symm).trans (List.map_id _)).symm
 have ej:=Zg9 c d (P.map fun x=>x.cps.toList)
 rw [<- eP,e1] at ej
 rw [eP,<- Znh ne (fun z=>by rw [List.map_eq_nil_iff.mp z] at e3; exact absurd e3 (by decide)) hn (fun q m=>by
  obtain ⟨x,hx,rfl⟩:=List.mem_map.mp m
  exact e2 x hx) h (Zgs ej).symm]
theorem Zny (c d:Nat):∀ ps:List (List Nat),(jn2 c d ps).length <= (ps.map fun p=>p.length + 2).sum
 | []=>Nat.le_refl _
 | [x]=>by show x.length <= x.length + 2 + 0; omega
 | x :: y :: r=>by
  have:=Zny c d (y :: r)
  show (x ++ c :: d :: jn2 c d (y :: r)).length <= _
  rw [List.length_append,List.length_cons,List.length_cons,List.map_cons,List.sum_cons]; omega
theorem Zoo {c d z:Nat}:∀ {ps:List (List Nat)},z ∈ jn2 c d ps→z = c\/z = d\/∃ p ∈ ps,z ∈ p
 | [],h=>nomatch h
 | [x],h=>.inr (.inr ⟨x,.head _,h⟩)
 | x :: y :: r,h=>by
  rcases List.mem_append.mp (show z ∈ x ++ c :: d :: jn2 c d (y :: r) from h) with h | h
  .exact .inr (.inr ⟨x,.head _,h⟩)
  .rcases List.mem_cons.mp h with h | h
   .exact .inl h
   .rcases List.mem_cons.mp h with h | h
    .exact .inr (.inl h)
    .exact (Zoo h).imp id (·.imp id fun ⟨p,m,q⟩=>⟨p,.tail _ m,q⟩)
theorem Zpi {c d:Nat} {ps:List (List Nat)} (h:(ps.map fun p=>p.length + 2).sum <= 1000000):Zfy (mkS [c,d]) [.list (ps.map fun p=>.str (mkS p))] = some (.str (mkS (jn2 c d ps))):=by
 have ok:JoinOk (mkS [c,d]) (ps.map mkS) = true:=by
  refine PyProof.Rows.joinOk_of ?_
  have e:∀ ps:List (List Nat),((ps.map mkS).map (·.length)).sum + ps.length * 2 = (ps.map fun p=>p.length + 2).sum:=fun ps=>by
   induction ps with
   | nil=>rfl
   | cons p ps ih =>
    rw [List.map_cons,List.map_cons,List.map_cons,List.sum_cons,List.sum_cons,List.length_cons,<- ih,J0]; omega
  have:=e ps
  rw [List.length_map]
  show _ + ps.length * 2 <= _
  omega
 show ((Zf0 (ps.map fun p=>PyData.str (mkS p))).bind fun ts=>if JoinOk (mkS [c,d]) ts = true then some (PyData.str (PySem.Txt.join (mkS [c,d]) ts)) else none) = _
 have e:Zf0 (ps.map fun p=>PyData.str (mkS p)) = some (ps.map mkS):=by
  have:=Zeo (ps.map mkS)
  rwa [List.map_map] at this
 rw [e,Option.bind_some,if_pos ok]
 unfold PySem.Txt.join
 rw [StrLaws.glued_eq_join,Zg9]
theorem Zml {c d:Nat} (hc:c < 128) (hd:d < 128) (ne:c ≠ d) {ps:List (List Nat)} (h:∀ p ∈ ps,c ∉ p) (hn:ps ≠ []) (hl:(jn2 c d ps).length <= 1000000) (hk:ps.length <= 1000000):Jt (mkS (jn2 c d ps)) [.str (mkS [c,d])] = some (.nd ((ps.map fun p=>PyData.str (mkS p)).map OT.fz)):=by
 show (if Zb7 (mkS (jn2 c d ps)) (mkS [c,d]) = true then some (OT.nd (((PySem.Txt.split (mkS (jn2 c d ps)) (mkS [c,d])).map PyData.str).map OT.fz)) else none) = _
 have s:=Zod hc hd ne h hn
 rw [if_pos (by unfold Zb7; rw [s,J0,List.length_map,sizeLine_eq,decide_eq_true (by omega),decide_eq_true (by omega)]; rfl),s,List.map_map,List.map_map,List.map_map]
 rfl
theorem Z9t:Str.ofString "; " = mkS [59,32]:=by rw [Str.ofString_eq_toList]; rfl
theorem Ya7:Str.ofString ": " = mkS [58,32]:=by rw [Str.ofString_eq_toList]; rfl
theorem Zlu {c d:Nat}   (h:z = mkS [c,d]):EvV (fC (.str z)) δ (.str (mkS [c,d])):=h ▸ Z0
theorem Zln:Str.ofString "none" = mkS [110,111,110,101]:=by rw [Str.ofString_eq_toList]; rfl
theorem Zg2 {n:Nat}  {xs:List PyData}   (hl:xs.length = np) (k:S (Jq n xs) = .rt o δ'):W5 np n S xs = .ok o:=by rw [Zko hl,k,Zp6]
def ctx (A:List Int):List Nat:=jn 32 (A.map tx)
def wtx (q:List Int × Rat):List Nat:=jn2 58 32 [ctx q.1,qtx q.2]
def ltx (L:List (List Int × Rat)):List Nat:=if L = [] then [110,111,110,101] else jn2 59 32 (L.map wtx)
structure Wq (q:List Int × Rat):Prop where
 ne:q.1 ≠ []
 pt:∀ x ∈ q.1,1 <= x/\x < 10
 ln:q.1.length <= 9
 ds:DsQ q.2
theorem Zna {x:Int} (h:1 <= x/\x < 10):∃ m:Nat,x = (m:Int)/\tx x = dg m/\(dg m).length = 1:=by
 obtain ⟨m,rfl⟩:=Int.eq_ofNat_of_zero_le (show 0 <= x by omega)
 exact ⟨m,rfl,Zdl m,by rw [Zkr (by omega)]; rfl⟩
theorem Zqq {A:List Int} (h:∀ x ∈ A,1 <= x/\x < 10):∀ c ∈ ctx A,c = 32\/(48 <= c/\c <= 57):=fun c m=>by
 rcases Zu6 m with m | ⟨p,hp,m⟩
 .exact .inl m
 .obtain ⟨x,hx,rfl⟩:=List.mem_map.mp hp
  obtain ⟨k,_,e,_⟩:=Zna (h x hx)
  rw [e] at m
  exact .inr (Zci m)
theorem Zm5 {A:List Int} (h:∀ x ∈ A,1 <= x/\x < 10) (hl:A.length <= 9):((A.map tx).map fun p=>p.length + 1).sum <= 18:=by
 refine Nat.le_trans (Zox _ 2 _ fun p hp=>?_) (by rw [List.length_map]; omega)
 obtain ⟨x,hx,rfl⟩:=List.mem_map.mp hp
 obtain ⟨k,_,e,l⟩:=Zna (h x hx)
 rw [e,l]; exact Nat.le_refl _
theorem Zkl {A:List Int} (h:∀ x ∈ A,1 <= x/\x < 10) (hl:A.length <= 9):(ctx A).length <= 18:=Nat.le_trans (Zu2 ..) (Zm5 h hl)
theorem Zlq (q:List Int × Rat):wtx q = ctx q.1 ++ [58,32] ++ qtx q.2:=by
 show ctx q.1 ++ 58 :: 32 :: qtx q.2 = _
 rw [List.append_assoc]; rfl
theorem Zo5 {q:List Int × Rat} (h:Wq q):∀ c ∈ wtx q,c = 32\/(47 <= c/\c <= 58):=fun c m=>by
 rw [Zlq] at m
 rcases List.mem_append.mp m with m | m
 .rcases List.mem_append.mp m with m | m
  .have:=Zqq h.pt c m; omega
  .rcases List.mem_cons.mp m with m | m
   .omega
   .have:=List.mem_singleton.mp m; omega
 .have:=Zjj h.ds c m; omega
theorem Zqw {q:List Int × Rat} (h:Wq q):(wtx q).length <= 101:=by
 have h1:=Zkl h.pt h.ln
 have h2:=Zey h.ds
 rw [Zlq,List.length_append,List.length_append]
 show _ + 2 + _ <= _
 omega
theorem Zrc {q:List Int × Rat} (h:Wq q):∃ d r,wtx q = d :: r/\d <= 57:=by
 obtain ⟨x,A,e⟩:=List.exists_cons_of_ne_nil h.ne
 obtain ⟨k,_,e1,_⟩:=Zna (h.pt x (by rw [e]; exact .head _))
 obtain ⟨d,r,e2⟩:=List.exists_cons_of_ne_nil (Zw3 k)
 have hd:=Zci (n:=k) (c:=d) (by rw [e2]; exact .head _)
 have:∃ r',ctx q.1 = d :: r':=by
  unfold ctx
  rw [e,List.map_cons,e1,e2]
  cases A with
  | nil=>exact ⟨r,rfl⟩
  | cons y A=>exact ⟨_,rfl⟩
 obtain ⟨r',e3⟩:=this
 exact ⟨d,r' ++ [58,32] ++ qtx q.2,by rw [Zlq,e3]; rfl,hd.2⟩
theorem Z0h {q:List Int × Rat} (h:Wq q):Cp (wtx q):=fun c m=>by have:=Zo5 h c m; omega
theorem Zqn {L:List (List Int × Rat)} (h:∀ q ∈ L,Wq q) (hl:L.length < 64):((L.map wtx).map fun p=>p.length + 2).sum <= 7000:=by
 refine Nat.le_trans (Zox _ 103 _ fun p hp=>?_) (by rw [List.length_map]; omega)
 obtain ⟨q,hq,rfl⟩:=List.mem_map.mp hp
 have:=Zqw (h q hq); omega
theorem Ziy {L:List (List Int × Rat)} (h:∀ q ∈ L,Wq q):Cp (ltx L):=fun c m=>by
 unfold ltx at m
 split at m
 .simp only [List.mem_cons,List.not_mem_nil,or_false] at m
  omega
 .rcases Zoo m with m | m | ⟨p,hp,m⟩
  .omega
  .omega
  .obtain ⟨q,hq,rfl⟩:=List.mem_map.mp hp
   exact Z0h (h q hq) c m
theorem Zz9 {L:List (List Int × Rat)} (h:∀ q ∈ L,Wq q) (hn:L ≠ []):ltx L ≠ [110,111,110,101]:=by
 unfold ltx
 rw [if_neg hn]
 obtain ⟨q,M,rfl⟩:=List.exists_cons_of_ne_nil hn
 obtain ⟨d,r,e,hd⟩:=Zrc (h q (.head _))
 have:∃ r',jn2 59 32 ((q :: M).map wtx) = d :: r':=by
  rw [List.map_cons,e]
  cases M with
  | nil=>exact ⟨r,rfl⟩
  | cons y M=>exact ⟨_,rfl⟩
 obtain ⟨r',e'⟩:=this
 rw [e']
 intro z
 have:=(List.cons.inj z).1
 omega
theorem Zll {A:List Int} (h:∀ x ∈ A,1 <= x/\x < 10) (hl:A.length <= 9) {e:FE}  (he:EvV e δ (Z1 A)) :
  EvV (Zsb Zfy (fC (.str " ")) (Zf (Y4 1 [] (Zcl e) Zlw Zer (Zc9 Zrx Zf3)) Yb)) δ (.str (mkS (ctx A))):=by
 refine Zxf (ps:=A.map tx) (Zpw Z9h) ((Zgu (cs:=[]) A PyData.int (fun x=>.str (mkS (tx x))) (J7 he) (by omega) rfl fun x hx=>Jc (Zb (Za (i:=0) rfl) Zg) (Ze4 (Bt.of_lt (Int.lt_of_lt_of_le (b:=0) (by decide +kernel) (by have:=h x hx; omega)) (Int.lt_of_lt_of_le (h x hx).2 (by decide +kernel))))).cast ?_) (Nat.le_trans (Zm5 h hl) (by decide))
 rw [List.map_map]; rfl
theorem Zt0 {q:List Int × Rat} (h:Wq q) {a b:FE}  (ha:EvV a δ (.str (mkS (ctx q.1)))) (hb:EvV b δ (.str (mkS (qtx q.2)))):EvV (Zd Zcn (Zd Zcn a Z45) b) δ (.str (mkS (wtx q))):=by
 have h1:=Zkl h.pt h.ln
 have h2:=Zey h.ds
 rw [Zlq]
 exact Zm (Zm ha (Zlu Ya7) (Zbh (by show _ + 2 <= _; omega))) hb (Zbh (by rw [List.length_append]; show _ + 2 + _ <= _; omega))
theorem Zup {L:List (List Int × Rat)} (h:∀ q ∈ L,Wq q) (hn:L ≠ []) (hl:L.length < 64)  (hm:∀ q ∈ L,EvV me [some (.fz (Z1 q.1)),some (.fz (frD q.2))] (.str (mkS (wtx q)))) {e:FE}  (he:EvV e δ (Zd6 L)) :
  EvV (Zsb Zfy Z3q (Zf (Y4 2 [] (Zcl e) Z5j Zer me) Yb)) δ (.str (mkS (ltx L))):=by
 unfold ltx
 rw [if_neg hn]
 refine Zuz (Zlu Z9t) (Zb ?_ Zg) (Zpi (ps:=L.map wtx) (Nat.le_trans (Zqn h hl) (by decide)))
 refine (Zlg (t:=Zer) (cs:=[]) L ctD (fun q=>.str (mkS (wtx q))) (fun _=>true) (J7 he) (by omega) rfl fun q hq z0 z1=>⟨some (.fz (Z1 q.1)),some (.fz (frD q.2)),rfl,rfl,hm q hq⟩).cast ?_
 rw [List.filter_eq_self.mpr fun _ _=>rfl,List.map_map]; rfl
theorem Zi5 {L:List (List Int × Rat)} (h:∀ q ∈ L,Wq q) (hl:L.length < 64):Told Wy [Zd6 L] (.str (mkS (ltx L))):=by
 have len:EvV (Zc9 Zhn Zf3) (Jq 1 [Zd6 L]) (.int L.length):=(Zi0 (ds:=L.map ctD) (Za (i:=0) rfl)).cast (by rw [List.length_map])
 by_cases hn:L = []
 .subst hn
  refine Zy rfl <| Wj <| Jb (W9 (Zag len Z0 rfl)) (Z3 (Z0.cast ?_))
  exact congrArg PyData.str Zln
 .have:=List.length_pos_iff.mpr hn
  refine Zy rfl <| Zo (Zn (W9 (Zag len Z0 (decide_eq_false (by omega)))) rfl) (Z3 (Zup h hn hl (fun q hq=>Zt0 (h q hq) (Zq (Zb (Za (i:=0) rfl) Zg) ?_) (Zq (Zb (Za (i:=1) rfl) Zg) (Zvn (h q hq).ds))) (Za (i:=0) rfl)))
  exact Zy rfl (Z3 (Zll (h q hq).pt (h q hq).ln (Za (i:=0) rfl)))
theorem Zqk {L:List (List Int × Rat)}:gEq (Zd6 L) (.list []) = some (.bool (decide (L = []))):=by
 have s:SeqAt.shaped (Zd6 L) = true:=((Zt2 L).shp (by omega)).ok
 unfold gEq
 rw [if_pos (by rw [s]; rfl)]
 cases L <;> rfl
theorem Zmk {L:List (List Int × Rat)} (h:∀ q ∈ L,Wq q) (hl:L.length < 64):Told Yo [Zd6 L] (.str (mkS (ltx L))):=by
 by_cases hn:L = []
 .subst hn
  refine Zy rfl <| Wj <| Jb (W9 (Zm (Za (i:=0) rfl) (Zig Zg (by decide)) (Zqk (L:=[])))) (Z3 (Z0.cast ?_))
  exact congrArg PyData.str Zln
 .refine Zy rfl <| Zo (Zn (W9 (Zm (Za (i:=0) rfl) (Zig Zg (by decide)) (by rw [Zqk,decide_eq_false hn]))) rfl) (Z3 (Zup h hn hl (fun q hq=>Zt0 (h q hq) (Zll (h q hq).pt (h q hq).ln (Za (i:=0) rfl)) (Zq (Zb (Za (i:=1) rfl) Zg) (Zq9 (h q hq).ds))) (Za (i:=0) rfl)))
def OwnQ (q:List Int × Rat) (t:OT):Prop:=∃ rs o,t = .tp [.nd rs,o]/\OT.datas rs = q.1.map PyData.int/\o.data = frD q.2
theorem OwnQ.data {q:List Int × Rat} {t:OT} (h:OwnQ q t):t.data = ctD q:=by
 obtain ⟨rs,o,rfl,e1,e2⟩:=h
 rw [OT.data_tp]
 show PyData.tuple [(OT.nd rs).data,o.data] = _
 rw [OT.data_nd,<- datas_map,e1,e2]; rfl
theorem Zi2 {c d:Nat} (hc:c < 128) (hd:d < 128) (ne:c ≠ d) {o a:FE}  {ps:List (List Nat)} (ho:EvV o δ (.str (mkS (jn2 c d ps)))) (ha:EvV a δ (.str (mkS [c,d]))) (h:∀ p ∈ ps,c ∉ p) (hn:ps ≠ []) (hl:(jn2 c d ps).length <= 1000000) (hk:ps.length <= 1000000):EvV (Zmv Jt o (Zf a Yb)) δ (.list (ps.map fun p=>.str (mkS p))) :=
 Zuh ho (Zb ha Zg) (Zml hc hd ne h hn hl hk) (by rw [OT.data_nd,OT.map_fz])
theorem Zo2  {as:FA}    (h:EvA as δ ds) (k:F ds = .ok o):Zw F as δ = some (o,δ):=by
 obtain ⟨ts,e1,e2⟩:=h
 rw [Zle,e1]
 show okO (F _) _ = _
 rw [e2,k]; rfl
theorem Zd2 {q:List Int × Rat} (h:Wq q):∃ t,Z8 [.str (mkS (wtx q))] = .ok t/\OwnQ q t:=by
 have lw:=Zqw h
 have sp:EvV (Zmv Jt (Zv 0) (Zf (fC (.str ": ")) Yb)) (Jq 2 [.str (mkS (wtx q))]) (.list [.str (mkS (ctx q.1)),.str (mkS (qtx q.2))]) :=
  Zi2 (c:=58) (d:=32) (by decide) (by decide) (by decide) (ps:=[ctx q.1,qtx q.2]) (Za (i:=0) rfl) (Zlu Ya7) (fun p m z=>by
   rcases List.mem_cons.mp m with rfl | m
   .have:=Zqq h.pt _ z; omega
   .rw [List.mem_singleton.mp m] at z
    have:=Zjj h.ds _ z; omega) (by simp) (by show (wtx q).length <= _; omega) (Nat.le_of_ble_eq_true rfl)
 obtain ⟨rs,e4,e5⟩:=Zkp (δ:=[some (.fz (.str (mkS (wtx q)))),some (.fz (.list [.str (mkS (ctx q.1)),.str (mkS (qtx q.2))]))]) (caps:=[]) (cs:=[]) (me:=Zw Zt (Zf (Zv 0) Yb)) q.1 (fun x=>.str (mkS (tx x))) PyData.int (it:=Zcl (Zmv Jt (Zbz gIx (Zv 1) (fC (.int 0))) (Zf (fC (.str " ")) Yb)))
  (J7 ((Zgt (c:=32) (ps:=q.1.map tx) (Zce (d:=.str (mkS (ctx q.1))) (Za (i:=1) rfl) Z0 rfl) (Zpw Z9h) (fun p hp z=>by
   obtain ⟨x,hx,rfl⟩:=List.mem_map.mp hp
   obtain ⟨k,_,e,_⟩:=Zna (h.pt x hx)
   rw [e] at z
   have:=Zci z; omega) (fun z=>h.ne (List.map_eq_nil_iff.mp z)) (by have:=Zkl h.pt h.ln; show (ctx q.1).length <= _; omega) (by rw [List.length_map]; have:=h.ln; omega)).cast (by rw [List.map_map]; rfl))) (by have:=h.ln; omega) rfl fun x hx=>by
   obtain ⟨k,e1,e,l⟩:=Zna (h.pt x hx)
   rw [e,e1]
   exact Zq (Zb (Za (i:=0) rfl) Zg) (Jy (by omega))
 obtain ⟨o,e6,e7⟩:=Zq (δ:=[some (.fz (.str (mkS (wtx q)))),some (.fz (.list [.str (mkS (ctx q.1)),.str (mkS (qtx q.2))]))]) (as:=Zf (Zbz gIx (Zv 1) (fC (.int 1))) Yb) (Zb (Zce (d:=.str (mkS (qtx q.2))) (Za (i:=1) rfl) Z0 rfl) Zg) (Zfd h.ds)
 refine ⟨.tp [.nd rs,o],Zg2 (δ':=[some (.fz (.str (mkS (wtx q)))),some (.fz (.list [.str (mkS (ctx q.1)),.str (mkS (qtx q.2))]))]) rfl (Wn (Wg sp) (Wn (Zn (W9 (Zl9 (i:=2) (j:=2) (Zi0 (ds:=[.str (mkS (ctx q.1)),.str (mkS (qtx q.2))]) (Za (i:=1) rfl)) Z0 rfl)) rfl) ?_)),rs,o,rfl,e5,e7⟩
 have et:Zms (Zf (Y4 1 [] (Zcl (Zmv Jt (Zbz gIx (Zv 1) (fC (.int 0))) (Zf (fC (.str " ")) Yb))) (gNm 0) Zer (Zw Zt (Zf (Zv 0) Yb))) (Zf (Zw Yj (Zf (Zbz gIx (Zv 1) (fC (.int 1))) Yb)) Yb)) [some (.fz (.str (mkS (wtx q)))),some (.fz (.list [.str (mkS (ctx q.1)),.str (mkS (qtx q.2))]))] = some (.tp [.nd rs,o],[some (.fz (.str (mkS (wtx q)))),some (.fz (.list [.str (mkS (ctx q.1)),.str (mkS (qtx q.2))]))]):=by
  rw [Zk1,Zg1,e4,Option.bind_some]
  dsimp only
  rw [Zg1,e6]; rfl
 rw [Zbn]
 refine (congrArg (onO · _) et).trans rfl
theorem Zkk {L:List (List Int × Rat)} (h:∀ q ∈ L,Wq q) (hl:L.length < 64):∃ ts:List OT,Yk [.str (mkS (ltx L))] = .ok (.nd ts)/\ts.map OT.data = L.map ctD/\∀ t ∈ ts,∃ q ∈ L,OwnQ q t:=by
 by_cases hn:L = []
 .subst hn
  refine ⟨[],Zg2 (δ':=[some (.fz (.str (mkS (ltx []))))]) rfl (Zio (Zg0 (W9 (Zm (Za (i:=0) rfl) Z0 ?_)) ?_)),rfl,fun t m=>nomatch m⟩
  .rw [Zln]
   exact (Zc7 (Ziy (L:=[]) fun q m=>nomatch m) (Ziy (L:=[]) fun q m=>nomatch m)).trans (by rw [decide_eq_true rfl])
  .rw [Zbn,Zpc,Zyc]; rfl
 .have hw:∀ q,∃ t,q ∈ L→Z8 [.str (mkS (wtx q))] = .ok t/\OwnQ q t:=fun q=>by
   by_cases m:q ∈ L
   .obtain ⟨t,ht⟩:=Zd2 (h q m)
    exact ⟨t,fun _=>ht⟩
   .exact ⟨.nd [],fun z=>absurd z m⟩
  obtain ⟨f,hf⟩:=Classical.axiomOfChoice hw
  have ec:Y4 1 [] (Zcl (Zmv Jt Wr (Zf Z3q Yb))) Zlw Zer (Zw Z8 Zf3) [some (.fz (.str (mkS (ltx L))))] = some (.nd (L.map f),[some (.fz (.str (mkS (ltx L))))]):=by
   refine Zk2 (cs:=[]) L (fun q=>PyData.str (mkS (wtx q))) f (J7 ((Zi2 (c:=59) (d:=32) (by decide) (by decide) (by decide) (ps:=L.map wtx) (Za (i:=0) ?_) (Zlu Z9t) (fun p hp z=>?_) (fun z=>hn (List.map_eq_nil_iff.mp z)) (Nat.le_trans (Zny ..) (Nat.le_trans (Zqn h hl) (by decide))) (by rw [List.length_map]; omega)).cast (by rw [List.map_map]; rfl))) (by rw [sizeLine_eq]; omega) rfl fun q hq=>Zo2 (Zb (Za (i:=0) rfl) Zg) (hf q hq).1
   .unfold ltx
    rw [if_neg hn]; rfl
   .obtain ⟨q,hq,rfl⟩:=List.mem_map.mp hp
    have:=Zo5 (h q hq) _ z; omega
  refine ⟨L.map f,Zg2 (δ':=[some (.fz (.str (mkS (ltx L))))]) rfl (Wn (Zn (W9 (Zm (Za (i:=0) rfl) Z0 ?_)) rfl) ?_),?_,fun t m=>?_⟩
  .rw [Zln]
   exact (Zc7 (Ziy h) (Ziy (L:=[]) fun q m=>nomatch m)).trans (congrArg (fun b=>some (PyData.bool b)) (decide_eq_false (Zz9 h hn)))
  .rw [Zbn]
   refine (congrArg (onO · _) ec).trans rfl
  .rw [List.map_map]
   exact List.map_congr_left fun q hq=>(hf q hq).2.data
  .obtain ⟨q,hq,rfl⟩:=List.mem_map.mp m
   exact ⟨q,hq,(hf q hq).2⟩
structure Ct (n:Nat) (A:List Int):Prop where
 ne:A ≠ []
 up:A.Pairwise (· < ·)
 pt:∀ x ∈ A,1 <= x/\x < n
def kyQ (q:List Int × Rat):KY:=kA q.1
def vlQ (q:List Int × Rat):PyData:=frD q.2
structure Kp (n:Nat) (D:List (List Int × Rat)):Prop where
 nd:(D.map Prod.fst).Nodup
 ok:∀ q ∈ D,Ct n q.1/\DsQ q.2/\0 < q.2.num
theorem Z8q {A:List Int} {D:List (List Int × Rat)}:Zq0 (kA A) (D.map kyQ) = true ↔ A ∈ D.map Prod.fst:=by
 have e:D.map kyQ = (D.map fun q=>(q.1,(0:Int))).map kyA:=by rw [List.map_map]; rfl
 rw [e,Z6e,List.map_map]; rfl
theorem Z95 {A:List Int} {d:PyData}:∀ D:List (List Int × Rat),Z3e (kA A) d (D.map kyQ) (D.map vlQ) = D.map fun q=>if q.1 = A then d else vlQ q
 | []=>rfl
 | q :: D=>by
  rw [List.map_cons,List.map_cons,List.map_cons,Z3e]
  rw [Z95 D]
  by_cases c:q.1 = A
  .rw [if_pos (show kyQ q = kA A by rw [<- c]; rfl),if_pos c]
  .rw [if_neg (show ¬ kyQ q = kA A from fun z=>c (Zp3 z)),if_neg c]
theorem Z84 {A:List Int}:∀ {D:List (List Int × Rat)},A ∈ D.map Prod.fst→∃ q ∈ D,q.1 = A/\Zw7 (kA A) (D.map kyQ) (D.map vlQ) = some (vlQ q)
 | q :: D,h=>by
  rw [List.map_cons,List.map_cons,Zw7]
  by_cases c:q.1 = A
  .exact ⟨q,.head _,c,by rw [if_pos (show kyQ q = kA A by rw [<- c]; rfl)]⟩
  .rw [if_neg (show ¬ kyQ q = kA A from fun z=>c (Zp3 z))]
   obtain ⟨r,hr,e1,e2⟩:=Z84 (D:=D) ((List.mem_cons.mp h).resolve_left fun z=>c z.symm)
   exact ⟨r,.tail _ hr,e1,e2⟩
theorem Yb8 {n:Nat} {A:List Int} {w:Rat} {D:List (List Int × Rat)} (K:Kp n D) (hA:Ct n A) (hw:DsQ w) (h0:0 < w.num):∃ D',Zi8 (kA A) (D.map kyQ) = D'.map kyQ/\Zi6 (kA A) (frD w) (D.map kyQ) (D.map vlQ) = D'.map vlQ/\Kp n D'/\D'.length <= D.length + 1:=by
 by_cases h:A ∈ D.map Prod.fst
 .have hh:=Z8q.mpr h
  refine ⟨D.map fun q=>if q.1 = A then (q.1,w) else q,?_,?_,⟨?_,fun q m=>?_⟩,by rw [List.length_map]; omega⟩
  .unfold Zi8
   rw [if_pos hh,List.map_map]
   refine List.map_congr_left fun r _=>?_
   show kyQ r = kyQ (if r.1 = A then (r.1,w) else r)
   split <;> rfl
  .unfold Zi6
   rw [if_pos hh,Z95,List.map_map]
   refine List.map_congr_left fun r hr=>?_
   show (if r.1 = A then frD w else vlQ r) = vlQ (if r.1 = A then (r.1,w) else r)
   split <;> rfl
  .rw [List.map_map,show (D.map (Prod.fst ∘ fun q=>if q.1 = A then (q.1,w) else q)) = D.map Prod.fst from List.map_congr_left fun q _=>by
    show (if q.1 = A then (q.1,w) else q).1 = q.1
    split <;> rfl]
   exact K.nd
  .obtain ⟨r,hr,rfl⟩:=List.mem_map.mp m
   by_cases c:r.1 = A
   .rw [if_pos c]; exact ⟨(K.ok r hr).1,hw,h0⟩
   .rw [if_neg c]; exact K.ok r hr
 .have hh:¬ Zq0 (kA A) (D.map kyQ) = true:=fun z=>h (Z8q.mp z)
  refine ⟨D ++ [(A,w)],?_,?_,⟨?_,fun q m=>?_⟩,by rw [List.length_append]; exact Nat.le_refl _⟩
  .unfold Zi8
   rw [if_neg hh,List.map_append]; rfl
  .unfold Zi6
   rw [if_neg hh,List.map_append]; rfl
  .rw [List.map_append,List.nodup_append]
   exact ⟨K.nd,List.nodup_cons.mpr ⟨(fun z=>nomatch z),.nil⟩,fun a ha b hb e=>by
    rw [List.mem_singleton.mp hb] at e
    exact h ((show a = A from e) ▸ ha)⟩
  .rcases List.mem_append.mp m with m | m
   .exact K.ok q m
   .rw [List.mem_singleton.mp m]; exact ⟨hA,hw,h0⟩
theorem Z7x:∀ k:Fin 9,atI [PyData.int 1,.int 2,.int 4,.int 8,.int 16,.int 32,.int 64,.int 128,.int 256] ((k:Nat):Int) = some (.int (2 ^ (k:Nat))):=by
 intro k
 match k with
 | ⟨0,_⟩=>rfl
 | ⟨1,_⟩=>rfl
 | ⟨2,_⟩=>rfl
 | ⟨3,_⟩=>rfl
 | ⟨4,_⟩=>rfl
 | ⟨5,_⟩=>rfl
 | ⟨6,_⟩=>rfl
 | ⟨7,_⟩=>rfl
 | ⟨8,_⟩=>rfl
abbrev Yb5:FE:=Y4 1 [3] (iRa (Zf (Zd gSb Wr Zds) Yb)) Zlw Z8z (Zd Zho Wr Zds)
theorem Z3g {n:Nat} (h0:1 <= n) (hn:n <= 10) {c:Int}  (h1:δ[0]? = some (some (.fz (.int n)))) (hb:blk 1 [3] δ = [none,some (.fz (.int c))]):∃ A:List Int,EvV Yb5 δ (Z1 A)/\(A = []\/Ct n A)/\A.length <= 9:=by
 let pr:Nat→Bool:=fun k=>decide ((c.fdiv (2 ^ k)).fmod 2 = 1)
 refine ⟨((List.range (n - 1)).filter pr).map fun k:Nat=>(k:Int) + 1,?_,?_,?_⟩
 .refine (Zpq (cs:=[some (.fz (.int c))]) (List.range (n - 1)) (fun k:Nat=>PyData.int (0 + (k:Int))) (fun k=>.int ((k:Int) + 1)) pr (Z5x (n:=n - 1) (Zb ((Znc (Za h1) Z0).cast (congrArg PyData.int (show (n:Int) - 1 = ((n - 1:Nat):Int) by omega))) Zg) (by omega)) (by rw [List.length_range]; omega) hb (fun k hk=>?_) fun k hk _=>?_).cast (by unfold Z1; rw [List.map_map]; rfl)
  .have hk:=List.mem_range.mp hk
   rw [Int.zero_add]
   have e:=Z7x ⟨k,by omega⟩
   have p0:(0:Int) < 2 ^ k:=Int.pow_pos (show (0:Int) < 2 by decide)
   have p1:(2:Int) ^ k <= 256:=by
    have h:=Nat.pow_le_pow_right (n:=2) (by decide) (show k <= 8 by omega)
    have e:((2 ^ k:Nat):Int) = (2:Int) ^ k:=Int.natCast_pow 2 k
    rw [<- e]; omega
   exact W9 (Zag (Zam (Zfk (Za (i:=1) rfl) (Zce (d:=.int (2 ^ k)) (Zig (Zb Z0 (Zb Z0 (Zb Z0 (Zb Z0 (Zb Z0 (Zb Z0 (Zb Z0 (Zb Z0 (Zb Z0 Zg))))))))) (show 9 <= 1000 by decide)) (Za (i:=0) rfl) (by rw [Zv1,e]; rfl)) (by rw [decide_eq_true p0,decide_eq_true (Int.lt_of_le_of_lt p1 (by decide))]; rfl)) Z0 (by decide)) Z0 rfl)
  .rw [Int.zero_add]
   exact Zi4 (Za (i:=0) rfl) Z0
 .by_cases e:((List.range (n - 1)).filter pr) = []
  .exact .inl (by rw [e]; rfl)
  .refine .inr ⟨fun z=>e (List.map_eq_nil_iff.mp z),?_,fun x hx=>?_⟩
   .rw [List.pairwise_map]
    exact ((List.pairwise_lt_range (n:=n - 1)).sublist List.filter_sublist).imp fun h=>by omega
   .obtain ⟨k,hk,rfl⟩:=List.mem_map.mp hx
    have:=List.mem_range.mp (List.mem_filter.mp hk).1
    omega
 .rw [List.length_map]
  refine Nat.le_trans (List.length_filter_le ..) ?_
  rw [List.length_range]; omega
theorem Zdc {A:List Int} (h:A ≠ []):kdV (.tuple (A.map PyData.int)) = some A:=by
 obtain ⟨x,r,rfl⟩:=List.exists_cons_of_ne_nil h
 unfold kdV
 exact Zck (x :: r)
theorem Zvo {L:List (List Int)} (hL:∀ A ∈ L,A ≠ [])  (hi:i < L.length) (hj:j < L.length):lk kdV ltI (L.map fun A=>.tuple (A.map PyData.int)) i j = ltI (L.getD i []) (L.getD j []):=by
 have e:∀ k,k < L.length→kdV ((L.map fun A=>PyData.tuple (A.map PyData.int)).getD k .none) = some (L.getD k []):=fun k hk=>by
  rw [List.getD_eq_getElem?_getD,List.getElem?_map,List.getElem?_eq_getElem hk,List.getD_eq_getElem?_getD,List.getElem?_eq_getElem hk]
  exact Zdc (hL _ (List.getElem_mem hk))
 unfold lk
 rw [e i hi,e j hj]; rfl
theorem Zr7 {L:List (List Int)} (nd:L.Nodup) (hL:∀ A ∈ L,A ≠ []) (h:L.length < 64):∃ M:List (List Int),Zh4 kdV ltI [.list (L.map fun A=>.tuple (A.map PyData.int))] = some (.nd ((M.map fun A=>PyData.tuple (A.map PyData.int)).map OT.fz))/\M.Perm L/\M.Pairwise (fun a b=>ltI a b = true):=by
 have lm:(L.map fun A=>PyData.tuple (A.map PyData.int)).length = L.length:=List.length_map ..
 have gne:∀ {i j:Nat},i < L.length→j < L.length→i ≠ j→L.getD i [] ≠ L.getD j []:=fun {i j} hi hj ne=>by
  rw [List.getD_eq_getElem?_getD,List.getD_eq_getElem?_getD,List.getElem?_eq_getElem hi,List.getElem?_eq_getElem hj]
  exact fun e=>ne ((List.getElem_inj nd).mp e)
 obtain ⟨M,pM,eM⟩:=Zrn (Zim PyData.none (lk kdV ltI (L.map fun A=>PyData.tuple (A.map PyData.int))) (L.map fun A=>PyData.tuple (A.map PyData.int))) L rfl
 refine ⟨M,?_,pM,?_⟩
 .show (if (decide ((L.map fun A=>PyData.tuple (A.map PyData.int)).length < 64) && (L.map fun A=>PyData.tuple (A.map PyData.int)).all fun d=>(kdV d).isSome) = true then some (OT.nd ((sLay PyData.none (lk kdV ltI _) (L.map fun A=>PyData.tuple (A.map PyData.int))).map OT.fz)) else none) = _
  rw [if_pos,eM]
  rw [Bool.and_eq_true,decide_eq_true_eq,lm,List.all_eq_true]
  refine ⟨h,fun d m=>?_⟩
  obtain ⟨p,hp,rfl⟩:=List.mem_map.mp m
  rw [Zdc (hL p hp)]; rfl
 .have up:=Zvy (β:=Nat) (d:=PyData.none) (vs:=L.map fun A=>PyData.tuple (A.map PyData.int)) (lt:=lk kdV ltI (L.map fun A=>PyData.tuple (A.map PyData.int))) (R:=fun a b=>∃ x y,kdV a = some x/\kdV b = some y/\ltI x y = true) ⟨fun i j k hi hj hk h1 h2=>?_,fun i j hi hj c q=>?_,fun i j hi hj q=>?_⟩ fun i j hi hj q=>?_
  .rw [eM,List.pairwise_map] at up
   refine (up.imp_of_mem fun {a b} ha hb h=>?_)
   obtain ⟨x,y,h1,h2,h3⟩:=h
   rw [Zdc (hL a (pM.mem_iff.mp ha))] at h1
   rw [Zdc (hL b (pM.mem_iff.mp hb))] at h2
   cases h1; cases h2
   exact h3
  all_goals (try rw [lm] at hi hj)
  .rw [lm] at hk
   rw [Zvo hL hi hj] at h1
   rw [Zvo hL hj hk] at h2
   rw [Zvo hL hi hk]
   exact Zvd h1 h2
  .rw [Zvo hL hi hj] at q
   rw [Zvo hL hj hi]
   exact Zw5 (gne hi hj c) q
  .rw [Zvo hL hi hj] at q
   rw [Zvo hL hj hi]
   cases z:ltI (L.getD j []) (L.getD i []) with
   | false=>rfl
   | true=>have:=Zvd q z; rw [Zxi] at this; cases this
  .rw [Zvo hL hi hj] at q
   refine ⟨_,_,?_,?_,q⟩
   .rw [List.getD_eq_getElem?_getD,List.getElem?_map,List.getElem?_eq_getElem hi,List.getD_eq_getElem?_getD,List.getElem?_eq_getElem hi]
    exact Zdc (hL _ (List.getElem_mem hi))
   .rw [List.getD_eq_getElem?_getD,List.getElem?_map,List.getElem?_eq_getElem hj,List.getD_eq_getElem?_getD,List.getElem?_eq_getElem hj]
    exact Zdc (hL _ (List.getElem_mem hj))
structure Wc (n:Nat) (L:List (List Int × Rat)):Prop where
 ok:∀ q ∈ L,Ct n q.1/\DsQ q.2/\0 < q.2.num
 up:(L.map Prod.fst).Pairwise fun a b=>ltI a b = true
 len:L.length < 64
theorem Z6c {as:FA}   (h:EvA as δ ds) (hl:ds.length <= 1000):EvV (Zms as) δ (.tuple ds):=by
 obtain ⟨ts,e1,e2⟩:=h
 refine ⟨.tp ts,?_,by rw [OT.data_tp,<- datas_map,e2]⟩
 rw [Zk1,e1,Option.bind_some]
 rw [<- e2,J5] at hl
 exact if_pos (show ts.length <= sizeLine by rw [sizeLine_eq]; omega)
def sE (n:Nat) (cs:List Int) (D:List (List Int × Rat)) (z3 z4 z5:Option OT):Zc:=[some (.fz (.int n)),some (.fz (Z1 cs)),some (.dc true (D.map kyQ) (D.map vlQ)),z3,z4,z5]
theorem Z3i (D:List (List Int × Rat)):Zgg [dcD true (D.map kyQ) (D.map vlQ)] = if D.length <= sizeLine then some (.nd (((D.map Prod.fst).map fun A=>PyData.tuple (A.map PyData.int)).map OT.fz)) else none:=by
 show (if (((D.map kyQ).map kyD).zip (D.map vlQ)).length <= sizeLine then some (OT.nd (((((D.map kyQ).map kyD).zip (D.map vlQ)).map (·.1)).map OT.fz)) else none) = _
 rw [List.map_fst_zip (by rw [List.length_map,List.length_map,List.length_map]; exact Nat.le_refl _),List.length_zip,List.length_map,List.length_map,List.length_map,Nat.min_self]
 rw [show (D.map kyQ).map kyD = (D.map Prod.fst).map fun A=>PyData.tuple (A.map PyData.int) by rw [List.map_map,List.map_map]; exact List.map_congr_left fun q _=>Z9e q.1]
theorem Z1o {A:List Int} {D:List (List Int × Rat)} (h:A ∈ D.map Prod.fst):∃ q ∈ D,q.1 = A/\Zu3 (dcD true (D.map kyQ) (D.map vlQ)) (.tuple (A.map PyData.int)) = some (.fz (frD q.2)):=by
 obtain ⟨q,hq,e1,e2⟩:=Z84 h
 refine ⟨q,hq,e1,?_⟩
 show ((Zh5 (.tuple (A.map PyData.int))).bind fun k=>if Zu7 k = true then (Zmu k (((D.map kyQ).map kyD).zip (D.map vlQ))).map OT.fz else none) = _
 rw [Zz3,Option.bind_some]
 refine (if_pos (show Zu7 (kA A) = true from rfl)).trans ?_
 rw [Zjf,e2]; rfl
theorem Zhy {n:Nat} (h0:1 <= n) (hn:n <= 10) (cs:List Int) (hc:cs.length <= 60):∃ L,Told Yw [.int n,Z1 cs] (Zd6 L)/\Wc n L:=by
 have key:Zq6 Yx (Jq 6 [.int n,Z1 cs]) fun r=>∃ L,r = Zd6 L/\Wc n L:=by
  refine Zuc (δ':=sE n cs [] none none none) (Zfc (o:=.dc true [] []) rfl) (Z32 (ds:=cs.map PyData.int) (fun k δ=>∃ D z3 z4 z5,δ = sE n cs D z3 z4 z5/\Kp n D/\D.length <= k) (J7 (Za (i:=1) rfl)) ⟨[],none,none,none,rfl,⟨.nil,fun q m=>nomatch m⟩,Nat.le_refl _⟩ (fun k d δ hd q=>?_) fun δ' q=>?_)
  .obtain ⟨D,z3,z4,z5,rfl,K,lD⟩:=q
   have hk:k < cs.length:=by have:=(List.getElem?_eq_some_iff.mp hd).1; rwa [List.length_map] at this
   obtain ⟨c,hcm,rfl⟩:=List.mem_map.mp (List.mem_of_getElem? hd)
   obtain ⟨A,eA,cA,lA⟩:=Z3g h0 hn (c:=c) (δ:=sE n cs D (some (.fz (.int c))) z4 z5) rfl rfl
   obtain ⟨w,ew,hw⟩:=Zyd (v:=(c.fdiv 512).fmod 10000000000000) (Jx (by decide)) (Zaj (by decide))
   have e2:wE Z83 (Zas 5) (sE n cs D (some (.fz (.int c))) (some (.fz (Z1 A))) z5) = .nx (sE n cs D (some (.fz (.int c))) (some (.fz (Z1 A))) (some (.fz (frD w)))) :=
    Wg (Zq (Zb (Zam (Zfk (Za (i:=3) rfl) Z0) (Zm Z0 Z0 (show Zov (.int 10) (.int 13) = some (.int 10000000000000) from rfl)) (by decide)) Zg) ew)
   have tN:EvT (tV (Zd gNe (Zv 4) (Zmh Yb))) (sE n cs D (some (.fz (.int c))) (some (.fz (Z1 A))) (some (.fz (frD w)))) (!decide (A = [])):=W9 (Zm (Za (i:=4) rfl) (Zig Zg (by decide)) (Ztk A []))
   have tG:EvT Yab (sE n cs D (some (.fz (.int c))) (some (.fz (Z1 A))) (some (.fz (frD w)))) (decide (0 < w.num)):=W9 (Zz8 (at0 rfl) Z0 rfl)
   by_cases hA:A = []
   .rw [decide_eq_true hA] at tN
    exact ⟨_,_,rfl,.inl (Wn (Wg eA) (Wn e2 (Zn (Zxy tN) rfl))),D,_,_,_,rfl,K,by omega⟩
   .rw [decide_eq_false hA] at tN
    by_cases hg:0 < w.num
    .rw [decide_eq_true hg] at tG
     obtain ⟨D',p1,p2,K',l'⟩:=Yb8 (w:=w) K (cA.resolve_left hA) hw hg
     refine ⟨_,_,rfl,.inl (Wn (Wg eA) (Wn e2 (Zg0 (Zx8 tN tG) (Zzd (k:=kA A) (Za (i:=5) rfl) rfl (Zmn (o:=.fz (.tuple (A.map PyData.int))) (Zb (Za (i:=4) rfl) Zg) rfl (OT.data_fz _)) (Zz3 A) rfl (by rw [List.length_map]; omega))))),D',some (.fz (.int c)),some (.fz (Z1 A)),some (.fz (frD w)),?_,K',by omega⟩
     rw [p1,p2]; rfl
    .rw [decide_eq_false hg] at tG
     exact ⟨_,_,rfl,.inl (Wn (Wg eA) (Wn e2 (Zn (Zx8 tN tG) rfl))),D,_,_,_,rfl,K,by omega⟩
  .obtain ⟨D,z3,z4,z5,rfl,K,lD⟩:=q
   rw [List.length_map] at lD
   obtain ⟨M,eM,pM,uM⟩:=Zr7 (L:=D.map Prod.fst) K.nd (fun A m=>by
    obtain ⟨q,hq,rfl⟩:=List.mem_map.mp m
    exact (K.ok q hq).1.ne) (by rw [List.length_map]; omega)
   have ch:∀ A:List Int,∃ q:List Int × Rat,A ∈ M→q ∈ D/\q.1 = A/\Zu3 (dcD true (D.map kyQ) (D.map vlQ)) (.tuple (A.map PyData.int)) = some (.fz (frD q.2)):=fun A=>by
    by_cases m:A ∈ M
    .obtain ⟨q,h1,h2,h3⟩:=Z1o (pM.mem_iff.mp m)
     exact ⟨q,fun _=>⟨h1,h2,h3⟩⟩
    .exact ⟨([],0),fun z=>absurd z m⟩
   obtain ⟨f,hf⟩:=Classical.axiomOfChoice ch
   have lM:M.length = D.length:=by rw [pM.length_eq,List.length_map]
   refine Zo7 (o:=.dc true (D.map kyQ) (D.map vlQ)) rfl (Z0o (d:=Zd6 (M.map f)) ?_ ⟨M.map f,rfl,⟨fun q m=>?_,?_,by rw [List.length_map]; omega⟩⟩)
   .refine (Zgu (cs:=[some (.fz (OT.dc true (D.map kyQ) (D.map vlQ)).data)]) M (fun A=>.tuple (A.map PyData.int)) (fun A=>ctD (f A)) (J7 (Zmn (Zb (Zmn (Zb (Za (i:=2) rfl) Zg) ((congrArg (fun x=>Zgg [x]) (OT.data_dc ..)).trans ((Z3i D).trans (if_pos (by rw [sizeLine_eq]; omega)))) (by rw [OT.data_nd,OT.map_fz])) Zg) eM (by rw [OT.data_nd,OT.map_fz]))) (by omega) rfl fun A hA=>?_).cast ?_
    .obtain ⟨h1,h2,h3⟩:=hf A hA
     refine (Z6c (Zb (Zmn (Zb (Za (i:=0) rfl) Zg) (Zxd _) (by rw [OT.data_nd,OT.map_fz])) (Zb (Z09 (Za (i:=1) (d:=dcD true (D.map kyQ) (D.map vlQ)) (by rw [OT.data_dc]; rfl)) (Za (i:=0) rfl) h3) Zg)) (Nat.le_of_ble_eq_true rfl)).cast ?_
     show PyData.tuple [Z1 A,frD (f A).2] = .tuple [Z1 (f A).1,frD (f A).2]
     rw [h2]
    .unfold Zd6; rw [List.map_map]; rfl
   .obtain ⟨A,hA,rfl⟩:=List.mem_map.mp m
    exact K.ok _ (hf A hA).1
   .rw [List.map_map,show M.map (Prod.fst ∘ f) = M from (List.map_congr_left fun A hA=>(hf A hA).2.1).trans (List.map_id _)]
    exact uM
 obtain ⟨r,h,L,rfl,W⟩:=Z55 (np:=2) rfl key
 exact ⟨L,h,W⟩
theorem Ct.cutP {n m:Nat} {A:List Int} (h:Ct n A) (hm:n <= m):Z1b m A:=by
 refine ⟨h.ne,fun k x y hx hy=>?_,?_,?_⟩
 .obtain ⟨lx,rfl⟩:=List.getElem?_eq_some_iff.mp hx
  obtain ⟨ly,rfl⟩:=List.getElem?_eq_some_iff.mp hy
  exact decide_eq_true (List.pairwise_iff_getElem.mp h.up k (k + 1) lx ly (Nat.lt_succ_self k))
 .have pos:=List.length_pos_iff.mpr h.ne
  rw [List.getD_eq_getElem?_getD,List.getElem?_eq_getElem pos]
  exact (h.pt _ (List.getElem_mem pos)).1
 .have pos:=List.length_pos_iff.mpr h.ne
  rw [List.getD_eq_getElem?_getD,List.getElem?_eq_getElem (show A.length - 1 < A.length by omega)]
  have:=(h.pt _ (List.getElem_mem (show A.length - 1 < A.length by omega))).2
  show A[A.length - 1] < _
  omega
theorem Zul {n:Nat}:∀ {A:List Int} (lo:Int),A.Pairwise (· < ·)→(∀ x ∈ A,lo <= x/\x < n)→(A.length:Int) <= max 0 (n - lo)
 | [],lo,_,_=>by show (0:Int) <= _; omega
 | x :: A,lo,hp,h=>by
  have hp:=List.pairwise_cons.mp hp
  have:=Zul (n:=n) (A:=A) (x + 1) hp.2 fun y hy=>⟨by have:=hp.1 y hy; omega,(h y (.tail _ hy)).2⟩
  have hx:=h x (.head _)
  rw [List.length_cons]
  omega
theorem Wc.wq {n:Nat} (hn:n <= 10) {L:List (List Int × Rat)} (h:Wc n L):∀ q ∈ L,Wq q:=fun q hq=>by
 obtain ⟨c,d,_⟩:=h.ok q hq
 refine ⟨c.ne,fun x hx=>?_,?_,d⟩
 .have:=c.pt x hx; omega
 .have:=Zul (n:=n) (A:=q.1) 1 c.up c.pt; omega
theorem Wc.wl {n m:Nat} {L:List (List Int × Rat)} (h:Wc n L) (hm:n <= m):WL m L:=by
 refine ⟨fun p hp=>⟨(h.ok p hp).1.cutP hm,(h.ok p hp).2.2⟩,fun k x y hx hy=>?_⟩
 obtain ⟨lx,rfl⟩:=List.getElem?_eq_some_iff.mp hx
 obtain ⟨ly,rfl⟩:=List.getElem?_eq_some_iff.mp hy
 exact List.pairwise_iff_getElem.mp (List.pairwise_map.mp h.up) k (k + 1) lx ly (Nat.lt_succ_self k)
theorem Zdp {n m:Nat} (hn:n <= 10) (hm:n <= m) (m0:1 <= m) (m1:m <= 10) {L:List (List Int × Rat)} (h:Wc n L):∃ ts:List OT,Yz [.int m,.str (mkS (ltx L))] = .ok (.nd ts)/\(OT.nd ts).data = Zd6 L/\ts.all Zzg = true/\ts.length < 64:=by
 obtain ⟨ts,e1,e2,e3⟩:=Zkk (h.wq hn) h.len
 have dt:(OT.nd ts).data = Zd6 L:=by rw [OT.data_nd,e2]; rfl
 obtain ⟨b,e4,e5⟩:=Zf2 m L (by have:=h.len; omega)
 have hb:b = true:=e5.mpr (h.wl hm)
 subst hb
 refine ⟨ts,Zg2 (δ':=[some (.fz (.int m)),some (.fz (.str (mkS (ltx L)))),none]) rfl (Wn (Zyn (d:=.none) (Zq (Zb (Za (i:=1) rfl) Zg) ?_)) (Wn (Zfc (Zo2 (Zb (Za (i:=1) rfl) Zg) e1)) (Wn (Zn (Ztn (Zbr (p:=true) (Ju (Zq (Zb (Za (i:=0) rfl) Zg) ?_))) (Zbr (p:=true) (Ju (Zq (Zb (Za (i:=0) rfl) (Zb (Zif (i:=2) rfl dt) Zg)) e4)))) rfl) ?_))),dt,?_,?_⟩
 .exact Zph rfl (Zn (Zbr (p:=true) (Ju (Zbd (Za (d:=.str (mkS (ltx L)))) rfl))) rfl)
 .exact Zy rfl (Z3 (Zgh Z0 Za Z0 (decide_eq_true (by omega)) (decide_eq_true (by omega))))
 .rw [Zs7]; rfl
 .rw [List.all_eq_true]
  intro t ht
  obtain ⟨q,hq,rs,o,rfl,e6,_⟩:=e3 t ht
  have lr:=congrArg List.length e6
  rw [J5,List.length_map] at lr
  have:=((h.wq hn) q hq).ln
  exact decide_eq_true (by rw [sizeLine_eq]; omega)
 .have:=congrArg List.length e2
  rw [List.length_map,List.length_map] at this
  have:=h.len; omega
theorem Zhv (L:List (List Int × Rat)):Told (Zj 6) [Zd6 L,Zd6 L] (.bool true):=Zct (k:=5) (ds:=L.map ctD) (.inl rfl) fun d m=>by
 obtain ⟨q,_,rfl⟩:=List.mem_map.mp m
 refine Zct (k:=4) (ds:=[Z1 q.1,frD q.2]) (.inr rfl) fun d m=>?_
 rcases List.mem_cons.mp m with rfl | m
 .refine Zct (k:=3) (ds:=q.1.map PyData.int) (.inl rfl) fun d m=>?_
  obtain ⟨i,_,rfl⟩:=List.mem_map.mp m
  exact Zeq 2 i
 .rw [List.mem_singleton.mp m]; exact Zsv 2 _
def lwE (ns:List Int) (n:Nat) (L:List (List Int × Rat)) (z3 z4 z5 z6 z7 z8 z9:Option OT):Zc:=[some (.fz (Z1 ns)),some (.fz (.int n)),some (.fz (Zd6 L)),z3,z4,z5,z6,z7,z8,z9]
theorem Zss (ns:List Int) (hl:ns.length <= 63):Zdj [.list (ns.map PyData.int)] = .ok (.fz (.bool true)):=by
 show Zdj [Z1 ns] = _
 obtain ⟨c0,e0⟩:=Zgi ns (k:=0) (by decide)
 obtain ⟨c1,e1⟩:=Zgi ns (k:=1) (by decide)
 have a0:=Jx (i:=c0) (j:=9) (by decide)
 have a1:=Zaj (i:=c0) (j:=9) (by decide)
 obtain ⟨n,en⟩:=Int.eq_ofNat_of_zero_le (show 0 <= 2 + c0.fmod 9 by omega)
 have h0:1 <= n:=by omega
 have hn:n <= 10:=by omega
 obtain ⟨L,eL,W⟩:=Zhy h0 hn (Zzq ns (some 2) (some 62)) (Ztt ns 2 60)
 have wq:=W.wq hn
 have cp:=Ziy wq
 have b0:=Jx (i:=c1) (j:=11 - (n:Int)) (by omega)
 have b1:=Zaj (i:=c1) (j:=11 - (n:Int)) (by omega)
 obtain ⟨m,em⟩:=Int.eq_ofNat_of_zero_le (show 0 <= (n:Int) + c1.fmod (11 - (n:Int)) by omega)
 have sh:∀ {δ:Zc},δ[4]? = some (some (.fz (Zd6 L)))→EvV Z7s δ (.str (mkS (ltx L))):=fun h=>Zq (Zb (Za h) Zg) (Zi5 wq W.len)
 refine Told.ok (Zy rfl <| Zo (Wg ((Zi4 Z0 (Zam (Zoj (i:=0) rfl e0) Z0 (by decide))).cast (congrArg PyData.int en))) <| Zo (Wg (Zq (Zb (Za (i:=1) rfl) (Zb (Z65 (Za (i:=0) rfl) (Z58 Z0) (Z58 Z0) rfl) Zg)) eL)) <| Zo (Wg (Zq (Zb (Za (i:=2) rfl) Zg) (Zmk wq W.len))) <| Zo (δ':=lwE ns n L (some (.fz (.str (mkS (ltx L))))) (some (.fz (Zd6 L))) none none none none none) (Wg ?_) <| Zo (Wg (sh rfl)) <|
  Zo (Zn (Ztn (Zbr (p:=true) (Ju (Zbd (Za (i:=5) (d:=.str (mkS (ltx L))) rfl) rfl))) (Ztn (W9 (Zm (Za (i:=5) rfl) (Za (i:=3) rfl) ((Zoz cp cp).trans (by rw [decide_eq_true rfl]; rfl)))) (W9 (Zm (Za (i:=4) rfl) (Za (i:=2) rfl) (Zsn (Zt2 L) (Zqb L) (by decide)))))) rfl) <|
  Zla (ds:=[.int n,.int m]) (fun _ δ=>∃ z6 z7 z8 z9,δ = lwE ns n L (some (.fz (.str (mkS (ltx L))))) (some (.fz (Zd6 L))) (some (.fz (.str (mkS (ltx L))))) z6 z7 z8 z9) (J7 ?_) ⟨none,none,none,none,rfl⟩ (fun k d δ hd q=>?_) fun δ' q=>?_)
 .refine (Zlg (t:=Zer) (cs:=[]) L ctD ctD (fun _=>true) (J7 (Za (i:=2) rfl)) (by have:=W.len; omega) rfl fun q hq z0 z1=>⟨some (.fz (Z1 q.1)),some (.fz (frD q.2)),rfl,rfl,?_⟩).cast ?_
  .exact Zkw (Zb (Zmn (Zb (Za (i:=0) rfl) Zg) (Zx6 _) ((OT.data_nd _).trans (congrArg PyData.list (OT.map_fz _)))) (Zb (Za (i:=1) rfl) Zg)) (Nat.le_of_ble_eq_true rfl)
  .rw [List.filter_eq_self.mpr fun _ _=>rfl]; rfl
 .exact (Zig (Zb (Za (i:=1) rfl) (Zb (Zi4 (Za (i:=1) rfl) (Zam (Zoj (i:=0) rfl e1) (Znc Z0 (Za (i:=1) rfl)) (by omega))) Zg)) (Nat.le_of_ble_eq_true rfl)).cast (congrArg (fun z=>PyData.list [.int n,.int z]) em)
 .obtain ⟨z6,z7,z8,z9,rfl⟩:=q
  obtain ⟨r,rfl,r0,r1⟩:∃ r:Nat,d = .int r/\n <= r/\r <= 10:=by
   have:=List.mem_of_getElem? hd
   rcases List.mem_cons.mp this with rfl | this
   .exact ⟨n,rfl,Nat.le_refl _,hn⟩
   .exact ⟨m,List.mem_singleton.mp this,by omega,by omega⟩
  obtain ⟨ts,eR,dR,aR,lR⟩:=Zdp hn r0 (by omega) r1 W
  refine ⟨_,_,rfl,.inl (Wn (Zfc (Zo2 (Zb (Za (i:=6) rfl) (Zb (Za (i:=3) rfl) Zg)) eR)) (Wn (Zn (Zbr (p:=true) (Ju (Zq (Zb (Zif (i:=7) rfl dR) (Zb (Za (i:=2) rfl) Zg)) (Zhv L)))) rfl)
   (Wn (δ':=lwE ns n L (some (.fz (.str (mkS (ltx L))))) (some (.fz (Zd6 L))) (some (.fz (.str (mkS (ltx L))))) (some (.fz (.int r))) (some (.nd (ts.map (Ztb 0 (.int 0))))) none none) ?_ (Zva Z0 rfl (by rw [List.length_map]; omega))))),some (.fz (.int r)),some (.nd (ts.map (Ztb 0 (.int 0)) ++ [.fz (.int 0)])),none,none,rfl⟩
  unfold Zli
  show (if 8 < 10/\9 < 10/\ts.all Zzg = true then _ else _) = _
  exact if_pos ⟨by decide,by decide,aR⟩
 .obtain ⟨z6,z7,z8,z9,rfl⟩:=q
  obtain ⟨ts,eR,dR,_,_⟩:=Zdp hn (Nat.le_refl n) h0 hn W
  exact Z3 (W7 (Zq (Zb (Zq (Zb (Za (i:=1) rfl) (Zb (Za (i:=3) rfl) Zg)) (.of eR dR)) (Zb (Za (i:=2) rfl) Zg)) (Zhv L)) (Zm (sh rfl) (Za (i:=3) rfl) ((Zc7 cp cp).trans (by rw [decide_eq_true rfl]))))
end My
namespace L2
open PySem PySem.Spec PyProof.Rows
structure Ei (K:PySem.W.Frag) (x:Str) (st:Stmt) (f:Addr) (fd:FuncData):Prop where
 a:PySem.W.nsIn K mainGlobals x = some (some (.ref f))
 F:Fun K x x st f fd
structure En (K:PySem.W.Frag) (mg:Str→Option Value) (x:Str) (st:Stmt) (ps:List Str) (f:Addr) (fd:FuncData):Prop where
 F:Fun K x x st f fd
 b:Binds K fd ps []
 m:mg x = some (.ref f)
structure Ec (K:PySem.W.Frag) (mg:Str→Option Value) (x:Str) (f:Addr):Prop where
 m:mg x = some (.ref f)
 a:ClsAt K x f
section
variable      {f:Addr} {fd:FuncData}
theorem en0 (X:K.In h) (G:h.Ns mainGlobals mg) (q:Ei K x st f fd)  (hb:∀ (kV doc pm:Value) (an:Option Addr) (cdv ct:Value) (us:List Value),us.length = ps.length→bindArgs (PySem.W.fnOf x x (Zc8 st) (Zad st) (Zh st) .none kV doc pm an cdv ct) ⟨us,[]⟩ = pure (ps.zip us)):En K mg x st ps f fd:=⟨q.F,q.F.binds hb,PySem.W.mg_of X G q.a⟩
abbrev Bd (x:Str) (st:Stmt) (ps:List Str) (us:List Value):Prop:=∀ (kV doc pm:Value) (an:Option Addr) (cdv ct:Value),bindArgs (PySem.W.fnOf x x (Zc8 st) (Zad st) (Zh st) .none kV doc pm an cdv ct) ⟨us,[]⟩ = pure (ps.zip us)
theorem l_c  {n:Nat} (h:us.length = n + 1):∃ u vs,us = u :: vs/\vs.length = n:=by
 cases us with
 | nil=>cases h
 | cons u vs=>exact ⟨u,vs,rfl,Nat.succ.inj h⟩
theorem en1 (X:K.In h) (G:h.Ns mainGlobals mg) (q:Ei K x st f fd) {p0:Str} (hb:∀ v0,Bd x st [p0] [v0]:=by exact fun _ _ _ _ _ _ _=>rfl):En K mg x st [p0] f fd:=en0 X G q fun a b c d e g us hl=>by
 have h0:us.length = 1:=hl
 obtain ⟨u0,us0,e0,h1⟩:=l_c h0
 cases List.eq_nil_of_length_eq_zero h1
 subst e0
 exact hb u0 a b c d e g
theorem en2 (X:K.In h) (G:h.Ns mainGlobals mg) (q:Ei K x st f fd) {p0 p1:Str} (hb:∀ v0 v1,Bd x st [p0,p1] [v0,v1]:=by exact fun _ _ _ _ _ _ _ _=>rfl):En K mg x st [p0,p1] f fd:=en0 X G q fun a b c d e g us hl=>by
 have h0:us.length = 2:=hl
 obtain ⟨u0,us0,e0,h1⟩:=l_c h0
 obtain ⟨u1,us1,e1,h2⟩:=l_c h1
 cases List.eq_nil_of_length_eq_zero h2
 subst e1
 subst e0
 exact hb u0 u1 a b c d e g
theorem ec (X:K.In h) (G:h.Ns mainGlobals mg) (a:PySem.W.nsIn K mainGlobals x = some (some (.ref f))):Ec K mg x f:=⟨PySem.W.mg_of X G a,a⟩
end
theorem fsc {P:List Str}  (h1:sc.kind = .function:=by rfl) (h2:sc.isCoroutine = false:=by rfl) (h3:sc.isGenerator = false:=by rfl) (h4:N.Nodup:=by decide +kernel) (h5:N.take P.length = P:=by rfl) (h6:∀ x ∈ P,sc.names.lookup x = some .local\/sc.names.lookup x = some .cell:=by decide +kernel) (h7:∀ y ∈ sc.names,y.2 ≠ .free:=by decide +kernel):Zr N P sc:=⟨h1,h2,h3,h4,h5,h6,h7⟩
end L2
namespace L2
open PySem PySem.Spec PyProof.Rows
section
variable     {m:MXt} 
end
section
variable        {u:FS}
end
end L2
namespace L2
open PySem PySem.Spec PyProof.Rows
section
variable     {f g:FS}    {ta:FT}  
abbrev BS (X:Cx) (io:List Nat) (st:Stmt) (f:FS):Prop:=MS X io st (oS f)/\XS X io st (xS X.K f)
abbrev BSs (X:Cx) (io:List Nat) (sts:List Stmt) (f:FS):Prop:=MSs X io sts (oS f)/\XSs X io sts (xS X.K f)
end
section
variable        {k k':Nat} {f:Addr} {fd:FuncData}    
theorem xce (G:FnOk X.prog X.w X.K X.mg X.base CX0 k f fd ps (spD X.K (sD F))) (hr:Room k' X.A) (E:En X.K X.mg x st ps f fd) (ha:MA X io p c (e :: es) (o2 ra)) (hle:k <= k':=by decide) (hg:Gl X x:=by rfl) (h1:(x == ("__debug__" : Str)) = false:=by decide) (h2:starEach (e :: es) X.env = (false,eval e X.env) :: starEach es X.env:=by rfl) (h3:((backTo pos (starEach es X.env)).any fun x=>x.fst) = false:=by rfl):ME X io p c (.Call (.Name x pp) (e :: es) [] pos) (o2 (Zw F ra)):=xcl G (hr.mono hle) E.m E.F.kp E.b ha hg h1 h2 h3
end
section
variable   {pt:Bool}      {g:MGt} {mt:MTt} {me:MEt}
theorem Zhu (own:List Str) (caps:List Nat) (N':List Str) (hi:MI X io p ci tg iter mi)
  (hg:∀ C cells s₂ H₂ fp,MG (Yr X N' sc C cells s₂ H₂ fp) (J3 own.length caps) ci tg g) (ht:∀ C cells s₂ H₂ fp,MIfs (Yr X N' sc C cells s₂ H₂ fp) (J3 own.length caps) pt ifs mt) (he:∀ C cells s₂ H₂ fp,ME (Yr X N' sc C cells s₂ H₂ fp) (J3 own.length caps) pe true elt me)
  (S:CompScope X own caps N' sc:=by exact ⟨rfl,by decide +kernel,rfl,by decide +kernel,rfl,rfl⟩) (hc:X.calm = true:=by rfl) (nd:caps.Nodup:=by decide) (hp:(pt && pe) = true:=by rfl) (hs:∀ x,foldedSetIterable iter X.env x = pure x:=by intro _; rfl):ME X io p true (.ListComp elt [⟨tg,iter,ifs,0⟩] sc pos) (Zfs own.length caps mi g mt me):=Z2w S hc nd hi hg ht he hp hs
end
end L2
namespace My
open PySem L2 PySem.Spec
def top (i:Nat):Stmt:=PySem.Challenge.pw_farcuts_k80_cuts_written_and_read.main.body.getD i (.Pass ⟨0,0,0,0⟩)
abbrev Zb6:Stmt:=top 31
abbrev Zb5:Stmt:=top 39
abbrev Zai:Stmt:=top 30
abbrev Zjk:Stmt:=top 35
abbrev Y9:Stmt:=top 37
abbrev Za7:Stmt:=top 32
abbrev J1:Stmt:=top 33
abbrev Zda:Stmt:=top 34
abbrev Jj:Stmt:=top 38
abbrev Zbb:Stmt:=top 25
abbrev Wx:Stmt:=top 10
abbrev Zb4:Stmt:=top 12
abbrev Zdf:Stmt:=top 4
abbrev Zhk:Stmt:=top 13
abbrev Wk:Stmt:=top 5
abbrev Zak:Stmt:=top 6
abbrev Ws:Stmt:=top 14
abbrev J9:Stmt:=top 15
abbrev Zb9:Stmt:=top 22
abbrev Zaa:Stmt:=top 23
abbrev Ji:Stmt:=top 7
abbrev Je:Stmt:=top 24
abbrev Jl:Stmt:=top 26
abbrev Y5:Stmt:=top 27
abbrev Zb8:Stmt:=top 28
abbrev Zc6:Stmt:=top 20
abbrev Zcc:Stmt:=top 21
abbrev Zw8:Stmt:=top 40
set_option genInjectivity false in
set_option genSizeOfSpec false in
structure Txt (K:PySem.W.Frag) (mg:Str→Option Value) (f:Nat→Addr) (fd:Nat→FuncData) (cls:Nat→Addr):Prop where
 e_law_whole:En K mg "_law_whole" Zb6 ["found"] (f 0) (fd 0)
 e_law_alike:En K mg "_law_alike" Zb5 ["found", "due"] (f 1) (fd 1)
 e_law_cell_at:En K mg "_law_cell_at" Zai ["script", "k"] (f 2) (fd 2)
 e_law_q:En K mg "_law_q" Zjk ["q"] (f 3) (fd 3)
 e_law_cuts_written:En K mg "_law_cuts_written" Y9 ["weighted"] (f 4) (fd 4)
 e_law_common:En K mg "_law_common" Za7 ["one", "other"] (f 5) (fd 5)
 e_law_fraction:En K mg "_law_fraction" J1 ["top", "bottom"] (f 6) (fd 6)
 e_law_wide:En K mg "_law_wide" Zda ["number"] (f 7) (fd 7)
 e_law_some_cuts:En K mg "_law_some_cuts" Jj ["n", "cells"] (f 8) (fd 8)
 e_check_text:En K mg "check_text" Zbb ["text"] (f 9) (fd 9)
 e_is_point_count:En K mg "is_point_count" Wx ["n"] (f 10) (fd 10)
 e_is_rising:En K mg "is_rising" Zb4 ["things"] (f 11) (fd 11)
 e_is_whole:En K mg "is_whole" Zdf ["thing"] (f 12) (fd 12)
 e_is_cut:En K mg "is_cut" Zhk ["n", "thing"] (f 13) (fd 13)
 e_greatest_divisor:En K mg "greatest_divisor" Wk ["a", "b"] (f 14) (fd 14)
 e_is_fraction:En K mg "is_fraction" Zak ["thing"] (f 15) (fd 15)
 e_is_weighted_cut:En K mg "is_weighted_cut" Ws ["n", "thing"] (f 16) (fd 16)
 e_is_weighted:En K mg "is_weighted" J9 ["n", "thing"] (f 17) (fd 17)
 e_is_number:En K mg "is_number" Zb9 ["word"] (f 18) (fd 18)
 e_read_number:En K mg "read_number" Zaa ["word"] (f 19) (fd 19)
 e_show_fraction:En K mg "show_fraction" Ji ["q"] (f 20) (fd 20)
 e_read_fraction:En K mg "read_fraction" Je ["word"] (f 21) (fd 21)
 e_read_weighted:En K mg "read_weighted" Jl ["text"] (f 22) (fd 22)
 e_read_all_weighted:En K mg "read_all_weighted" Y5 ["text"] (f 23) (fd 23)
 e_read_cuts:En K mg "read_cuts" Zb8 ["n", "text"] (f 24) (fd 24)
 e_show_cut:En K mg "show_cut" Zc6 ["cut"] (f 25) (fd 25)
 e_show_cuts:En K mg "show_cuts" Zcc ["cuts"] (f 26) (fd 26)
 e_law:En K mg "law" Zw8 ["script"] (f 27) (fd 27)
 g_FIGURES:∃ t,mg "FIGURES" = some (.str "0123456789" t)
 g_MOST_FIGURES:∃ t,mg "MOST_FIGURES" = some (.int 40 t)
 g_MOST_POINTS:∃ t,mg "MOST_POINTS" = some (.int 10 t)
 g_NO_CUTS:∃ t,mg "NO_CUTS" = some (.str "none" t)
 z_abs:mg "abs" = none
 z_bool:mg "bool" = none
 z_int:mg "int" = none
 z_isinstance:mg "isinstance" = none
 z_len:mg "len" = none
 z_list:mg "list" = none
 z_range:mg "range" = none
 z_sorted:mg "sorted" = none
 z_str:mg "str" = none
 z_tuple:mg "tuple" = none
 z_zip:mg "zip" = none
 c_NoText:Ec K mg "NoText" (cls 0)
 x_NoText:Zen K (cls 0)
 r_NoText:Z2p K (cls 0)
end My
variable {D:List (List Int × Rat)}{q:List Int × Rat}{f cls:Nat→Addr}{fd:Nat→FuncData}
namespace My
open PySem L2 PySem.Spec
section
variable     {base:Heap}
theorem Zie:Zr ["found"] ["found"] (Zh Zb6):=fsc
theorem Zir    (T:Txt K mg f fd cls):FnOk P w K mg base CX0 1 (f 0) (fd 0) ["found"] (spD K (sD Zau)):=by
 refine Yi T.e_law_whole.F Zie (S:=Zap) rfl rfl (fun cdv A outer s H E hr=>?_)
 exact (Ze (xrt (Jg (Zfb (Y8 (Zab (by decide) (by rfl) T.z_isinstance L2.B.boot_isinstance (by rfl) T.z_int L2.B.boot_int (xv 0))) (Zf8 (Zqp (Z0k (Y8 (Zab (by decide) (by rfl) T.z_isinstance L2.B.boot_isinstance (by rfl) T.z_bool L2.B.boot_bool (xv 0))))))))))
theorem Zay:Zr ["found", "due", "one", "other"] ["found", "due"] (Zh Zb5):=fsc
theorem Za1    (T:Txt K mg f fd cls):∀ k,FnOk P w K mg base CX0 (2 + k) (f 1) (fd 1) ["found", "due"] (spD K (sD (Zj k)))
 | 0=>Zzb fun ds k h=>by obtain ⟨r,h,_⟩:=h; cases h
 | k + 1=>by
  have G_rec:=Za1 T k
  have G_law_whole:=Zir (P:=P) (w:=w) (base:=base) T
  refine Yi T.e_law_alike.F Zay (S:=Y0 (Zj k)) rfl rfl (fun cdv A outer s H E hr=>?_)
  have hu:=hr.units
  exact (Zdr (Jr (Zi9 (Zhq (We (Wa (Y8 (Zab (by decide) (by rfl) T.z_isinstance L2.B.boot_isinstance (by rfl) T.z_bool L2.B.boot_bool (Yq (mv 1)))) (fun _=>rfl))) (Ze (Zco (Zcp (Jg (Zfb (Y8 (Zab (by decide) (by rfl) T.z_isinstance L2.B.boot_isinstance (by rfl) T.z_bool L2.B.boot_bool (Yq (mv 0)))) (Zf8 (Z7 Zxo (Zd0 (Ze3 hu) Zkj (Yq (mv 0)) (Yq (mv 1)) (hm:=(Yy _)))))))))) (Za3 Zaz)))
   (Zdr (Jr (Zi9 (Zhq (We (Wa (Y8 (Zab (by decide) (by rfl) T.z_isinstance L2.B.boot_isinstance (by rfl) T.z_int L2.B.boot_int (Yq (mv 1)))) (fun _=>rfl))) (Ze (Zco (Zcp (Jg (Zfb (Zjx (Zp8 G_law_whole (hr.mono (Nat.le_trans (by decide) (Nat.le_add_right 2 k))) (by rfl) T.e_law_whole.m T.e_law_whole.F.kp T.e_law_whole.b Zwr (Zi (Yq (mv 0)) (Zgd Zge)))) (Zf8 (Z7 Zxo (Zd0 (Ze3 hu) Zkj (Yq (mv 0)) (Yq (mv 1)) (hm:=(Yy _)))))))))) (Za3 Zaz)))
   (Zdr (Jr (Zi9 (Zhq (We (Wa (Y8 (Zab (by decide) (by rfl) T.z_isinstance L2.B.boot_isinstance (by rfl) T.z_str L2.B.boot_str (Yq (mv 1)))) (fun _=>rfl))) (Ze (Zco (Zcp (Jg (Zfb (Y8 (Zab (by decide) (by rfl) T.z_isinstance L2.B.boot_isinstance (by rfl) T.z_str L2.B.boot_str (Yq (mv 0)))) (Zf8 (Z7 Zxo (Zd0 (Ze3 hu) Zkj (Yq (mv 0)) (Yq (mv 1)) (hm:=(Yy _)))))))))) (Za3 Zaz)))
   (Zdr (Jr (Zi9 (Zhq (Zb1 Z9n (Zbx Zuk Zvi (Yq (mv 1)) (Jz Zhr) (hm:=(Yy _)))) (Ze (Zco (Zcp (Z7 Z9n (Zd0 Zuk Zvi (Yq (mv 0)) (Jz Zhr) (hm:=(Yy _))))))) (Za3 Zaz)))
   (Zdr (Jr (Zi9 (Zhq (MW.mt (Zit (Ziz (Zb1 Z0t (Zbx (Zhx hu) Zqs (Y8 (Zab (by decide) (by rfl) T.z_isinstance L2.B.boot_isinstance (by rfl) T.z_tuple L2.B.boot_tuple (Yq (mv 1)))) (Y8 (Zab (by decide) (by rfl) T.z_isinstance L2.B.boot_isinstance (by rfl) T.z_tuple L2.B.boot_tuple (Yq (mv 0)))) (hm:=(Yy _)))) (Ze1 (Zb1 Z0t (Zbx (Zhx hu) Zqs (Y8 (Zab (by decide) (by rfl) T.z_isinstance L2.B.boot_isinstance (by rfl) T.z_list L2.B.boot_list (Yq (mv 1)))) (Y8 (Zab (by decide) (by rfl) T.z_isinstance L2.B.boot_isinstance (by rfl) T.z_list L2.B.boot_list (Yq (mv 0)))) (hm:=(Yy _)))))))) (Ze (Zco (Zcp (Jz Za9)))) (Za3 Zaz)))
   (Zdr (Jr (Zi9 (Zhq (Zb1 Z0t (Zbx (Zhx hu) Zqs (Ja Zv3 (Zkb Znl (Ze0 rfl) (by rfl) T.z_len L2.B.boot_len (Zi (Yq (mv 0)) (Zgd Zge)))) (Ja Zv3 (Zkb Znl (Ze0 rfl) (by rfl) T.z_len L2.B.boot_len (Zi (Yq (mv 1)) (Zgd Zge)))) (hm:=(Yy _)))) (Ze (Zco (Zcp (Jz Za9)))) (Za3 Zaz)))
   (Zdr (Jr (Zt4 (Zuy PassesOwn.never rfl (Zn7 (Zqj (by rfl) T.z_zip L2.B.boot_zip (Zi (Yq (mv 0)) (Zi (Yq (mv 1)) (Zgd Zge))))) (Zuv (Zvb (n:=2) (by rfl) (Zed (Zef (Zj5 (Zki (i:=2) Zay.nd)) (Zed (Zef (Zj5 (Zki (i:=3) Zay.nd)) (Zo4 Zm7)))))))
   (Ze (Zi9 (Zhq (Zvl (Zuf (We (Wa (Zjx (Zp8 G_rec hr (by rfl) T.e_law_alike.m T.e_law_alike.F.kp T.e_law_alike.b Zwr (Zi (Yq (mv 2)) (Zi (Yq (mv 3)) (Zgd Zge))))) (fun _=>rfl))))) (Ze (Zco (Zcp (Jz Za9)))) (Za3 Zaz))))))
   (Ze (Zco (Zcp (Jz Za9))))))))))))))))))
theorem Zix    (T:Txt K mg f fd cls):FnOk P w K mg base CX0 8 (f 1) (fd 1) ["found", "due"] (spD K (sD (Zj 6))):=Za1 T 6
theorem Zfx:Zr ["script", "k"] ["script", "k"] (Zh Zai):=fsc
theorem Zf7    (T:Txt K mg f fd cls):FnOk P w K mg base CX0 1 (f 2) (fd 2) ["script", "k"] (spD K (sD Z5)):=by
 refine Yi T.e_law_cell_at.F Zfx (S:=Jp) rfl rfl (fun cdv A outer s H E hr=>?_)
 exact (xsq (xif (xlt (xv 1) (xln T.z_len (xa1 (xv 0)))) (Ze (xrt (xix (xv 0) (xv 1)))) xnl) (Ze (xrt xci)))
theorem Zsj:Zr ["q"] ["q"] (Zh Zjk):=fsc
theorem Zsh    (T:Txt K mg f fd cls):FnOk P w K mg base CX0 1 (f 3) (fd 3) ["q"] (spD K (sD Za8)):=by
 refine Yi T.e_law_q.F Zsj (S:=Zdw) rfl rfl (fun cdv A outer s H E hr=>?_)
 have hu:=hr.units
 exact (xsq (xif (xeq hu (xix (xv 0) xci) xci) (Ze (xrt (Ja Zkh (Zii Zfi Yv (by rfl) T.z_str L2.B.boot_str (xa1 (xix (xv 0) xci)))))) xnl) (Ze (xrt (Z7 Zdo (Zdg Y7 Zbg (Z7 Zdo (Zdg Y7 Zbg (Ja Zkh (Zii Zfi Yv (by rfl) T.z_str L2.B.boot_str (xa1 (xix (xv 0) xci)))) (Jz Jf))) (Ja Zkh (Zii Zfi Yv (by rfl) T.z_str L2.B.boot_str (xa1 (xix (xv 0) xci)))))))))
theorem Zb2:Zr ["weighted"] ["weighted"] (Zh Y9):=fsc
theorem Zcd    (T:Txt K mg f fd cls):FnOk P w K mg base CX0 2 (f 4) (fd 4) ["weighted"] (spD K (sD Yo)):=by
 have G_law_q:=Zsh (P:=P) (w:=w) (base:=base) T
 refine Yi T.e_law_cuts_written.F Zb2 (S:=Wf) rfl rfl (fun cdv A outer s H E hr=>?_)
 have hu:=hr.units
 exact (xsq (xif (xeq hu (xv 0) (xls xa0)) (Ze (xrt (Jz Jf))) xnl) (Ze (xrt (Zk5 (Ztd Zg5 F.slot_str_join F.type_str_join (Zg4 rfl) (Jz Jf) (xa1 (Za5 (Zhu ["cut", "q"] [] ["cut", "q"] (xil (xv 0)) (fun _ _ _ _ _=>(xg2 rfl (xg 0 (by show List.Nodup (["cut", "q"]:List Str) ; decide +kernel)) (xg 1 (by show List.Nodup (["cut", "q"]:List Str) ; decide +kernel)))) (fun _ _ _ _ _=>(Jv Jw)) (fun _ _ _ _ _=>(Z7 Zdo (Zdg Y7 Zbg (Z7 Zdo (Zdg Y7 Zbg (Zk5 (Ztd Zg5 F.slot_str_join F.type_str_join (Zg4 rfl) (Jz Jf) (xa1 (Za5 (Zhu ["point"] [] ["point"] (xil (xv 0)) (fun _ _ _ _ _=>(xg 0 (by show List.Nodup (["point"]:List Str) ; decide +kernel))) (fun _ _ _ _ _=>(Jv Jw)) (fun _ _ _ _ _=>(Ja Zkh (Zii Zfi Yv (by rfl) T.z_str L2.B.boot_str (xa1 (xv 0)))))))))) (Jz Jf))) (xce G_law_q hr T.e_law_q (xa1 (xv 1))))))))))))))
theorem Zcy:Zr ["one", "other"] ["one", "other"] (Zh Za7):=fsc
theorem Zg7    (T:Txt K mg f fd cls):FnOk P w K mg base CX0 1 (f 5) (fd 5) ["one", "other"] (spD K (sD Wt)):=by
 refine Yi T.e_law_common.F Zcy (S:=J6) rfl rfl (fun cdv A outer s H E hr=>?_)
 have hu:=hr.units
 exact (xsq (Zk0 (Zlc PassesOwn.never (xne hu (xv 1) xci) (Ze (Z22 (Zzv rfl Zcy.nd rfl rfl (by decide) rfl rfl (Zi (xv 1) (xa1 (Zmx (xv 0) (xv 1))))))))) (Ze (xrt (Ja Zxt (Zkb Znk Zha (by rfl) T.z_abs L2.B.boot_abs (xa1 (xv 0)))))))
theorem Za4:Zr ["top", "bottom", "by"] ["top", "bottom"] (Zh J1):=fsc
theorem Zep    (T:Txt K mg f fd cls):FnOk P w K mg base CX0 2 (f 6) (fd 6) ["top", "bottom"] (spD K (sD Yn)):=by
 have G_law_common:=Zg7 (P:=P) (w:=w) (base:=base) T
 refine Yi T.e_law_fraction.F Za4 (S:=Jk) rfl rfl (fun cdv A outer s H E hr=>?_)
 exact (xsq (xst 2 Za4.nd (xce G_law_common hr T.e_law_common (Zi (xv 0) (xa1 (xv 1))))) (Ze (xrt (xtp (Zi (Zyu (xv 0) (xv 2)) (xa1 (Zyu (xv 1) (xv 2))))))))
theorem Zcg:Zr ["number", "way"] ["number"] (Zh Zda):=fsc
theorem Zj0    (T:Txt K mg f fd cls):FnOk P w K mg base CX0 3 (f 7) (fd 7) ["number"] (spD K (sD Wh)):=by
 have G_law_fraction:=Zep (P:=P) (w:=w) (base:=base) T
 refine Yi T.e_law_wide.F Zcg (S:=Zbe) rfl rfl (fun cdv A outer s H E hr=>?_)
 have hu:=hr.units
 exact (xsq (xst 1 Zcg.nd (Zmx (xv 0) xci)) (xsq (xst 0 Zcg.nd (Zyu (xv 0) xci)) (xsq (xif (xeq hu (xv 1) xci) (Ze (xrt (xtp (Zi xci (xa1 xci))))) xnl) (xsq (xif (xlt (xv 1) xci) (Ze (xrt (xtp (Zi (Zmx (xv 0) xci) (xa1 xci))))) xnl) (xsq (xif (xlt (xv 1) xci) (Ze (xrt (xce G_law_fraction hr T.e_law_fraction (Zi (Zmx (xv 0) xci) (xa1 (Z3p xci (Zmx (Zyu (xv 0) xci) xci))))))) xnl) (xsq (xif (xeq hu (xv 1) xci) (Ze (xrt (xtp (Zi (Zmx (Zxh (xv 0) xci) (Zxh xci xci)) (xa1 xci))))) xnl) (Ze (xrt (xce G_law_fraction hr T.e_law_fraction (Zi (Zmx (Zxh (xv 0) xci) (Zxh xci xci)) (xa1 (Z3p xci (Zmx (Zyu (Zxh (xv 0) xci) xci) (Z7n (Zxh xci xci) xci))))))))))))))
theorem Yp:Zr ["n", "cells", "kept", "cell", "cut", "weight"] ["n", "cells"] (Zh Jj):=fsc
theorem Zd5    (T:Txt K mg f fd cls):FnOk P w K mg base CX0 4 (f 8) (fd 8) ["n", "cells"] (spD K (sD Yw)):=by
 have G_law_wide:=Zj0 (P:=P) (w:=w) (base:=base) T
 refine Yi T.e_law_some_cuts.F Yp (S:=Yx) rfl rfl (fun cdv A outer s H E hr=>?_)
 have hu:=hr.units
 exact (xsq (Zop (Zqo (i:=2) Yp.nd rfl (Or.inr rfl) (Zw6 Zwv))) (xsq (xfr PassesOwn.never rfl (xil (xv 1)) (xg 3 Yp.nd) (xsq (Zpo (Zc5 (i:=4) (own:=["k"]) (caps:=[3]) (N':=["k", "cell"]) false Yp.nd rfl (Or.inl rfl) (by exact ⟨rfl,by decide +kernel,rfl,by decide +kernel,rfl,rfl⟩) (by rfl) (by decide) (Z74 (Zm3 (by rfl) T.z_range (xa1 (Z7n (xv 0) xci)))) (fun _ _ _ _ _=>(xg 0 (by show List.Nodup (["k", "cell"]:List Str) ; decide +kernel))) (fun _ _ _ _ _=>(Zv2 (xeq hu (Zmx (Zyu (xv 1) (xix (xls (Zi xci (Zi xci (Zi xci (Zi xci (Zi xci (Zi xci (Zi xci (Zi xci (xa1 xci)))))))))) (xv 0))) xci) xci))) (fun _ _ _ _ _=>(Z3p (xv 0) xci)))) (xsq (xst 5 Yp.nd (xce G_law_wide hr T.e_law_wide (xa1 (Zmx (Zyu (xv 3) xci) (Zxh xci xci))))) (Ze (xif (MW.mt (Zuw (Zu8 (xne hu (xv 4) (xls xa0)) (Zps (xgt (xix (xv 5) xci) xci))))) (Ze (Zwd (Zwg 2 hu (xv 5) (Zl6 Zvk (Zz1 Zo0 (Zew rfl) (by rfl) T.z_tuple L2.B.boot_tuple (xa1 (xv 4))))))) xnl))))) (Ze (Zob (Zoy 2 (xrt (Za5 (Zhu ["cut"] [2] ["cut", "kept"] (xil (Zl6 Zy5 (Yc6 Zrl (Zl2 Zzx rfl hu) (by rfl) T.z_sorted L2.B.boot_sorted (xa1 (Zl6 Zyg (Zz1 Zsd (Zl3 rfl) (by rfl) T.z_list L2.B.boot_list (xa1 (xv 2)))))))) (fun _ _ _ _ _=>(xg 0 (by show List.Nodup (["cut", "kept"]:List Str) ; decide +kernel))) (fun _ _ _ _ _=>(Jv Jw)) (fun _ _ _ _ _=>(Zoq (Ztz (Zi (Zl6 Zu5 (Zz1 Zni (Zgm rfl) (by rfl) T.z_list L2.B.boot_list (xa1 (xv 0)))) (xa1 (Ztf (Zqu Z6h (Z67 hu (xv 1) (xv 0) (hs:=fun _ _=>rfl)))))))))))))))))
theorem Zhc:Zr ["text"] ["text"] (Zh Zbb):=fsc
theorem Zgy    (T:Txt K mg f fd cls):FnOk P w K mg base CX0 1 (f 9) (fd 9) ["text"] (spD K (sD J4)):=by
 refine Yi T.e_check_text.F Zhc (S:=J2) rfl rfl (fun cdv A outer s H E hr=>?_)
 exact (Ze (xif (xno (We (Wa (Y8 (Zab (by decide) (by rfl) T.z_isinstance L2.B.boot_isinstance (by rfl) T.z_str L2.B.boot_str (xv 0))) (fun _=>rfl)))) (Ze Zlj) xnl))
theorem Zc3:Zr ["n"] ["n"] (Zh Wx):=fsc
theorem Zdb    (T:Txt K mg f fd cls):FnOk P w K mg base CX0 1 (f 10) (fd 10) ["n"] (spD K (sD Wu)):=by
 refine Yi T.e_is_point_count.F Zc3 (S:=Wv) rfl rfl (fun cdv A outer s H E hr=>?_)
 exact (Ze (xrt (Zrr (Zxm Zq8 Zq8 xci (xv 0) (Jz (Znu (by rfl) T.g_MOST_POINTS))))))
theorem Za0:Zr ["things", "one", "behind"] ["things"] (Zh Zb4):=fsc
theorem Zdn    (T:Txt K mg f fd cls):FnOk P w K mg base CX0 1 (f 11) (fd 11) ["things"] (spD K (sD Ye)):=by
 refine Yi T.e_is_rising.F Za0 (S:=Zav) rfl rfl (fun cdv A outer s H E hr=>?_)
 have hu:=hr.units
 exact (xsq (xfr PassesOwn.never rfl (Zn7 (Zqj (by rfl) T.z_zip L2.B.boot_zip (Zi (xv 0) (xa1 (Zz4 (Z2t (xv 0) (Zjt (Zjm xci)) (Zxk Zv5))))))) (xg2 rfl (xg 1 Za0.nd) (xg 2 Za0.nd)) (Ze (xif (xno (Zb1 Z5t (Zbx (Z11 hu) Z0g (xv 1) (xv 2) (hm:=(Yy _))))) (Ze (xrt (Jz Za9))) xnl))) (Ze (xrt (Jz Za9))))
theorem Zj7:Zr ["thing"] ["thing"] (Zh Zdf):=fsc
theorem Zfh    (T:Txt K mg f fd cls):FnOk P w K mg base CX0 1 (f 12) (fd 12) ["thing"] (spD K (sD Z4)):=by
 refine Yi T.e_is_whole.F Zj7 (S:=Zbf) rfl rfl (fun cdv A outer s H E hr=>?_)
 exact (Ze (xrt (Jg (Zfb (Y8 (Zab (by decide) (by rfl) T.z_isinstance L2.B.boot_isinstance (by rfl) T.z_int L2.B.boot_int (xv 0))) (Zf8 (Zqp (Z0k (Y8 (Zab (by decide) (by rfl) T.z_isinstance L2.B.boot_isinstance (by rfl) T.z_bool L2.B.boot_bool (xv 0))))))))))
theorem Zil:Zr ["n", "thing", "point"] ["n", "thing"] (Zh Zhk):=fsc
theorem Zol    (T:Txt K mg f fd cls):FnOk P w K mg base CX0 2 (f 13) (fd 13) ["n", "thing"] (spD K (sD W8)):=by
 have G_is_rising:=Zdn (P:=P) (w:=w) (base:=base) T
 have G_is_whole:=Zfh (P:=P) (w:=w) (base:=base) T
 refine Yi T.e_is_cut.F Zil (S:=Zcm) rfl rfl (fun cdv A outer s H E hr=>?_)
 have hu:=hr.units
 exact (xsq (xif (MW.mt (Zit (Ziz (xno (We (Wa (Y8 (Zab (by decide) (by rfl) T.z_isinstance L2.B.boot_isinstance (by rfl) T.z_list L2.B.boot_list (xv 1))) (fun _=>rfl)))) (Ze1 (xeq hu (xln T.z_len (xa1 (xv 1))) xci))))) (Ze (xrt (Jz Za9))) xnl) (xsq (xfr PassesOwn.never rfl (xil (xv 1)) (xg 2 Zil.nd) (Ze (xif (xno (We (Wa (xce G_is_whole hr T.e_is_whole (xa1 (xv 2))) (fun _=>rfl)))) (Ze (xrt (Jz Za9))) xnl))) (Ze (xrt (Jg (Zfb (xce G_is_rising hr T.e_is_rising (xa1 (xv 1))) (Jg (Zfb (Z7 Ya1 (Zd0 Z1x Zft (xix (xv 1) xci) xci (hm:=(Yy _)))) (Zf8 (Z7 Z6a (Zd0 Zyi Zft (xix (xv 1) (Z4h (Z57 xci))) (xv 0) (hm:=(Yy _)))))))))))))
theorem Z2:Zr ["a", "b", "left"] ["a", "b"] (Zh Wk):=fsc
theorem Zca    (T:Txt K mg f fd cls):FnOk P w K mg base CX0 1 (f 14) (fd 14) ["a", "b"] (spD K (sD Zz)):=by
 refine Yi T.e_greatest_divisor.F Z2 (S:=Wd) rfl rfl (fun cdv A outer s H E hr=>?_)
 have hu:=hr.units
 exact (xsq (xst 0 Z2.nd (Ja Zxt (Zkb Znk Zha (by rfl) T.z_abs L2.B.boot_abs (xa1 (xv 0))))) (xsq (xst 1 Z2.nd (Ja Zxt (Zkb Znk Zha (by rfl) T.z_abs L2.B.boot_abs (xa1 (xv 1))))) (xsq (Zk0 (Zlc PassesOwn.never (xne hu (xv 1) xci) (xsq (xst 2 Z2.nd (Zmx (xv 0) (xv 1))) (xsq (xst 0 Z2.nd (xv 1)) (Ze (xst 1 Z2.nd (xv 2))))))) (Ze (xrt (xv 0))))))
theorem Zfw:Zr ["thing"] ["thing"] (Zh Zak):=fsc
theorem Zbt    (T:Txt K mg f fd cls):FnOk P w K mg base CX0 2 (f 15) (fd 15) ["thing"] (spD K (sD Ys)):=by
 have G_greatest_divisor:=Zca (P:=P) (w:=w) (base:=base) T
 have G_is_whole:=Zfh (P:=P) (w:=w) (base:=base) T
 refine Yi T.e_is_fraction.F Zfw (S:=Jm) rfl rfl (fun cdv A outer s H E hr=>?_)
 have hu:=hr.units
 exact (xsq (xif (MW.mt (Zit (Ziz (xno (We (Wa (Y8 (Zab (by decide) (by rfl) T.z_isinstance L2.B.boot_isinstance (by rfl) T.z_tuple L2.B.boot_tuple (xv 0))) (fun _=>rfl)))) (Ze1 (xne hu (xln T.z_len (xa1 (xv 0))) xci))))) (Ze (xrt (Jz Za9))) xnl) (xsq (xif (MW.mt (Zit (Ziz (xno (We (Wa (xce G_is_whole hr T.e_is_whole (xa1 (xix (xv 0) xci))) (fun _=>rfl)))) (Ze1 (xno (We (Wa (xce G_is_whole hr T.e_is_whole (xa1 (xix (xv 0) xci))) (fun _=>rfl)))))))) (Ze (xrt (Jz Za9))) xnl) (Ze (xrt (Jg (Zfb (Z7 Ya1 (Zd0 Z1x Zft (xix (xv 0) xci) xci (hm:=(Yy _)))) (Zf8 (Z7 Zxo (Zd0 (Ze3 hu) Zkj (xce G_greatest_divisor hr T.e_greatest_divisor (Zi (xix (xv 0) xci) (xa1 (xix (xv 0) xci)))) xci (hm:=(Yy _)))))))))))
theorem Zcj:Zr ["n", "thing"] ["n", "thing"] (Zh Ws):=fsc
theorem Zcr    (T:Txt K mg f fd cls):FnOk P w K mg base CX0 3 (f 16) (fd 16) ["n", "thing"] (spD K (sD Yc)):=by
 have G_is_cut:=Zol (P:=P) (w:=w) (base:=base) T
 have G_is_fraction:=Zbt (P:=P) (w:=w) (base:=base) T
 refine Yi T.e_is_weighted_cut.F Zcj (S:=Wo) rfl rfl (fun cdv A outer s H E hr=>?_)
 have hu:=hr.units
 exact (xsq (xif (MW.mt (Zit (Ziz (xno (We (Wa (Y8 (Zab (by decide) (by rfl) T.z_isinstance L2.B.boot_isinstance (by rfl) T.z_tuple L2.B.boot_tuple (xv 1))) (fun _=>rfl)))) (Ze1 (xne hu (xln T.z_len (xa1 (xv 1))) xci))))) (Ze (xrt (Jz Za9))) xnl) (Ze (xrt (Jg (Zfb (xce G_is_cut hr T.e_is_cut (Zi (xv 0) (xa1 (xix (xv 1) xci)))) (Jg (Zfb (xce G_is_fraction hr T.e_is_fraction (xa1 (xix (xv 1) xci))) (Zf8 (Z7 Z8u (Zd0 Z2u Zft (xix (xix (xv 1) xci) xci) xci (hm:=(Yy _))))))))))))
theorem Zbv:Zr ["n", "thing", "weighted"] ["n", "thing"] (Zh J9):=fsc
theorem Zf6    (T:Txt K mg f fd cls):FnOk P w K mg base CX0 4 (f 17) (fd 17) ["n", "thing"] (spD K (sD Yt)):=by
 have G_is_rising:=Zdn (P:=P) (w:=w) (base:=base) T
 have G_is_weighted_cut:=Zcr (P:=P) (w:=w) (base:=base) T
 refine Yi T.e_is_weighted.F Zbv (S:=Jo) rfl rfl (fun cdv A outer s H E hr=>?_)
 exact (xsq (xif (xno (We (Wa (Y8 (Zab (by decide) (by rfl) T.z_isinstance L2.B.boot_isinstance (by rfl) T.z_list L2.B.boot_list (xv 1))) (fun _=>rfl)))) (Ze (xrt (Jz Za9))) xnl) (xsq (xfr PassesOwn.never rfl (xil (xv 1)) (xg 2 Zbv.nd) (Ze (xif (xno (We (Wa (xce G_is_weighted_cut hr T.e_is_weighted_cut (Zi (xv 0) (xa1 (xv 2)))) (fun _=>rfl)))) (Ze (xrt (Jz Za9))) xnl))) (Ze (xrt (xce G_is_rising hr T.e_is_rising (xa1 (Za5 (Zhu ["weighted"] [] ["weighted"] (xil (xv 1)) (fun _ _ _ _ _=>(xg 0 (by show List.Nodup (["weighted"]:List Str) ; decide +kernel))) (fun _ _ _ _ _=>(Jv Jw)) (fun _ _ _ _ _=>(xix (xv 0) xci))))))))))
theorem Zdv:Zr ["word", "sign"] ["word"] (Zh Zb9):=fsc
theorem Ziu    (T:Txt K mg f fd cls):FnOk P w K mg base CX0 1 (f 18) (fd 18) ["word"] (spD K (sD Ww)):=by
 refine Yi T.e_is_number.F Zdv (S:=Zao) rfl rfl (fun cdv A outer s H E hr=>?_)
 have hu:=hr.units
 exact (xsq (xif (xno (Zth (Zsf Zq8 Zq8 xci (Ja Z0l (Zkb Zvv Zh3 (by rfl) T.z_len L2.B.boot_len (xa1 (xv 0)))) (Jz (Znu (by rfl) T.g_MOST_FIGURES))))) (Ze (xrt (Jz Za9))) xnl) (xsq (xfr PassesOwn.never rfl (Z4n (Z0m (xv 0))) (xg 1 Zdv.nd) (Ze (xif (Zb1 Z7y (Zbx Zqx Z0y (xv 1) (Jz (Zjy (by rfl) T.g_FIGURES)) (hm:=(by with_unfolding_all rfl)))) (Ze (xrt (Jz Za9))) xnl))) (Ze (xrt (Z0i (Ycl (Z7 Zxo (Zd0 (Ze3 hu) Zkj (xv 0) (Jz Jf) (hm:=(Yy _)))) (Zf8 (Z7 Z0t (Zd0 (Zhx hu) Zqs (Ztf (Zqu Z77 (Z9p (Zp7 rfl) Z2g (xv 0) xci (hs:=fun _ _=>rfl)))) (Jz Jf) (hm:=(Yy _)))))))))))
theorem Zfv:Zr ["word"] ["word"] (Zh Zaa):=fsc
theorem Zbw    (T:Txt K mg f fd cls):FnOk P w K mg base CX0 2 (f 19) (fd 19) ["word"] (spD K (sD Zt)):=by
 have G_is_number:=Ziu (P:=P) (w:=w) (base:=base) T
 refine Yi T.e_read_number.F Zfv (S:=Js) rfl rfl (fun cdv A outer s H E hr=>?_)
 exact (Ze (xrt (Ztf (Z2r (Z9x (We (Wa (xce G_is_number hr T.e_is_number (xa1 (xv 0))) (fun _=>rfl))) (Ja Z2m (Zii Zwf Zne (by rfl) T.z_int L2.B.boot_int (xa1 (xv 0)))) (Jz Zhr))))))
theorem Zal:Zr ["q", "top"] ["q"] (Zh Ji):=fsc
theorem Zat    (T:Txt K mg f fd cls):FnOk P w K mg base CX0 1 (f 20) (fd 20) ["q"] (spD K (sD Z9)):=by
 refine Yi T.e_show_fraction.F Zal (S:=W2) rfl rfl (fun cdv A outer s H E hr=>?_)
 have hu:=hr.units
 exact (xsq (xst 1 Zal.nd (Ja Zkh (Zii Zfi Yv (by rfl) T.z_str L2.B.boot_str (xa1 (xix (xv 0) xci))))) (xsq (xif (xeq hu (xix (xv 0) xci) xci) (Ze (xrt (xv 1))) xnl) (Ze (xrt (Z7 Zdo (Zdg Y7 Zbg (Z7 Zdo (Zdg Y7 Zbg (xv 1) (Jz Jf))) (Ja Zkh (Zii Zfi Yv (by rfl) T.z_str L2.B.boot_str (xa1 (xix (xv 0) xci))))))))))
theorem Wz:Zr ["word", "numbers", "q"] ["word"] (Zh Je):=fsc
theorem Zd1    (T:Txt K mg f fd cls):FnOk P w K mg base CX0 3 (f 21) (fd 21) ["word"] (spD K (sD Yj)):=by
 have G_is_fraction:=Zbt (P:=P) (w:=w) (base:=base) T
 have G_read_number:=Zbw (P:=P) (w:=w) (base:=base) T
 have G_show_fraction:=Zat (P:=P) (w:=w) (base:=base) T
 refine Yi T.e_read_fraction.F Wz (S:=W3) rfl rfl (fun cdv A outer s H E hr=>?_)
 have hu:=hr.units
 exact (xsq (Zsw (Zc5 (i:=1) (own:=["part"]) (caps:=[]) (N':=["part"]) true Wz.nd rfl (Or.inl rfl) (by exact ⟨rfl,by decide +kernel,rfl,by decide +kernel,rfl,rfl⟩) (by rfl) (by decide) (xil (Zku (Ztv Zee F.slot_str_split F.type_str_split Zeh (xv 0) (xa1 (Jz Jf))))) (fun _ _ _ _ _=>(xg 0 (by show List.Nodup (["part"]:List Str) ; decide +kernel))) (fun _ _ _ _ _=>(Jv Jw)) (fun _ _ _ _ _=>(xce G_read_number hr T.e_read_number (xa1 (xv 0)))))) (xsq (xif (xeq hu (xln T.z_len (xa1 (xo 1))) xci) (Ze (Zhs (Zht 1 xci))) xnl) (xsq (Zwn (Zws (i:=2) Wz.nd rfl (Or.inl rfl) (Zl6 Zvk (Zz1 Zo0 (Zew rfl) (by rfl) T.z_tuple L2.B.boot_tuple (xa1 (xo 1)))))) (Ze (xrt (Ztf (Z2r (Z9x (MW.mt (Zuw (Zu8 (We (Wa (xce G_is_fraction hr T.e_is_fraction (xa1 (xv 2))) (fun _=>rfl))) (Zps (xeq hu (xce G_show_fraction hr T.e_show_fraction (xa1 (xv 2))) (xv 0)))))) (xv 2) (Jz Zhr)))))))))
theorem Zan:Zr ["text", "parts"] ["text"] (Zh Jl):=fsc
theorem Zd3    (T:Txt K mg f fd cls):FnOk P w K mg base CX0 4 (f 22) (fd 22) ["text"] (spD K (sD Z8)):=by
 have G_read_fraction:=Zd1 (P:=P) (w:=w) (base:=base) T
 have G_read_number:=Zbw (P:=P) (w:=w) (base:=base) T
 refine Yi T.e_read_weighted.F Zan (S:=W0) rfl rfl (fun cdv A outer s H E hr=>?_)
 have hu:=hr.units
 exact (xsq (xst 1 Zan.nd (Zku (Ztv Zee F.slot_str_split F.type_str_split Zeh (xv 0) (xa1 (Jz Jf))))) (xsq (xif (xne hu (xln T.z_len (xa1 (xv 1))) xci) (Ze (xrt (Jz Zhr))) xnl) (Ze (xrt (Zoq (Ztz (Zi (Za5 (Zhu ["word"] [] ["word"] (xil (Zku (Ztv Zee F.slot_str_split F.type_str_split Zeh (xix (xv 1) xci) (xa1 (Jz Jf))))) (fun _ _ _ _ _=>(xg 0 (by show List.Nodup (["word"]:List Str) ; decide +kernel))) (fun _ _ _ _ _=>(Jv Jw)) (fun _ _ _ _ _=>(xce G_read_number hr T.e_read_number (xa1 (xv 0)))))) (xa1 (xce G_read_fraction hr T.e_read_fraction (xa1 (xix (xv 1) xci)))))))))))
theorem Zbq:Zr ["text"] ["text"] (Zh Y5):=fsc
theorem Zbp    (T:Txt K mg f fd cls):FnOk P w K mg base CX0 5 (f 23) (fd 23) ["text"] (spD K (sD Yk)):=by
 have G_read_weighted:=Zd3 (P:=P) (w:=w) (base:=base) T
 refine Yi T.e_read_all_weighted.F Zbq (S:=Y6) rfl rfl (fun cdv A outer s H E hr=>?_)
 have hu:=hr.units
 exact (xsq (xif (xeq hu (xv 0) (Jz (Zjy (by rfl) T.g_NO_CUTS))) (Ze (xrt (xls xa0))) xnl) (Ze (xrt (Za5 (Zhu ["part"] [] ["part"] (xil (Zku (Ztv Zee F.slot_str_split F.type_str_split Zeh (xv 0) (xa1 (Jz Jf))))) (fun _ _ _ _ _=>(xg 0 (by show List.Nodup (["part"]:List Str) ; decide +kernel))) (fun _ _ _ _ _=>(Jv Jw)) (fun _ _ _ _ _=>(xce G_read_weighted hr T.e_read_weighted (xa1 (xv 0)))))))))
theorem Zdt:Zr ["n", "text", "cuts"] ["n", "text"] (Zh Zb8):=fsc
theorem Zh0    (T:Txt K mg f fd cls):FnOk P w K mg base CX0 6 (f 24) (fd 24) ["n", "text"] (spD K (sD Yz)):=by
 have G_check_text:=Zgy (P:=P) (w:=w) (base:=base) T
 have G_is_point_count:=Zdb (P:=P) (w:=w) (base:=base) T
 have G_is_weighted:=Zf6 (P:=P) (w:=w) (base:=base) T
 have G_read_all_weighted:=Zbp (P:=P) (w:=w) (base:=base) T
 refine Yi T.e_read_cuts.F Zdt (S:=Zar) rfl rfl (fun cdv A outer s H E hr=>?_)
 exact (xsq (Zw0 (Zx2 (xce G_check_text hr T.e_check_text (xa1 (xv 1))))) (xsq (xso 2 Zdt.nd (xce G_read_all_weighted hr T.e_read_all_weighted (xa1 (xv 1)))) (xsq (xif (MW.mt (Zit (Ziz (xno (We (Wa (xce G_is_point_count hr T.e_is_point_count (xa1 (xv 0))) (fun _=>rfl)))) (Ze1 (xno (We (Wa (xce G_is_weighted hr T.e_is_weighted (Zi (xv 0) (xa1 (xo 2)))) (fun _=>rfl)))))))) (Ze Zlj) xnl) (Ze (Zwo (Zxe 2))))))
theorem Zjl:Zr ["cut"] ["cut"] (Zh Zc6):=fsc
theorem Zkq    (T:Txt K mg f fd cls):FnOk P w K mg base CX0 1 (f 25) (fd 25) ["cut"] (spD K (sD Zaw)):=by
 refine Yi T.e_show_cut.F Zjl (S:=Za2) rfl rfl (fun cdv A outer s H E hr=>?_)
 exact (Ze (xrt (Zk5 (Ztd Zg5 F.slot_str_join F.type_str_join (Zg4 rfl) (Jz Jf) (xa1 (Za5 (Zhu ["point"] [] ["point"] (xil (xv 0)) (fun _ _ _ _ _=>(xg 0 (by show List.Nodup (["point"]:List Str) ; decide +kernel))) (fun _ _ _ _ _=>(Jv Jw)) (fun _ _ _ _ _=>(Ja Zkh (Zii Zfi Yv (by rfl) T.z_str L2.B.boot_str (xa1 (xv 0))))))))))))
theorem Ziw:Zr ["cuts"] ["cuts"] (Zh Zcc):=fsc
theorem Zih    (T:Txt K mg f fd cls):FnOk P w K mg base CX0 2 (f 26) (fd 26) ["cuts"] (spD K (sD Wy)):=by
 have G_show_cut:=Zkq (P:=P) (w:=w) (base:=base) T
 have G_show_fraction:=Zat (P:=P) (w:=w) (base:=base) T
 refine Yi T.e_show_cuts.F Ziw (S:=Zaq) rfl rfl (fun cdv A outer s H E hr=>?_)
 have hu:=hr.units
 exact (xsq (xif (xeq hu (xln T.z_len (xa1 (xv 0))) xci) (Ze (xrt (Jz (Zjy (by rfl) T.g_NO_CUTS)))) xnl) (Ze (xrt (Zk5 (Ztd Zg5 F.slot_str_join F.type_str_join (Zg4 rfl) (Jz Jf) (xa1 (Za5 (Zhu ["cut", "weight"] [] ["cut", "weight"] (xil (xv 0)) (fun _ _ _ _ _=>(xg2 rfl (xg 0 (by show List.Nodup (["cut", "weight"]:List Str) ; decide +kernel)) (xg 1 (by show List.Nodup (["cut", "weight"]:List Str) ; decide +kernel)))) (fun _ _ _ _ _=>(Jv Jw)) (fun _ _ _ _ _=>(Z7 Zdo (Zdg Y7 Zbg (Z7 Zdo (Zdg Y7 Zbg (xce G_show_cut hr T.e_show_cut (xa1 (xv 0))) (Jz Jf))) (xce G_show_fraction hr T.e_show_fraction (xa1 (xv 1))))))))))))))
theorem Zcs:Zr ["script", "n", "weighted", "due", "handed", "found", "many", "back", "cut", "weight"] ["script"] (Zh Zw8):=fsc
theorem Z1s    (T:Txt K mg f fd cls):FnOk P w K mg base CX0 9 (f 27) (fd 27) ["script"] (spD K (sD Zdj)):=by
 have G_law_alike:=Zix (P:=P) (w:=w) (base:=base) T
 have G_law_cell_at:=Zf7 (P:=P) (w:=w) (base:=base) T
 have G_law_cuts_written:=Zcd (P:=P) (w:=w) (base:=base) T
 have G_law_some_cuts:=Zd5 (P:=P) (w:=w) (base:=base) T
 have G_read_cuts:=Zh0 (P:=P) (w:=w) (base:=base) T
 have G_show_cuts:=Zih (P:=P) (w:=w) (base:=base) T
 refine Yi T.e_law.F Zcs (S:=Zga) rfl rfl (fun cdv A outer s H E hr=>?_)
 have hu:=hr.units
 exact (xsq (xst 1 Zcs.nd (Z3p xci (Zmx (xce G_law_cell_at hr T.e_law_cell_at (Zi (xv 0) (xa1 xci))) xci))) (xsq (xst 2 Zcs.nd (xce G_law_some_cuts hr T.e_law_some_cuts (Zi (xv 1) (xa1 (Zz4 (Z2t (xv 0) (Zjt (Zjm xci)) (Zjt (Zjm xci)))))))) (xsq (xst 3 Zcs.nd (xce G_law_cuts_written hr T.e_law_cuts_written (xa1 (xv 2)))) (xsq (Zpo (Zc5 (i:=4) (own:=["cut", "weight"]) (caps:=[]) (N':=["cut", "weight"]) false Zcs.nd rfl (Or.inl rfl) (by exact ⟨rfl,by decide +kernel,rfl,by decide +kernel,rfl,rfl⟩) (by rfl) (by decide) (xil (xv 2)) (fun _ _ _ _ _=>(xg2 rfl (xg 0 (by show List.Nodup (["cut", "weight"]:List Str) ; decide +kernel)) (xg 1 (by show List.Nodup (["cut", "weight"]:List Str) ; decide +kernel)))) (fun _ _ _ _ _=>(Jv Jw)) (fun _ _ _ _ _=>(xtp (Zi (Zl6 Zu5 (Zz1 Zni (Zgm rfl) (by rfl) T.z_list L2.B.boot_list (xa1 (xv 0)))) (xa1 (xv 1))))))) (xsq (xst 5 Zcs.nd (xce G_show_cuts hr T.e_show_cuts (xa1 (xv 4)))) (xsq (xif (MW.mt (Zit (Ziz (xno (We (Wa (Y8 (Zab (by decide) (by rfl) T.z_isinstance L2.B.boot_isinstance (by rfl) T.z_str L2.B.boot_str (xv 5))) (fun _=>rfl)))) (Zit (Ziz (xne hu (xv 5) (xv 3)) (Ze1 (xne hu (xv 4) (xv 2)))))))) (Ze (xrt (Jz Za9))) xnl) (xsq (xfr PassesOwn.never rfl (xil (xls (Zi (xv 1) (xa1 (Z3p (xv 1) (Zmx (xce G_law_cell_at hr T.e_law_cell_at (Zi (xv 0) (xa1 xci))) (Z7n xci (xv 1)))))))) (xg 6 Zcs.nd) (xsq (xso 7 Zcs.nd (xce G_read_cuts hr T.e_read_cuts (Zi (xv 6) (xa1 (xv 3))))) (xsq (xif (xno (We (Wa (xce G_law_alike hr T.e_law_alike (Zi (xo 7) (xa1 (xv 2)))) (fun _=>rfl)))) (Ze (xrt (Jz Za9))) xnl) (xsq (Zsp (Zsl 7 8 9 Zvm (.int _) rfl Zcs.nd rfl rfl rfl (by decide) (Or.inl rfl) (Or.inl rfl))) (Ze (Zhs (Zht 7 xci))))))) (Ze (xrt (Jg (Zfb (xce G_law_alike hr T.e_law_alike (Zi (xce G_read_cuts hr T.e_read_cuts (Zi (xv 1) (xa1 (xv 3)))) (xa1 (xv 2)))) (Zf8 (Z7 Zxo (Zd0 (Ze3 hu) Zkj (xce G_show_cuts hr T.e_show_cuts (xa1 (xv 4))) (xv 3) (hm:=(Yy _))))))))))))))))
theorem Zy1    (T:Txt K mg f fd cls):FnOk P w K mg base CX0 9 (f 27) (fd 27) ["script"] (spD K Zzs):=(Z1s T).imp fun vs H Q E q=>by
 obtain ⟨L,ds,k,h1,⟨ns,e,hl,hk⟩,h3⟩:=q
 exact ⟨L,ds,k,h1,⟨_,by rw [e]; exact Zss ns hl,hk⟩,h3⟩
end
theorem Z0j      {fa:Addr} (X:K.In h) (G:h.Ns mainGlobals mg) (hfa:mg "law" = some (.ref fa))
  (q1:Ei K "_law_whole" Zb6 f1 d1)
  (q2:Ei K "_law_alike" Zb5 f2 d2)
  (q3:Ei K "_law_cell_at" Zai f3 d3)
  (q4:Ei K "_law_q" Zjk f4 d4)
  (q5:Ei K "_law_cuts_written" Y9 f5 d5)
  (q6:Ei K "_law_common" Za7 f6 d6)
  (q7:Ei K "_law_fraction" J1 f7 d7)
  (q8:Ei K "_law_wide" Zda f8 d8)
  (q9:Ei K "_law_some_cuts" Jj f9 d9)
  (q10:Ei K "check_text" Zbb f10 d10)
  (q11:Ei K "is_point_count" Wx f11 d11)
  (q12:Ei K "is_rising" Zb4 f12 d12)
  (q13:Ei K "is_whole" Zdf f13 d13)
  (q14:Ei K "is_cut" Zhk f14 d14)
  (q15:Ei K "greatest_divisor" Wk f15 d15)
  (q16:Ei K "is_fraction" Zak f16 d16)
  (q17:Ei K "is_weighted_cut" Ws f17 d17)
  (q18:Ei K "is_weighted" J9 f18 d18)
  (q19:Ei K "is_number" Zb9 f19 d19)
  (q20:Ei K "read_number" Zaa f20 d20)
  (q21:Ei K "show_fraction" Ji f21 d21)
  (q22:Ei K "read_fraction" Je f22 d22)
  (q23:Ei K "read_weighted" Jl f23 d23)
  (q24:Ei K "read_all_weighted" Y5 f24 d24)
  (q25:Ei K "read_cuts" Zb8 f25 d25)
  (q26:Ei K "show_cut" Zc6 f26 d26)
  (q27:Ei K "show_cuts" Zcc f27 d27)
  (q28:Ei K "law" Zw8 f28 d28)
  (z0:PySem.W.nsIn K mainGlobals "abs" = some none)
  (z1:PySem.W.nsIn K mainGlobals "bool" = some none)
  (z2:PySem.W.nsIn K mainGlobals "int" = some none)
  (z3:PySem.W.nsIn K mainGlobals "isinstance" = some none)
  (z4:PySem.W.nsIn K mainGlobals "len" = some none)
  (z5:PySem.W.nsIn K mainGlobals "list" = some none)
  (z6:PySem.W.nsIn K mainGlobals "range" = some none)
  (z7:PySem.W.nsIn K mainGlobals "sorted" = some none)
  (z8:PySem.W.nsIn K mainGlobals "str" = some none)
  (z9:PySem.W.nsIn K mainGlobals "tuple" = some none)
  (z10:PySem.W.nsIn K mainGlobals "zip" = some none)
  (gc_FIGURES:PySem.W.nsIn K mainGlobals "FIGURES" = some (some (.str "0123456789" t_FIGURES)))
  (gc_MOST_FIGURES:PySem.W.nsIn K mainGlobals "MOST_FIGURES" = some (some (.int 40 t_MOST_FIGURES)))
  (gc_MOST_POINTS:PySem.W.nsIn K mainGlobals "MOST_POINTS" = some (some (.int 10 t_MOST_POINTS)))
  (gc_NO_CUTS:PySem.W.nsIn K mainGlobals "NO_CUTS" = some (some (.str "none" t_NO_CUTS)))
  (cc_NoText:PySem.W.nsIn K mainGlobals "NoText" = some (some (.ref C_NoText)))
  (x_NoText:Zen K C_NoText)
  (r_NoText:Z2p K C_NoText)
  : ∃ fd:FuncData,(∀ (s:Shared) (v:Value),BindsTo s fd ⟨[v],[]⟩ [("script", v)])/\∀ base:Heap,K.In base→base.Ns mainGlobals mg→FnOk l.prog w K mg base CX0 9 fa fd ["script"] (spD K Zzs):=by
 have e:=hfa.symm.trans (PySem.W.mg_of X G q28.a)
 cases e
 have T:Txt K mg (fun k=>[f1,f2,f3,f4,f5,f6,f7,f8,f9,f10,f11,f12,f13,f14,f15,f16,f17,f18,f19,f20,f21,f22,f23,f24,f25,f26,f27,f28].getD k 0) (fun k=>[d1,d2,d3,d4,d5,d6,d7,d8,d9,d10,d11,d12,d13,d14,d15,d16,d17,d18,d19,d20,d21,d22,d23,d24,d25,d26,d27,d28].getD k d28) (fun k=>[C_NoText].getD k 0):=⟨en1 X G q1,en2 X G q2,en2 X G q3,en1 X G q4,en1 X G q5,en2 X G q6,en2 X G q7,en1 X G q8,en2 X G q9,en1 X G q10,en1 X G q11,en1 X G q12,en1 X G q13,en2 X G q14,en2 X G q15,en1 X G q16,en2 X G q17,en2 X G q18,en1 X G q19,en1 X G q20,en1 X G q21,en1 X G q22,en1 X G q23,en1 X G q24,en2 X G q25,en1 X G q26,en1 X G q27,en1 X G q28,⟨_,PySem.W.mg_of X G gc_FIGURES⟩,⟨_,PySem.W.mg_of X G gc_MOST_FIGURES⟩,⟨_,PySem.W.mg_of X G gc_MOST_POINTS⟩,⟨_,PySem.W.mg_of X G gc_NO_CUTS⟩,PySem.W.mg_none_of X G z0,PySem.W.mg_none_of X G z1,PySem.W.mg_none_of X G z2,PySem.W.mg_none_of X G z3,PySem.W.mg_none_of X G z4,PySem.W.mg_none_of X G z5,PySem.W.mg_none_of X G z6,PySem.W.mg_none_of X G z7,PySem.W.mg_none_of X G z8,PySem.W.mg_none_of X G z9,PySem.W.mg_none_of X G z10,ec X G cc_NoText,x_NoText,r_NoText⟩
 refine ⟨d28,fun s v=>?_,fun base _ _=>Zy1 (P:=l.prog) (w:=w) (base:=base) T⟩
 obtain ⟨_,_,_,_,_,_,_,_,_,rfl,_,_⟩:=q28.F.ex
 exact .of_eq rfl
theorem walk  {q:Program}    {d:DefRec} {K:Params→PySem.W.Frag} (hn:l.most = some 63) (hdf:d.params.defaults = [])
  (hY:∀ (w:World) (h:Heap),YP w h→(K w.params).In h)
  (F:∀ (w:World) (mg:Str→Option Value) (fa:Addr) (h:Heap),(K w.params).In h→h.Ns mainGlobals mg→mg d.name = some (.ref fa) →
   ∃ fd:FuncData,(∀ (s:Shared) (u:Value),BindsTo s fd ⟨[u],[]⟩ [("script", u)])/\∀ base:Heap,(K w.params).In base→base.Ns mainGlobals mg→FnOk l.prog w (K w.params) mg base CX0 9 fa fd ["script"] (spD (K w.params) Zzs)) :
  PySem.W.WalkO q loose XP YP l.row.toRowW d [] (fun f vs=>PySem.call f vs) :=
 L2.Zys (n:=63) (k:=9) (x := "script") (CX:=fun _=>CX0) (sp:=fun w=>spD (K w.params) Zzs) hn (by decide) hdf ⟨rfl,by decide,by decide⟩ hY F (fun _ _ a ns hl _ hS=>Z0f hl hS) fun _ _ _ _ _ z=>z
end My
open PySem PySem.W PyProof.Rows
theorem PySem.W.Fast.tw6993960420532734444:True:=trivial
theorem PySem.W.Fast.tw3151462281211480430:True:=trivial
theorem PySem.W.Fast.tw11475824853544215613:True:=trivial
theorem PySem.W.Fast.tw9964177131523128031:True:=trivial
theorem PySem.W.Fast.tw2685321300864430611:True:=trivial
theorem PySem.W.Fast.tw191879263134197516:True:=trivial
theorem PySem.W.Fast.tw523736301887280770:True:=trivial
theorem PySem.W.Fast.tw17483792346594431317:True:=trivial
theorem PySem.W.Fast.tw8561584425840483106:True:=trivial
theorem PySem.W.Fast.tw17904998463038216985:True:=trivial
theorem PySem.W.Fast.tw14721062163071370538:True:=trivial
theorem PySem.W.Fast.tw4042178870016521603:True:=trivial
theorem PySem.W.Fast.tw11456119539805195044:True:=trivial
theorem PySem.W.Fast.tw16873562495511737918:True:=trivial
theorem PySem.W.Fast.tw13148236908069790727:True:=trivial
theorem PySem.W.Fast.tw17267285614726786864:True:=trivial
theorem PySem.W.Fast.tw9445468510068573443:True:=trivial
theorem PySem.W.Fast.tw3806282918234416560:True:=trivial
theorem PySem.W.Fast.tw13344265182060556882:True:=trivial
theorem PySem.W.Fast.tw11308039105557359619:True:=trivial
set_option maxRecDepth 100000 in
set_option maxHeartbeats 0 in
theorem PySem.Challenge.cw_farcuts_k80_cuts_written_and_read_holds : PySem.Challenge.rw_farcuts_k80_cuts_written_and_read.Holds := by
 w_on; o_law; k_head; (case hw=>w_witness2)
 k_fill
 refine My.walk (l:=PySem.Challenge.rw_farcuts_k80_cuts_written_and_read) rfl rfl (fun w h Y=>PySem.W.kIn_of Y) ?F
 case F =>
  intro w mg fa h KX G hmg
  refine' My.Z0j KX G hmg ?_ ?_ ?_ ?_ ?_ ?_ ?_ ?_ ?_ ?_ ?_ ?_ ?_ ?_ ?_ ?_ ?_ ?_ ?_ ?_ ?_ ?_ ?_ ?_ ?_ ?_ ?_ ?_ ?_ ?_ ?_ ?_ ?_ ?_ ?_ ?_ ?_ ?_ ?_ ?_ ?_ ?_ ?_ ?_ ?_ ?_
  all_goals try (first | (refine' ⟨?a,L2.Z0z ?l ?c ?k⟩; (case a=>k_is); (case l=>k_is); (case c=>k_is); (case k=>k_is)) | k_is | kit_is | (show PySem.W.excIn _ _ _ _ = true; k_exc) | (refine' ⟨?_,?_,?_,?_,?_,?_,?_,?_,?_,?_,?_⟩ <;> first | k_is | kit_is | (show PySem.W.isClsIn _ _ = true; k_is)))
#print axioms PySem.Challenge.cw_farcuts_k80_cuts_written_and_read_holds
