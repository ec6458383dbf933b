import PyProof.Rows.All
import Wide.All
import OpenK.AllK
import Wide.FinOn
import PyProof.EqAt
import PyProof.EqKinds
import PyProof.TupleCall
import PyProof.P3In
import PyProof.ZipIter
import PyProof.ListRange
import PyProof.SetRoads
import PyProof.Rows.SetFrom
import PyProof.Rows.SeqMore2
import KE.RegKIsAll
import PySem.Challenge.RW_farcuts_k37_bars_looked_at
set_option Elab.async false
set_option linter.all false
set_option maxRecDepth 100000
set_option genSizeOfSpec false
set_option genInjectivity false
/-! THE HAND LAYER, for ints, bools, texts, own classes, LISTS and tuples (index, slices, in, append, pop ..), calls, loops. Paste it whole ahead of your own text; what your proof does not reach may be deleted. -/
open Array renaming map_extract->Xy,map_append->XH,size_map->X3,map_push->Qu,map_reverse->QK,length_toList->BR,getElem?_toList->Ve,map->Uj
open Bool renaming and_eq_true->Xo,false_ne_true->Xu,false_eq_true->Bq,eq_false_iff->U7
open Classical renaming axiomOfChoice->Uz
open False renaming elim->Vk
open ForInStep renaming yield->JK
open Int renaming toNat_natCast->Qn,gcd->JG,natAbs_ediv_le_natAbs->Bw,ne_of_gt->By,zero_add->Vb,gcd_eq_natAbs_gcd_natAbs->Vd,natAbs_natCast->Vv,natCast_mul->Ue,fdiv_eq_ediv_of_nonneg->Uy
open List renaming length_map->Xf,getElem?_eq_getElem->Xg,getD_eq_getElem?_getD->Xh,getElem?_map->Xl,getElem?_eq_some_iff->Xm,range->Xn,mem_cons->Xw,size_toArray->Xx,length_range->XC,mem_map->XQ,Nodup->XR,replicate->X4,length_append->X6,map_congr_left->X8,mem_of_getElem?->Qc,map_map->Qh,mem_singleton->Qj,getElem?_range->Qp,getElem?_set_ne->Qq,map_cons->Qs,getElem?_eq_none_iff->Qt,mem_append_right->Qw,getElem?_eq_none->Qz,mem_range->QB,getElem_mem->QD,map_append->QJ,getElem?_set_self->QL,nodup_cons->QT,mem_append->QV,lookup_cons->QW,length_zip->Q7,length_singleton->Q9,length_cons->JD,getElem?_append_right->JN,length_set->JP,length_drop->JV,toArray->JZ,append_nil->Bb,all_eq_true->Bo,of_mem_zip->Bv,replicate_succ->BV,length_take->BW,length_replicate->Vf,mem_append_left->Vl,getElem?_of_mem->Vm,drop_eq_getElem_cons->Vq,any_cons->Vr,find?_cons->Vt,forIn_nil->VB,flatten_cons->VD,drop_eq_nil_of_le->VF,append_assoc->VG,not_mem_nil->VP,take_nil->V2,drop_nil->V3,mem_cons_of_mem->V5,eq_nil_of_length_eq_zero->V6,mem_filter->V9,forIn_cons->Ua,take_succ->Us,mem_cons_self->Ut,getElem?_zip_eq_some->UT,getElem?_append_left->UV,nodup_append->U0,getElem?_nil->U3,ext_getElem?->U4,sum_cons->U8,all_cons->U9
open Nat renaming ne_of_lt->Xp,ne_of_gt->XJ,lt_of_lt_of_le->Qd,le_refl->Qi,le_trans->QM,zero_le->Q6,lt_trans->Va,le_add_right->Vp,le_of_ble_eq_true->VN,lt_succ_self->V1,zero_add->Uo,succ_mul->Uq
open Ne renaming symm->Vc
open Option renaming bind_some->Xi,map_some->XX,map_none->Qm,some->Bg,bind_eq_some_iff->BP,isSome_iff_exists->UL
open Option.some renaming inj->QG
open Or renaming inr->Qx,inl->QQ
open PyProof.Rows renaming seqObj->QX,callWith_type1->Ba,SortSt->Bl,SortKind->Bp,IntsAre->Bx,Keyed->Vu,pairsOf->Vz,KeysIn->VJ,pendingOf->VM,slot_tupleiter_next->UG
open PyProof.Rows.SortSt renaming mk'->Bm
open PySem renaming PyData->Xa,Value->Xc,Shared->Xd,wpAny_bind->Xe,sizeLine->Xq,starEach->Xr,FuncData->Xv,Program->XM,wpAny->XN,wpAny_pure->X5,model->X7,sizeLine_eq->Qe,mainGlobals->Qg,bootBuiltins->Qk,Around->Ql,World->Qo,wpAny_loadPart'->Q0,assignEach->JC,mem_of_lookup->JM,cellsFrom->JQ,NameKind->Bc,foldedSetIterable->Bh,compareOp->Bj,wpAny_mono->Bk,IsPair->Br,wpAny_field->Bs,pushCells->Bu,backTo->BJ,wpAny_seqItems->BX,SetTable->BZ,wpAny_setField_rec->Vg,wpAny_passesOwn->Vi,wpAny_call_entry->Vs,wpAny_holding->Vw,binaryOp->Vx,wpAny_callSpecial?_slot->VL,wpAny_truthy_bool->VR,wpAny_loadPart_at->V0,Scope->V7,swapsWith->Uc,assign->Ud,behindInMarks->Uh,Builtin->Ui,sliceBounds->Uk,pushCells_keeps->Uv,letOwnedTupleGo->Uw
open PySem.Builtin.Int renaming intBits->JF,intTooBig->U6
open PySem.Builtin.List renaming listTooLong->Ub
open PySem.Builtin.Range renaming rangeSize->Vn
open PySem.Builtin.SmallTypes renaming nextOf->QR,ownedTupleIsFree->JS,ownedTupleHandOut->Uu
open PySem.Heap renaming get?_push_of_some->Xj,lt_size->Xz,get?_push_size->Qa,size_push->JB,SameBut->Vo,get?_update_ne->Ug,get?_push_ne->U5
open PySem.NameKind renaming free->QS,cell->JR
open PySem.Obj renaming mapSeq->QC
open PySem.PassesOwn renaming never->XD
open PySem.PyData renaming int->Xk,eqv->Qy,canLayAll0->JH,list->JW,canLay0->JX,depthAll->V4,strOk->V8,eqvAll->UJ
open PySem.SeqAt renaming EqAt->JL,shaped->Be,canLay_of_shaped->Vy
open PySem.SetTable renaming below->JT
open PySem.Value renaming none->QH,ref->Q4,bool->Ul,builtin->UW
open PySem.W renaming Frag->Xb,kas_item->XF,mg_none_of->QF,nsIn->Q3,kia_one->Q5,Looks->Q8,kitOne->BK,findIn->BL,keepIn->Vh,fnOf->Vj
open Rat renaming divInt->QZ,divInt_eq_div->VH,zero_mul->Um,num_divInt_den->Ux
open True renaming intro->Ur
namespace L2
open PySem PySem.Spec PyProof.Rows
noncomputable abbrev Key:=Sum Int Str
noncomputable def Z5l:Key->Xc->Bool
 | .inl k,v=>Xc.isInt k v
 | .inr x,v=>Xc.isStrOf x v
noncomputable def Yc2(w:Qo):Key->Int
 | .inl k=>hashInt k
 | .inr x=>hashStr w x
theorem We:∀{k:Key} {v:Xc},Z5l k v=true->(∃i t,k=Sum.inl i∧v=Value.int i t)∨(∃x t,k=Sum.inr x∧v=Value.str x t)
 | .inl i,v,h=>by
  obtain⟨t,e⟩:=Value.isInt_shape (k:=i) (v:=v) h
  exact .inl ⟨i,t,rfl,e⟩
 | .inr x,v,h=>by
  obtain⟨t,e⟩:=Xc.isStrOf_shape (x:=x) (v:=v) h
  exact .inr ⟨x,t,rfl,e⟩
theorem Z5x(a b:Int):decide ((Sum.inl a:Key)=Sum.inl b)=(a==b):=by
 by_cases e:a=b
 ·subst e;simp
 ·have h:¬(Sum.inl a:Key)=Sum.inl b:=λq=>e (Sum.inl.inj q)
  rw[decide_eq_false h]
  exact(beq_eq_false_iff_ne.mpr e).symm
theorem Z5r(a b:Str):decide ((Sum.inr a:Key)=Sum.inr b)=decide (a=b):=by
 by_cases e:a=b
 ·subst e;simp
 ·have h:¬(Sum.inr a:Key)=Sum.inr b:=λq=>e (Sum.inr.inj q)
  rw[decide_eq_false h,decide_eq_false e]
theorem Z52(a:Int)(b:Str):decide ((Sum.inl a:Key)=Sum.inr b)=false:=decide_eq_false (λq=>nomatch q)
theorem Z2p(a:Str)(b:Int):decide ((Sum.inr a:Key)=Sum.inl b)=false:=decide_eq_false (λq=>nomatch q)
noncomputable def Zn4(prog:XM)(w:Qo):PySem.KeyKind prog w Key where
 is:=Z5l
 hash:=Yc2 w
 inj:=λv a b ha hb=>by
  rcases We ha with⟨i,t,rfl,rfl⟩|⟨x,t,rfl,rfl⟩
  ·rcases We hb with⟨j,u,rfl,e⟩|⟨y,u,rfl,e⟩
   ·injection e with e1 _;rw[e1]
   ·exact nomatch e
  ·rcases We hb with⟨j,u,rfl,e⟩|⟨y,u,rfl,e⟩
   ·exact nomatch e
   ·injection e with e1 _;rw[e1]
 byValue:=λk v h=>by
  rcases We h with⟨i,t,rfl,rfl⟩|⟨x,t,rfl,rfl⟩<;>rfl
 pyHash:=λhv h=>by
  rcases We hv with⟨i,t,rfl,rfl⟩|⟨x,t,rfl,rfl⟩
  ·exact wpAny_pyHash_int h
  ·exact wpAny_pyHash_str h
 eqBool:=λhu hv h=>by
  rcases We hu with⟨i,t,rfl,rfl⟩|⟨x,t,rfl,rfl⟩
  ·rcases We hv with⟨j,u,rfl,rfl⟩|⟨y,u,rfl,rfl⟩
   ·rw[Z5x]at h;exact wpAny_eqBool_int h
   ·rw[Z52]at h;exact SeqAt.EqAt.int_str i t y u _ _ _ _ h
  ·rcases We hv with⟨j,u,rfl,rfl⟩|⟨y,u,rfl,rfl⟩
   ·rw[Z2p]at h;exact SeqAt.EqAt.str_int x t j u _ _ _ _ h
   ·rw[Z5r]at h;exact wpAny_eqBool_str h
 «strs»:=λk x t v h=>by
  rcases We h with⟨i,u,rfl,e⟩|⟨y,u,rfl,e⟩
  ·exact nomatch e
  ·injection e with e1 _
   subst e1
   cases v<;>rfl
inductive V where
 | non|bl (b:Bool)|int (i:Int)|str (x:Str)|byt (b:Array UInt8)|flt (b:UInt64)|ref (a:Addr)|ty (n:String)
noncomputable def RelV:V->Xc->Prop
 | .non,u=>u=QH
 | .bl b,u=>u=Ul b
 | .int i,u=>∃t,u=Value.int i t
 | .str x,u=>∃t,u=Value.str x t
 | .byt b,u=>∃t,u=Xc.bytes b t
 | .flt b,u=>∃t,u=Xc.float b t
 | .ref a,u=>u=Q4 a
 | .ty n,u=>u=Xc.type n
noncomputable abbrev Vals:List V->List Xc->Prop:=Paired RelV
theorem Vals.length{xs:List V}{us:List Xc}(r:Vals xs us):xs.length=us.length:=Paired.length r
theorem Vals.get{xs:List V}{us:List Xc}{i:Nat}{x:V}(h:Vals xs us)(e:xs[i]? =some x):∃u,us[i]? =some u∧RelV x u:=by
 induction h generalizing i with
 | nil=>exact(Option.some_ne_none _ (e.symm.trans U3)).elim
 | cons r t ih=>
  cases i with
  | zero=>exact⟨_,rfl,QG e▸r⟩
  | succ i=>exact ih e
theorem Vals.set{x:V}{u:Xc}(r:RelV x u){xs:List V}{us:List Xc}(i:Nat)(h:Vals xs us):Vals (xs.set i x) (us.set i u):=by
 induction h generalizing i with
 | nil=>exact .nil
 | cons q t ih=>
  cases i with
  | zero=>exact .cons r t
  | succ i=>exact .cons q (ih i)
theorem Vals.append{xs ys:List V}{us ws:List Xc}(h:Vals xs us)(s:Vals ys ws):Vals (xs ++ ys) (us ++ ws):=by
 induction h with
 | nil=>exact s
 | cons r t ih=>exact .cons r ih
theorem Vals.take{xs:List V}{us:List Xc}(n:Nat)(h:Vals xs us):Vals (xs.take n) (us.take n):=by
 induction h generalizing n with
 | nil=>rw[V2,V2];exact .nil
 | cons r t ih=>
  cases n with
  | zero=>exact .nil
  | succ n=>exact .cons r (ih n)
theorem Vals.drop{xs:List V}{us:List Xc}(n:Nat)(h:Vals xs us):Vals (xs.drop n) (us.drop n):=by
 induction h generalizing n with
 | nil=>rw[V3,V3];exact .nil
 | cons r t ih=>
  cases n with
  | zero=>exact .cons r t
  | succ n=>exact ih n
noncomputable def RelO:Option V->Option Xc->Prop
 | some v,some u=>RelV v u
 | none,none=>True
 | _,_=>False
noncomputable def KV{κ:Type}:List (κ×V)->List (κ×Xc)->Prop:=Paired λ(p:κ×V) (q:κ×Xc)=>p.1=q.1∧RelV p.2 q.2
noncomputable def kV:Key->V
 | .inl i=>.int i
 | .inr x=>.str x
inductive HO where
  | lst (xs:List V)
  | tup (xs:List V)
  | dK (kvs:List (Key×V))|dT (kvs:List (List Key×V))
  | set (S:Int->Bool) (n:Nat)
  | ins (C dx:Addr) (fs:List (Str×V))
  | own (x:Addr)
  | xd (fs:List (Str×V))
  | met (f x:Addr)
  | rng (lo hi:Int)
  | frz (o:Obj) (u:HO)
  | tbl (ps:Array Xc)
  | ext (φ:Heap->Prop)
noncomputable abbrev Hp:=Addr->Option HO
noncomputable def upd(H:Hp)(a:Addr)(o:HO):Hp:=λb=>if b=a then some o else H b
theorem Yo{H:Hp}{a:Addr}{o:HO}:upd H a o a=some o:=by unfold upd;rw[if_pos rfl]
theorem Z9{H:Hp}{a b:Addr}{o:HO}(h:b≠a):upd H a o b=H b:=by unfold upd;rw[if_neg h]
theorem Wc{H:Hp}{a b:Addr}{o:HO}(h:H a=some o)(h':H b=none):a≠b:=by
 intro e;subst e;rw[h]at h';cases h'
section
variable (P:XM)(w:Qo)
noncomputable def ObjOk(H:Hp)(h:Heap)(a:Addr):HO->Prop
 | .lst xs=>xs.length≤Xq∧∃(its:List Xc) (n:Nat),Vals xs its∧h.get? a=some { cls:=.type "list",data:=.seq its.toArray n }
 | .tup xs=>xs.length≤Xq∧∃its:List Xc,Vals xs its∧IsTup h a its.toArray
 | .dK kvs=>kvs.length≤Xq∧(a==sysModules)=false∧∃vs,KV kvs vs∧h.DictOf (Zn4 P w) a vs
 | .dT kvs=>kvs.length≤Xq∧(a==sysModules)=false∧∃xs:List (List Key×Addr×Xc),
   Paired (λ(p:List Key×V) (q:List Key×Addr×Xc)=>p.1=q.1∧H q.2.1=some (.tup (p.1.map kV))∧RelV p.2 q.2.2) kvs xs∧
   ∃o es ep,h.get? a=some o∧o.ExactDict∧o.data= .dict es ep∧es.toList=xs.map (entryOfKey (tupleKind (Zn4 P w)))∧(xs.map (·.1)).Nodup
 | .set S n=>h.SetOf (intKind P w) a S n
 | .ins C dx fs=>H dx=some (.own a)∧fs.length≤1000∧dx≠a∧h.get? a=some (PySem.W.instObj C dx)∧
   ∃mA,h.Ns1 dx mA∧(∀f,RelO (fs.lookup f) (mA f))∧PySem.Within mA (fs.map (·.1))
 | .own _=>∃o,h.get? a=some o
 | .xd fs=>∃mA,h.Ns1 a mA∧∀f,RelO (fs.lookup f) (mA f)
 | .rng lo hi=>∃t u v,h.get? a=some { cls:=.type "range",data:=.fields #[.int lo t,.int hi u,.int 1 v] }
 | .frz o u=>h.get? a=some o∧ObjOk H h a u
 | .tbl ps=>h.get? a=some { cls:=.none,data:=.fields ps }
 | .met f x=>h.get? a=some (PySem.W.methodObj (.ref f) (.ref x))
 | .ext φ=>φ h∧(∃o,h.get? a=some o)∧∀h1 h2:Heap,φ h1->(∀o,h1.get? a=some o->h2.get? a=some o)->φ h2
noncomputable def HOk(H:Hp)(h:Heap):Prop:=∀a o,H a=some o->ObjOk P w H h a o
end
section
variable {P:XM}{w:Qo}{H H':Hp}{h h':Heap}{a:Addr}{o:HO}
theorem ObjOk.lt(x:ObjOk P w H h a o):a<h.objs.size:=by
 cases o with
 | lst xs=>obtain⟨_,_,_,_,e⟩:=x;exact Xz e
 | tup xs=>obtain⟨_,_,_,p⟩:=x;exact p.lt
 | dK kvs=>obtain⟨_,_,_,_,o,_,_,e,_⟩:=x;exact Xz e
 | dT kvs=>obtain⟨_,_,_,_,o,_,_,e,_⟩:=x;exact Xz e
 | set S n=>obtain⟨o,_,_,_,e,_⟩:=x;exact Xz e
 | ins C dx fs=>obtain⟨_,_,_,e,_⟩:=x;exact Xz e
 | own y=>obtain⟨_,e⟩:=x;exact Xz e
 | xd fs=>obtain⟨_,⟨_,_,_,e,_⟩,_⟩:=x;exact Xz e
 | rng lo hi=>obtain⟨_,_,_,e⟩:=x;exact Xz e
 | frz ob u=>obtain⟨e,_⟩:=x;exact Xz e
 | tbl ps=>exact Xz (show h.get? a=some _ from x)
 | met f y=>exact Xz (show h.get? a=some _ from x)
 | ext φ=>obtain⟨_,⟨_,e⟩,_⟩:=x;exact Xz e
theorem Paired.mapP{α β:Type}{F G:α->β->Prop}{l₁:List α}{l₂:List β}(h:Paired F l₁ l₂)(f:∀a b,F a b->G a b):Paired G l₁ l₂:=by
 induction h with
 | nil=>exact .nil
 | cons r t ih=>exact .cons (f _ _ r) ih
theorem ObjOk.stay(x:ObjOk P w H h a o)(k:∀b u,(b=a∨H b=some (.own a))->h.get? b=some u->h'.get? b=some u)
  (ho:∀b,H b=some (.own a)->H' b=some (.own a)) (ht:∀b xs,H b=some (.tup xs)->H' b=some (.tup xs)):ObjOk P w H' h' a o:=by
 induction o with
 | lst xs=>obtain⟨z,its,n,r,e⟩:=x;exact⟨z,its,n,r,k _ _ (.inl rfl) e⟩
 | tup xs=>obtain⟨z,its,r,ob,e,c⟩:=x;exact⟨z,its,r,ob,k _ _ (.inl rfl) e,c⟩
 | dK kvs=>obtain⟨z,y,vs,r,ob,es,ep,e,c⟩:=x;exact⟨z,y,vs,r,ob,es,ep,k _ _ (.inl rfl) e,c⟩
 | dT kvs=>
  obtain⟨z,y,xs,r,ob,es,ep,e,c⟩:=x
  exact⟨z,y,xs,Paired.mapP r λp q z=>⟨z.1,ht _ _ z.2.1,z.2.2⟩,ob,es,ep,k _ _ (.inl rfl) e,c⟩
 | set S n=>obtain⟨ob,es,ep,t,e,c⟩:=x;exact⟨ob,es,ep,t,k _ _ (.inl rfl) e,c⟩
 | ins C dx fs=>
  obtain⟨d,z,ne,e,mA,⟨od,es,ep,e2,c⟩,r⟩:=x
  exact⟨ho _ d,z,ne,k _ _ (.inl rfl) e,mA,⟨od,es,ep,k _ _ (.inr d) e2,c⟩,r⟩
 | own y=>obtain⟨ob,e⟩:=x;exact⟨ob,k _ _ (.inl rfl) e⟩
 | xd fs=>obtain⟨mA,⟨od,es,ep,e,c⟩,r⟩:=x;exact⟨mA,⟨od,es,ep,k _ _ (.inl rfl) e,c⟩,r⟩
 | rng lo hi=>obtain⟨t,u,v,e⟩:=x;exact⟨t,u,v,k _ _ (.inl rfl) e⟩
 | frz ob u ih=>obtain⟨e,q⟩:=x;exact⟨k _ _ (.inl rfl) e,ih q⟩
 | tbl ps=>
  have e:h.get? a=some { cls:=.none,data:=.fields ps }:=x
  show h'.get? a=some { cls:=.none,data:=.fields ps }
  exact k a _ (.inl rfl) e
 | met f y=>
  have e:h.get? a=some (PySem.W.methodObj (.ref f) (.ref y)):=x
  show h'.get? a=some (PySem.W.methodObj (.ref f) (.ref y))
  exact k a _ (.inl rfl) e
 | ext φ=>obtain⟨p,⟨o,e⟩,st⟩:=x;exact⟨st _ _ p λo q=>k _ _ (.inl rfl) q,⟨o,k _ _ (.inl rfl) e⟩,st⟩
theorem HOk.lt(x:HOk P w H h)(e:H a=some o):a<h.objs.size:=(x a o e).lt
theorem HOk.fresh(x:HOk P w H h)(e:h.objs.size≤a):H a=none:=by
 cases q:H a with
 | none=>rfl
 | some u=>exact absurd (Qd (x.lt q) e) (Nat.lt_irrefl _)
theorem HOk.kept(x:HOk P w H h)(k:∀b u,h.get? b=some u->h'.get? b=some u):HOk P w H h':=λa o e=>
 (x a o e).stay (λb u _ q=>k b u q) (λ_ q=>q) λ_ _ q=>q
theorem HOk.laid(x:HOk P w H h)(k:∀b u,h.get? b=some u->h'.get? b=some u)(hp:h.objs.size≤a)(new:ObjOk P w (upd H a o) h' a o):HOk P w (upd H a o) h':=λb u e=>by
 have hn:=x.fresh hp
 by_cases hb:b=a
 ·subst hb;rw[Yo]at e;cases e;exact new
 ·rw[Z9 hb]at e
  exact(x b u e).stay (λc v _ q=>k c v q) (λc q=>by rw[Z9 (Wc q hn)];exact q) λc xs q=>by rw[Z9 (Wc q hn)];exact q
end
noncomputable def Rd(H:Hp)(a:Addr)(u:HO):Prop:=H a=some u∨∃o,H a=some (.frz o u)
theorem Rd.ok{P:XM}{w:Qo}{H:Hp}{h:Heap}{a:Addr}{u:HO}(r:Rd H a u)(x:HOk P w H h):ObjOk P w H h a u:=by
 rcases r with r|⟨o,r⟩
 ·exact x a u r
 ·obtain⟨_,q⟩:=x a _ r
  exact q
noncomputable def Mut:Option HO->Prop
 | some (.lst _)=>True
 | some (.dK _)=>True
 | some (.dT _)=>True
 | some (.set _ _)=>True
 | some (.ins _ _ _)=>True
 | some (.ext _)=>True
 | _=>False
section
variable {P:XM}{w:Qo}{H:Hp}{h h':Heap}{x e:Addr}{o':HO}
theorem HOk.write(ok:HOk P w H h)(mu:Mut (H x))(he:e=x∨H e=some (.own x))(k:∀b u,b≠e->h.get? b=some u->h'.get? b=some u)(heo:∃u,h'.get? e=some u)
  (new:ObjOk P w (upd H x o') h' x o'):HOk P w (upd H x o') h':=λb u q=>by
 have nown:∀c y,H c=some (.own y)->c≠x:=λc y r z=>by subst z;rw[r]at mu;exact mu
 have ntup:∀c xs,H c=some (.tup xs)->c≠x:=λc xs r z=>by subst z;rw[r]at mu;exact mu
 by_cases hb:b=x
 ·subst hb;rw[Yo]at q;cases q;exact new
 ·rw[Z9 hb]at q
  by_cases hbe:b=e
  ·have q':H b=some (.own x):=by
    rcases he with z|z
    ·exact absurd (hbe.trans z) hb
    ·rw[hbe];exact z
   rw[q]at q';cases q'
   obtain⟨v,hv⟩:=heo
   exact⟨v,by rw[hbe];exact hv⟩
  ·refine(ok b u q).stay (λc v hc r=>k c v ?_ r) (λc r=>by rw[Z9 (nown c b r)];exact r) λc xs r=>by rw[Z9 (ntup c xs r)];exact r
   rcases hc with rfl|hc
   ·exact hbe
   ·rintro rfl
    rcases he with z|z
    ·exact nown c b hc z
    ·rw[hc]at z;cases z;exact hb rfl
end
structure Un(fs ex:List Addr)(H H':Hp)(h h':Heap):Prop where
 keep:∀b o,h.get? b=some o->H b=none->b∉fs->b∉ex->h'.get? b=some o
 slot:∀b o,h.get? b=some o->H b=none->b∈fs->b∉ex->∃sl,h'.get? b=some { o with slots:=sl }
 free:∀b o,h.get? b=some o->H b=none->b∉ex->H' b=none
 there:∀b o,h.get? b=some o->b∉ex->∃o',h'.get? b=some o'
 tups:∀b xs,H b=some (.tup xs)->H' b=some (.tup xs)
 frzs:∀b o u,H b=some (.frz o u)->H' b=some (.frz o u)
 tbls:∀b ps,H b=some (.tbl ps)->∃more,H' b=some (.tbl (ps ++ more))
section
variable {fs fs' ex ex':List Addr}{H H1 H2:Hp}{h h1 h2 h':Heap}{a x e:Addr}{o:HO}
theorem Un.any(u:Un fs ex H H1 h h1){b:Addr}{ob:Obj}(q:h.get? b=some ob)(n:H b=none)(hx:b∉ex):∃sl,h1.get? b=some { ob with slots:=sl }:=by
 by_cases hb:b∈fs
 ·exact u.slot b ob q n hb hx
 ·exact⟨ob.slots,u.keep b ob q n hb hx⟩
theorem Un.trans(a:Un fs ex H H1 h h1)(b:Un fs ex H1 H2 h1 h2):Un fs ex H H2 h h2 where
 keep:=λc ob q n hc hx=>b.keep c ob (a.keep c ob q n hc hx) (a.free c ob q n hx) hc hx
 slot:=λc ob q n hc hx=>by
  obtain⟨sl,e1⟩:=a.slot c ob q n hc hx
  obtain⟨sl',e2⟩:=b.slot c _ e1 (a.free c ob q n hx) hc hx
  exact⟨sl',e2⟩
 free:=λc ob q n hx=>by
  obtain⟨o',e1⟩:=a.there c ob q hx
  exact b.free c o' e1 (a.free c ob q n hx) hx
 there:=λc ob q hx=>by
  obtain⟨o',e1⟩:=a.there c ob q hx
  exact b.there c o' e1 hx
 tups:=λc xs q=>b.tups c xs (a.tups c xs q)
 frzs:=λc ob xs q=>b.frzs c ob xs (a.frzs c ob xs q)
 tbls:=λc ps q=>by
  obtain⟨m1,e1⟩:=a.tbls c ps q
  obtain⟨m2,e2⟩:=b.tbls c _ e1
  exact⟨m1 ++ m2,by rw[e2,Array.append_assoc]⟩
theorem Un.kept(k:∀b u,h.get? b=some u->h'.get? b=some u):Un fs ex H H h h' :=
 ⟨λb ob q _ _ _=>k b ob q,λb ob q _ _ _=>⟨ob.slots,k b ob q⟩,λ_ _ _ n _=>n,λb ob q _=>⟨ob,k b ob q⟩,λ_ _ q=>q,λ_ _ _ q=>q,λ_ ps q=>⟨#[],by rw[q];simp⟩⟩
theorem Un.refl:Un fs ex H H h h:=Un.kept λ_ _ q=>q
theorem Un.laid(k:∀b u,h.get? b=some u->h'.get? b=some u)(hp:h.objs.size≤a)(hn:H a=none):Un fs ex H (upd H a o) h h' where
 keep:=λb u q _ _ _=>k b u q
 slot:=λb u q _ _ _=>⟨u.slots,k b u q⟩
 free:=λb u q n _=>by rw[Z9 (Xp (Qd (Xz q) hp))];exact n
 there:=λb u q _=>⟨u,k b u q⟩
 tups:=λb xs q=>by rw[Z9 (Wc q hn)];exact q
 frzs:=λb u xs q=>by rw[Z9 (Wc q hn)];exact q
 tbls:=λb ps q=>⟨#[],by rw[Z9 (Wc q hn),q];simp⟩
theorem Un.write(mu:Mut (H x))(he:e=x∨H e=some (.own x))(k:∀b u,b≠e->h.get? b=some u->h'.get? b=some u)(heo:∃u,h'.get? e=some u):Un fs ex H (upd H x o) h h':=by
 have hx:∀b,H b=none->b≠x:=λb n z=>by subst z;rw[n]at mu;exact mu
 have hb:∀b,H b=none->b≠e:=λb n z=>by
  subst z
  rcases he with r|r
  ·exact hx b n r
  ·rw[n]at r;cases r
 have hm:∀b u,H b=some u->¬Mut (some u)->b≠x:=λb u q nm z=>by subst z;rw[q]at mu;exact nm mu
 refine⟨λb u q n _ _=>k b u (hb b n) q,λb u q n _ _=>⟨u.slots,k b u (hb b n) q⟩,λb u q n _=>by rw[Z9 (hx b n)];exact n,λb u q _=>?_,
  λb xs q=>by rw[Z9 (hm b _ q λz=>z)];exact q,λb u xs q=>by rw[Z9 (hm b _ q λz=>z)];exact q,λb ps q=>⟨#[],by rw[Z9 (hm b _ q λz=>z),q];simp⟩⟩
 by_cases hbe:b=e
 ·subst hbe;exact heo
 ·exact⟨u,k b u hbe q⟩
theorem Un.mono(u:Un fs ex H H1 h h1)(hs:∀b∈fs,b∈fs')(hx:∀b∈ex,b∈ex'):Un fs' ex' H H1 h h1 :=
 ⟨λb ob q n hb he=>u.keep b ob q n (λz=>hb (hs b z)) λz=>he (hx b z),λ_ _ q n _ he=>u.any q n λz=>he (hx _ z),λb ob q n he=>u.free b ob q n λz=>he (hx b z),λb ob q he=>u.there b ob q λz=>he (hx b z),u.tups,u.frzs,u.tbls⟩
end
noncomputable def trk(h:Heap)(H:Hp):List Addr:=(Xn h.objs.size).filter λa=>(H a).isSome
noncomputable def Zvb(h:Heap)(H:Hp):Heap:=PySem.W.hideAll h (trk h H)
theorem Zr4(h:Heap)(H:Hp):(Zvb h H).objs.size=h.objs.size:=PySem.W.hideAll_size _ _
theorem Zv3{h:Heap}{H:Hp}{b:Addr}{o:Obj}(e:h.get? b=some o)(n:H b=none):(Zvb h H).get? b=some o :=
 PySem.W.hideAll_get _ e λhm=>by
  have q:(H b).isSome=true:=(V9.mp hm).2
  rw[n]at q;simp at q
theorem Z0k{h:Heap}{H:Hp}{b:Addr}{o:Obj}(e:(Zvb h H).get? b=some o):h.get? b=some o∧H b=none:=by
 have e':h.get? b=some o:=PySem.W.of_hideAll (trk h H) e
 refine⟨e',?_⟩
 cases q:H b with
 | none=>rfl
 | some x=>
  have hm:b∈trk h H:=V9.mpr ⟨QB.mpr (Xz e'),by simp[q]⟩
  have z:(Zvb h H).get? b=none:=PySem.W.hideAll_none (trk h H) hm
  rw[z]at e;cases e
noncomputable def Zy6(g h:Heap)(L:Addr):List (Addr×Obj):=(Xn h.objs.size).filterMap λa=>if a=L∨(g.get? a).isSome=true then none else(h.get? a).map λo=>(a,o)
noncomputable def rest(g h:Heap)(L d:Addr):List (Addr×Obj):=(Zy6 g h L).filter λp=>decide (p.1≠d)
structure Mod(K:Xb)(mg:Str->Option Xc)(base:Heap):Prop where
 kin:K.In base
 glob:base.Ns Qg mg
 blt:∃mb,base.Ns builtinsNs mb∧∀x:Str,x≠"__name__" ->mb x=Qk x
 nolimit:base.NoLimit
set_option genInjectivity false in
structure Cx where
 prog:XM
 w:Qo
 K:Xb
 mg:Str->Option Xc
 base:Heap
 A:Ql
 N:List Str
 s₀:Xd
 H₀:Hp
 env:Env
 outer:List Env
 stack:List Env
 ex:List Addr
 fn:Str->Bool
 calm:Bool
 pn:List (Addr×Obj)
 xe:Xc->Xd->Prop
noncomputable def frs(l:List Env):List Addr:=l.filterMap (·.frame)
noncomputable abbrev Cx.fs(X:Cx):List Addr:=frs X.outer
noncomputable def Vis(sc:V7)(x:Str):Prop:=sc.names.lookup x=some .local∨sc.names.lookup x=some .cell∨sc.names.lookup x=some .free
noncomputable def Loc(sc:V7)(x:Str):Prop:=sc.names.lookup x=some .local∨sc.names.lookup x=some .cell
noncomputable def Look(env:Env)(h:Heap)(m:Str->Option Xc)(x:Str)(u:Xc):Prop :=
 (env.kindOf x=some .local∧m x=some u)∨((env.kindOf x=some .cell∨env.kindOf x=some .free)∧∃c,env.cells.lookup x=some c∧h.IsCell c (some u))
structure Cx.Ok(X:Cx):Prop where
 mod:Mod X.K X.mg X.base
 kind:X.env.scope.kind= .function
 glob:X.env.globals=Qg
 blt:X.env.builtins=builtinsNs
 above:X.s₀.heap.objs.size≤X.env.locals
 inj:∀x y c,X.env.cells.lookup x=some c->X.env.cells.lookup y=some c->x=y
 has:∀x,(X.env.kindOf x=some .cell∨X.env.kindOf x=some .free)->∃c,X.env.cells.lookup x=some c
 cab:∀x c,X.fn x=true->X.env.cells.lookup x=some c->X.s₀.heap.objs.size≤c
 hd:X.calm=true->X.A.handled=none
 frames:X.A.frames=some X.stack
 stk:X.stack=X.outer∨(X.stack=X.env :: X.outer∧X.env.frame=some X.env.locals)
 exf:∀b∈X.ex,b≠X.env.locals∧∀x c,X.env.cells.lookup x=some c->c≠b
 bs:∀b o,X.base.get? b=some o->X.s₀.heap.get? b=some o∧X.H₀ b=none
 bsz:X.base.objs.size≤X.s₀.heap.objs.size
 noex:∀b o,X.base.get? b=some o->b∉X.ex
 exfs:∀b∈X.ex,b∉X.fs
 funs:X.s₀.heap.FunFrames X.base X.outer
 frf:∀b∈X.fs,X.H₀ b=none
structure Inv(X:Cx)(pins:List (Addr×Obj))(σ:List (Option V))(H:Hp)(s:Xd):Prop where
 ok:X.Ok
 os:s.os=X.s₀.os
 bare:AllBare s.gens
 base:Un X.fs X.ex X.H₀ H X.s₀.heap s.heap
 loc:∃m,s.heap.Ns X.env.locals m∧∀(i:Nat) (x:Str) (v:V),X.N[i]? =some x->σ[i]? =some (some v)->Vis X.env.scope x->∃u,RelV v u∧Look X.env s.heap m x u
 cell:∀x c,X.env.cells.lookup x=some c->∃v,s.heap.IsCell c v
 free:H X.env.locals=none
 freeC:∀x c,X.env.cells.lookup x=some c->H c=none
 pin:∀p∈X.pn ++ pins,s.heap.get? p.1=some p.2∧H p.1=none∧p.1≠X.env.locals∧p.1∉X.fs∧∀v,p.2.data≠ .cell v
 hok:HOk X.prog X.w H s.heap
 len:σ.length=X.N.length
section
variable {X:Cx}{pins:List (Addr×Obj)}{σ:List (Option V)}{H H':Hp}{s:Xd}{h':Heap}
theorem Cx.Ok.nofr(ok:X.Ok){b:Addr}{o:Obj}(e:X.base.get? b=some o):b∉X.fs:=λhb=>by
 have:=(ok.funs.mem hb).1
 rw[e]at this;cases this
theorem Inv.bs(I:Inv X pins σ H s):∀b o,X.base.get? b=some o->s.heap.get? b=some o∧H b=none:=λb o e=>
 ⟨I.base.keep b o (I.ok.bs b o e).1 (I.ok.bs b o e).2 (I.ok.nofr e) (I.ok.noex b o e),I.base.free b o (I.ok.bs b o e).1 (I.ok.bs b o e).2 (I.ok.noex b o e)⟩
theorem Inv.bk(I:Inv X pins σ H s):∀b o,X.base.get? b=some o->s.heap.get? b=some o:=λb o e=>(I.bs b o e).1
theorem Inv.mod(I:Inv X pins σ H s):Mod X.K X.mg X.base:=I.ok.mod
theorem Inv.kIn(I:Inv X pins σ H s):X.K.In s.heap:=I.ok.mod.kin.keeps I.bk
theorem Inv.lt(I:Inv X pins σ H s):X.env.locals<s.heap.objs.size:=let⟨_,hn,_⟩:=I.loc;hn.lt
theorem Inv.sz(I:Inv X pins σ H s):X.s₀.heap.objs.size≤s.heap.objs.size:=QM I.ok.above (Nat.le_of_lt I.lt)
theorem Inv.nofs(I:Inv X pins σ H s){a:Addr}(h:s.heap.objs.size≤a):a∉X.fs:=λhb=>by
 obtain⟨_,o,ho,_⟩:=I.ok.funs.mem hb
 exact absurd (Qd (Xz ho) (QM I.sz h)) (Nat.lt_irrefl _)
theorem Inv.cne(I:Inv X pins σ H s):∀x c,X.env.cells.lookup x=some c->c≠X.env.locals:=λx c e z=>by
 obtain⟨v,o,ho,hd⟩:=I.cell x c e
 obtain⟨m,⟨o',es,ep,ho',hd',_⟩,_⟩:=I.loc
 rw[z,ho']at ho;cases ho;rw[hd']at hd;cases hd
theorem Inv.funs(I:Inv X pins σ H s):s.heap.FunFrames X.base X.outer:=by
 have all:∀(l:List Env),(∀b∈frs l,b∈X.fs)->X.s₀.heap.FunFrames X.base l->s.heap.FunFrames X.base l:=by
  intro l
  induction l with
  | nil=>intro _ _;trivial
  | cons env r ih=>
   intro hs hl
   obtain⟨hk,⟨L,o,hf,hn,ho,hd⟩,hr⟩:=hl
   have hL:L∈X.fs:=hs L (by unfold frs;rw[List.filterMap_cons,hf];exact Ut)
   obtain⟨sl,e⟩:=I.base.slot L o ho (I.ok.frf L hL) hL λz=>I.ok.exfs L z hL
   exact⟨hk,⟨L,_,hf,hn,e,hd⟩,ih (λb hb=>hs b (by unfold frs;rw[List.filterMap_cons,hf];exact V5 _ hb)) hr⟩
 exact all X.outer (λ_ hb=>hb) I.ok.funs
theorem Inv.stack(I:Inv X pins σ H s):s.heap.FunFrames X.base X.stack:=by
 rcases I.ok.stk with e|⟨e,hf⟩
 ·rw[e];exact I.funs
 ·rw[e]
  obtain⟨m,hn,_⟩:=I.loc
  refine .cons (by rw[I.ok.kind];decide) hf hn ?_ I.funs
  exact Heap.get?_none_of_le (QM I.ok.bsz I.ok.above)
theorem Inv.stkSub(I:Inv X pins σ H s):∀b∈frs X.stack,b∈X.env.locals :: X.fs:=λb hb=>by
 rcases I.ok.stk with e|⟨e,hf⟩
 ·rw[e]at hb;exact V5 _ hb
 ·rw[e]at hb
  unfold frs at hb
  rw[List.filterMap_cons,hf]at hb
  exact hb
theorem Inv.stkFree(I:Inv X pins σ H s):∀b∈frs X.stack,H b=none:=λb hb=>by
 rcases Xw.mp (I.stkSub b hb)with e|hb
 ·rw[e];exact I.free
 ·obtain⟨_,o,ho,_⟩:=I.ok.funs.mem hb
  exact I.base.free b o ho (I.ok.frf b hb) λz=>I.ok.exfs b z hb
theorem Inv.step{g':Array GenState}{t':Nat}{d':Drawn}{ch:List Addr}(I:Inv X pins σ H s)
  (hch:∀b∈ch,(b∈X.ex∨X.s₀.heap.objs.size≤b)∧b≠X.env.locals∧(∀x c,X.env.cells.lookup x=some c->c≠b)∧∀p∈X.pn ++ pins,p.1≠b)
  (keep:∀b o,b≠X.env.locals->b∉X.fs->b∉ch->s.heap.get? b=some o->H b=none->h'.get? b=some o)
  (slot:∀b o,b≠X.env.locals->b∈X.fs->b∉ch->s.heap.get? b=some o->H b=none->∃sl,h'.get? b=some { o with slots:=sl }) (free:∀b o,b∉ch->s.heap.get? b=some o->H b=none->H' b=none)
  (there:∀b o,b∉ch->s.heap.get? b=some o->∃o',h'.get? b=some o')
  (tups:∀b xs,H b=some (.tup xs)->H' b=some (.tup xs)) (frzs:∀b o u,H b=some (.frz o u)->H' b=some (.frz o u)) (tbls:∀b ps,H b=some (.tbl ps)->∃more,H' b=some (.tbl (ps ++ more)))
  (ns:∀m,s.heap.Ns X.env.locals m->h'.Ns X.env.locals m) (hok:HOk X.prog X.w H' h') (hg:AllBare g') :
  Inv X pins σ H' { s with heap:=h',gens:=g',drawn:=d',toks:=t' }:=by
 have neL:∀b o,X.s₀.heap.get? b=some o->b≠X.env.locals:=λb o e=>Xp (Qd (Xz e) I.ok.above)
 have neC:∀b o,X.s₀.heap.get? b=some o->b∉X.ex->b∉ch:=λb o e hx hb=>by
  rcases(hch b hb).1 with z|z
  ·exact hx z
  ·exact absurd (Qd (Xz e) z) (Nat.lt_irrefl _)
 have cellK:∀x c,X.env.cells.lookup x=some c->∀v,s.heap.IsCell c v->h'.IsCell c v:=λx c e v ⟨o,ho,hd⟩=>by
  have nch:c∉ch:=λz=>(hch c z).2.2.1 x c e rfl
  by_cases hc:c∈X.fs
  ·obtain⟨sl,q⟩:=slot c o (I.cne x c e) hc nch ho (I.freeC x c e)
   exact⟨_,q,hd⟩
  ·exact⟨o,keep c o (I.cne x c e) hc nch ho (I.freeC x c e),hd⟩
 refine⟨I.ok,I.os,hg,⟨λb o e n hb hx=>?_,λb o e n hb hx=>?_,λb o e n hx=>?_,λb o e hx=>?_,λb xs e=>tups b xs (I.base.tups b xs e),λb o xs e=>frzs b o xs (I.base.frzs b o xs e),λb ps e=>?_⟩,?_,λx c e=>?_,?_,λx c e=>?_,λp hp=>?_,hok,I.len⟩
 ·exact keep b o (neL b o e) hb (neC b o e hx) (I.base.keep b o e n hb hx) (I.base.free b o e n hx)
 ·obtain⟨sl,e1⟩:=I.base.slot b o e n hb hx
  obtain⟨sl',e2⟩:=slot b _ (neL b o e) hb (neC b o e hx) e1 (I.base.free b o e n hx)
  exact⟨sl',e2⟩
 ·obtain⟨o',e1⟩:=I.base.there b o e hx
  exact free b o' (neC b o e hx) e1 (I.base.free b o e n hx)
 ·obtain⟨o',e1⟩:=I.base.there b o e hx
  exact there b o' (neC b o e hx) e1
 ·obtain⟨m1,e1⟩:=I.base.tbls b ps e
  obtain⟨m2,e2⟩:=tbls b _ e1
  exact⟨m1 ++ m2,by rw[e2,Array.append_assoc]⟩
 ·obtain⟨m,hn,hl⟩:=I.loc
  refine⟨m,ns m hn,λi x v e1 e2 e3=>?_⟩
  obtain⟨u,r,l⟩:=hl i x v e1 e2 e3
  refine⟨u,r,?_⟩
  rcases l with l|⟨k,c,e,z⟩
  ·exact .inl l
  ·exact .inr ⟨k,c,e,cellK x c e _ z⟩
 ·obtain⟨v,z⟩:=I.cell x c e
  exact⟨v,cellK x c e v z⟩
 ·obtain⟨m,⟨o,_,_,ho,_⟩,_⟩:=I.loc
  exact free _ o (λz=>(hch _ z).2.1 rfl) ho I.free
 ·obtain⟨v,o,ho,hd⟩:=I.cell x c e
  exact free c o (λz=>(hch c z).2.2.1 x c e rfl) ho (I.freeC x c e)
 ·obtain⟨e,n,ne,nf,d⟩:=I.pin p hp
  have nch:p.1∉ch:=λz=>(hch p.1 z).2.2.2 p hp rfl
  exact⟨keep p.1 p.2 ne nf nch e n,free p.1 p.2 nch e n,ne,nf,d⟩
theorem Inv.un{t':Nat}(I:Inv X pins σ H s)(u:Un X.fs [] H H' s.heap h')(hok:HOk X.prog X.w H' h'):Inv X pins σ H' { s with heap:=h',toks:=t' }:=by
 obtain⟨m,⟨o,es,ep,ho,r⟩,_⟩:=id I.loc
 obtain⟨sl,hL⟩:=u.any ho I.free (by simp)
 exact I.step (g':=s.gens) (d':=s.drawn) (ch:=[]) (λ_ z=>nomatch z) (λb o _ hb _ e n=>u.keep b o e n hb (by simp)) (λb o _ hb _ e n=>u.slot b o e n hb (by simp)) (λb o _ e n=>u.free b o e n (by simp)) (λb o _ e=>u.there b o e (by simp)) u.tups u.frzs u.tbls (λm' hm=>by
  obtain⟨o',es',ep',ho',r'⟩:=hm
  rw[ho]at ho';cases ho'
  exact⟨_,es',ep',hL,r'⟩) hok I.bare
theorem Inv.call{g':Array GenState}{t':Nat}{d':Drawn}{ch:List Addr}(I:Inv X pins σ H s)(u:Un (frs X.stack) ch H H' s.heap h')(hok:HOk X.prog X.w H' h')(hg:AllBare g')
  (hch:∀b∈ch,(b∈X.ex∨X.s₀.heap.objs.size≤b)∧b≠X.env.locals∧(∀x c,X.env.cells.lookup x=some c->c≠b)∧∀p∈X.pn ++ pins,p.1≠b) :
  Inv X pins σ H' { s with heap:=h',gens:=g',drawn:=d',toks:=t' }:=by
 obtain⟨m,⟨o,es,ep,ho,r⟩,_⟩:=id I.loc
 obtain⟨sl,hL⟩:=u.any ho I.free λz=>(hch _ z).2.1 rfl
 exact I.step (ch:=ch) hch (λb o hL hb hc e n=>u.keep b o e n (λz=>(Xw.mp (I.stkSub b z)).elim hL hb) hc) (λb o _ _ hc e n=>u.any e n hc) (λb o hc e n=>u.free b o e n hc) (λb o hc e=>u.there b o e hc) u.tups u.frzs u.tbls (λm' hm=>by
  obtain⟨o',es',ep',ho',r'⟩:=hm
  rw[ho]at ho';cases ho'
  exact⟨_,es',ep',hL,r'⟩) hok hg
theorem Inv.turned{t':Nat}{it:Addr}(I:Inv X pins σ H s)(k:∀b o,b≠it->s.heap.get? b=some o->h'.get? b=some o)(hn:H it=none)(hL:it≠X.env.locals)
  (h1:it∈X.ex∨X.s₀.heap.objs.size≤it) (h2:∀x c,X.env.cells.lookup x=some c->c≠it) (h3:∀p∈X.pn ++ pins,p.1≠it):Inv X pins σ H { s with heap:=h',toks:=t' }:=by
 have nit:∀b u,H b=some u->b≠it:=λb u e z=>by rw[z,hn]at e;cases e
 refine I.step (g':=s.gens) (d':=s.drawn) (ch:=[it]) (λb hb=>?_) (λb o _ _ hc e _=>k b o (λz=>hc (by simp[z])) e) (λb o _ _ hc e _=>⟨o.slots,k b o (λz=>hc (by simp[z])) e⟩) (λ_ _ _ _ n=>n)
  (λb o hc e=>⟨o,k b o (λz=>hc (by simp[z])) e⟩) (λ_ _ e=>e) (λ_ _ _ e=>e) (λb ps e=>⟨#[],by rw[e];simp⟩) (λm hm=>?_) (λb u e=>?_) I.bare
 ·have e:b=it:=by simpa using hb
  subst e
  exact⟨h1,hL,h2,h3⟩
 ·obtain⟨o,es,ep,ho,r⟩:=hm
  exact⟨o,es,ep,k _ o (Vc hL) ho,r⟩
 ·refine(I.hok b u e).stay (λc v hc q=>k c v ?_ q) (λ_ q=>q) λ_ _ q=>q
  rcases hc with z|z
  ·rw[z];exact nit b u e
  ·exact nit c _ z
theorem Inv.tok(I:Inv X pins σ H s)(t:Nat):Inv X pins σ H { s with toks:=t }:=I.un (h':=s.heap) (t':=t) Un.refl I.hok
theorem Inv.kept{t':Nat}(I:Inv X pins σ H s)(k:∀b u,s.heap.get? b=some u->h'.get? b=some u):Inv X pins σ H { s with heap:=h',toks:=t' }:=I.un (Un.kept k) (I.hok.kept k)
theorem Inv.laid{a:Addr}{o:HO}{t':Nat}(I:Inv X pins σ H s)(k:∀b u,s.heap.get? b=some u->h'.get? b=some u)(hp:s.heap.objs.size≤a)(new:ObjOk X.prog X.w (upd H a o) h' a o) :
  Inv X pins σ (upd H a o) { s with heap:=h',toks:=t' }:=I.un (Un.laid k hp (I.hok.fresh hp)) (I.hok.laid k hp new)
theorem Inv.write{x e:Addr}{o:HO}{t':Nat}(I:Inv X pins σ H s)(mu:Mut (H x))(he:e=x∨H e=some (.own x))(k:∀b u,b≠e->s.heap.get? b=some u->h'.get? b=some u)(heo:∃u,h'.get? e=some u)
  (new:ObjOk X.prog X.w (upd H x o) h' x o):Inv X pins σ (upd H x o) { s with heap:=h',toks:=t' }:=I.un (Un.write mu he k heo) (I.hok.write mu he k heo new)
theorem Inv.pins_of{pins':List (Addr×Obj)}(I:Inv X pins σ H s)(h:∀p∈pins',s.heap.get? p.1=some p.2∧H p.1=none∧p.1≠X.env.locals∧p.1∉X.fs∧∀v,p.2.data≠ .cell v):Inv X pins' σ H s :=
 ⟨I.ok,I.os,I.bare,I.base,I.loc,I.cell,I.free,I.freeC,λp hp=>(QV.mp hp).elim (λz=>I.pin p (Vl _ z)) (h p),I.hok,I.len⟩
theorem Zor{N:List Str}(hN:N.Nodup){i j:Nat}{x:Str}(a:N[i]? =some x)(b:N[j]? =some x):i=j:=by
 obtain⟨h1,e1⟩:=Xm.mp a
 obtain⟨h2,e2⟩:=Xm.mp b
 exact(List.getElem_inj hN).mp (e1.trans e2.symm)
theorem Zmd{M:Model}{A:Ql}{E:Xc->Xd->Prop}{i:Nat}{x:Str}{v:V}{u:Xc}{Q:Unit->Xd->Prop}(I:Inv X pins σ H s)(hN:X.N.Nodup)(hi:X.N[i]? =some x)(hx:Loc X.env.scope x)(r:RelV v u)
  (h:∀s',Inv X pins (σ.set i (some v)) H s'->(∃a,Vo a s.heap s'.heap∧(a=X.env.locals∨X.env.cells.lookup x=some a))->Q () s') (hf:X.fn x=true∨X.env.scope.names.lookup x=some .local:=by first|exact .inl rfl|exact .inr rfl|assumption):XN M A (storeName X.env x u) Q E s:=by
 obtain⟨m,hn,hl⟩:=id I.loc
 have hcls:(X.env.scope.kind== .class||(X.env.scope.kind== .module&&X.env.locals !=X.env.globals))=false:=by rw[I.ok.kind];rfl
 have hiσ:i<σ.length:=by rw[I.len];exact(Xm.mp hi).1
 have cne:=I.cne
 have tracked:∀{a:Addr} {h':Heap},(∃o,s.heap.get? a=some o∧H a=none)->Vo a s.heap h'->HOk X.prog X.w H h':=fun{a h'} ha hs b ob e=>by
  obtain⟨_,_,hfree⟩:=ha
  refine(I.hok b ob e).stay (λc w' hc q=>(hs.2 c ?_).trans q) (λ_ q=>q) λ_ _ q=>q
  rintro rfl
  rcases hc with rfl|hc
  ·rw[hfree]at e;cases e
  ·rw[hfree]at hc;cases hc
 rcases hx with hk|hk
 ·refine wpAny_storeName_local hk hn (λh' hn' hs=>?_) hcls
  obtain⟨oL,_,_,hoL,_⟩:=id hn
  refine h _ ⟨I.ok,I.os,I.bare,⟨λb o e n hb hx=>?_,λb o e n hb hx=>?_,I.base.free,λb o e hx=>?_,I.base.tups,I.base.frzs,I.base.tbls⟩,⟨_,hn',λj y v' e1 e2 e3=>?_⟩,λy c e=>?_,I.free,I.freeC,λp hp=>?_,tracked ⟨oL,hoL,I.free⟩ hs,by simpa using I.len⟩ ⟨_,hs,.inl rfl⟩
  ·exact(hs.2 b (Xp (Qd (Xz e) I.ok.above))).trans (I.base.keep b o e n hb hx)
  ·obtain⟨sl,e1⟩:=I.base.slot b o e n hb hx
   exact⟨sl,(hs.2 b (Xp (Qd (Xz e) I.ok.above))).trans e1⟩
  ·obtain⟨o',e1⟩:=I.base.there b o e hx
   exact⟨o',(hs.2 b (Xp (Qd (Xz e) I.ok.above))).trans e1⟩
  ·by_cases hj:j=i
   ·subst hj
    rw[hi]at e1;cases e1
    rw[QL hiσ]at e2
    cases e2
    exact⟨u,r,.inl ⟨hk,by simp⟩⟩
   ·rw[Qq (Vc hj)]at e2
    obtain⟨u',r',q⟩:=hl j y v' e1 e2 e3
    refine⟨u',r',?_⟩
    rcases q with⟨k,e⟩|⟨k,c,e,z⟩
    ·refine .inl ⟨k,?_⟩
     have:y≠x:=λe=>hj (Zor hN e1 (e▸hi))
     simp[this,e]
    ·exact .inr ⟨k,c,e,z.sameBut hs (cne y c e)⟩
  ·obtain⟨w',z⟩:=I.cell y c e
   exact⟨w',z.sameBut hs (cne y c e)⟩
  ·obtain⟨e,n,ne,nf,d⟩:=I.pin p hp
   exact⟨(hs.2 p.1 ne).trans e,n,ne,nf,d⟩
 ·have hfn:X.fn x=true:=by
   rcases hf with z|z
   ·exact z
   ·rw[z]at hk;cases hk
  obtain⟨c,hc⟩:=I.ok.has x (.inl hk)
  obtain⟨w',z⟩:=I.cell x c hc
  refine wpAny_storeName_cell I.ok.kind hk hc z (λh' hc' hs=>?_)
  obtain⟨oc,hoc,hocd⟩:=id z
  refine h { s with heap:=h' } ⟨I.ok,I.os,I.bare,⟨λb o e n hb hx=>?_,λb o e n hb hx=>?_,I.base.free,λb o e hx=>?_,I.base.tups,I.base.frzs,I.base.tbls⟩,⟨m,hn.sameBut hs (Vc (cne x c hc)),λj y v' e1 e2 e3=>?_⟩,λy c' e=>?_,I.free,I.freeC,λp hp=>?_,tracked ⟨oc,hoc,I.freeC x c hc⟩ hs,by simpa using I.len⟩ ⟨c,hs,.inr hc⟩
  ·exact(hs.2 b (Xp (Qd (Xz e) (I.ok.cab x c hfn hc)))).trans (I.base.keep b o e n hb hx)
  ·obtain⟨sl,e1⟩:=I.base.slot b o e n hb hx
   exact⟨sl,(hs.2 b (Xp (Qd (Xz e) (I.ok.cab x c hfn hc)))).trans e1⟩
  ·obtain⟨o',e1⟩:=I.base.there b o e hx
   exact⟨o',(hs.2 b (Xp (Qd (Xz e) (I.ok.cab x c hfn hc)))).trans e1⟩
  ·by_cases hj:j=i
   ·subst hj
    rw[hi]at e1;cases e1
    rw[QL hiσ]at e2
    cases e2
    exact⟨u,r,.inr ⟨.inl hk,c,hc,hc'⟩⟩
   ·rw[Qq (Vc hj)]at e2
    obtain⟨u',r',q⟩:=hl j y v' e1 e2 e3
    refine⟨u',r',?_⟩
    rcases q with q|⟨k,c',e,z'⟩
    ·exact .inl q
    ·refine .inr ⟨k,c',e,z'.sameBut hs ?_⟩
     rintro rfl
     exact hj (Zor hN e1 (I.ok.inj _ _ _ e hc▸hi))
  ·by_cases hcc:c'=c
   ·subst hcc;exact⟨_,hc'⟩
   ·obtain⟨w2,z2⟩:=I.cell y c' e
    exact⟨w2,z2.sameBut hs hcc⟩
  ·obtain⟨e,n,ne,nf,d⟩:=I.pin p hp
   refine⟨(hs.2 p.1 ?_).trans e,n,ne,nf,d⟩
   intro q
   rw[q,hoc]at e
   have q':oc=p.2:=QG e
   exact d w' (by rw[←q'];exact hocd)
theorem Zov{M:Model}{A:Ql}{E:Xc->Xd->Prop}{i:Nat}{x:Str}{v:V}{u:Xc}{Q:Unit->Xd->Prop}(I:Inv X pins σ H s)(hN:X.N.Nodup)(hi:X.N[i]? =some x)(hx:Loc X.env.scope x)(r:RelV v u)
  (h:∀s',Inv X pins (σ.set i (some v)) H s'->Q () s') (hf:X.fn x=true∨X.env.scope.names.lookup x=some .local:=by first|exact .inl rfl|exact .inr rfl|assumption):XN M A (storeName X.env x u) Q E s :=
 Zmd I hN hi hx r (λs' I' _=>h s' I') hf
theorem Inv.call'{s':Xd}{ch:List Addr}(I:Inv X pins σ H s)(ho:s'.os=s.os)(u:Un (frs X.stack) ch H H' s.heap s'.heap)(hok:HOk X.prog X.w H' s'.heap)(hg:AllBare s'.gens)
  (hch:∀b∈ch,(b∈X.ex∨X.s₀.heap.objs.size≤b)∧b≠X.env.locals∧(∀x c,X.env.cells.lookup x=some c->c≠b)∧∀p∈X.pn ++ pins,p.1≠b):Inv X pins σ H' s':=by
 obtain⟨h',g',d',t',o'⟩:=s'
 have e:o'=s.os:=ho
 subst e
 exact I.call (g':=g') (t':=t') (d':=d') u hok hg hch
end
noncomputable abbrev XK:=Xc->Option Addr->Hp->Prop
noncomputable abbrev St:=List (Option V)
noncomputable abbrev VK:=V->Hp->Prop
noncomputable abbrev TE:=St->Hp->VK->Prop
noncomputable abbrev TT:=St->Hp->(Bool->Hp->Prop)->Prop
noncomputable abbrev TA:=St->Hp->(List V->Hp->Prop)->Prop
set_option genInjectivity false in
structure Ends where
 nx:St->Hp->Prop
 rt:VK
 bk:St->Hp->Prop:=λ_ _=>False
 ct:St->Hp->Prop:=λ_ _=>False
noncomputable abbrev TS:=Ends->St->Hp->Prop
noncomputable def EP(X:Cx)(pins:List (Addr×Obj))(σ:St)(Q:VK)(u:Xc)(s':Xd):Prop:=∃v H',Inv X pins σ H' s'∧RelV v u∧Q v H'
noncomputable def TP(X:Cx)(pins:List (Addr×Obj))(σ:St)(Q:Bool->Hp->Prop)(b:Bool)(s':Xd):Prop:=∃H',Inv X pins σ H' s'∧Q b H'
noncomputable def AP(X:Cx)(pins:List (Addr×Obj))(σ:St)(Q:List V->Hp->Prop)(us:List Xc)(s':Xd):Prop:=∃vs H',Inv X pins σ H' s'∧Vals vs us∧Q vs H'
noncomputable def SP(X:Cx)(pins:List (Addr×Obj))(D:Ends)(f:Flow)(s':Xd):Prop :=
 match f with
 | .next=>∃σ' H',Inv X pins σ' H' s'∧D.nx σ' H'
 | .brk=>∃σ' H',Inv X pins σ' H' s'∧D.bk σ' H'
 | .cont=>∃σ' H',Inv X pins σ' H' s'∧D.ct σ' H'
 | .ret u=>∃v σ' H',Inv X pins σ' H' s'∧RelV v u∧D.rt v H'
noncomputable def PE(X:Cx)(e:Expr)(t:TE):Prop :=
 ∀(pins:List (Addr×Obj)) (s:Xd) (σ:St) (H:Hp) (Q:VK),Inv X pins σ H s->t σ H Q->XN (X7 X.prog X.w) X.A (eval e X.env) (EP X pins σ Q) X.xe s
noncomputable def PT(X:Cx)(e:Expr)(t:TT):Prop :=
 ∀(pins:List (Addr×Obj)) (s:Xd) (σ:St) (H:Hp) (Q:Bool->Hp->Prop),Inv X pins σ H s->t σ H Q->XN (X7 X.prog X.w) X.A (isTrue e X.env (eval e X.env)) (TP X pins σ Q) X.xe s
noncomputable def PW(X:Cx)(e:Expr)(t:TT):Prop :=
 ∀(whole:Sem Xc) (pins:List (Addr×Obj)) (s:Xd) (σ:St) (H:Hp) (Q:Bool->Hp->Prop),Inv X pins σ H s->t σ H Q->XN (X7 X.prog X.w) X.A (isTrue e X.env whole) (TP X pins σ Q) X.xe s
theorem PW.pt{X:Cx}{e:Expr}{t:TT}(h:PW X e t):PT X e t:=h _
noncomputable def PA(X:Cx)(es:List Expr)(t:TA):Prop :=
 ∀(pos:Pos) (pins:List (Addr×Obj)) (s:Xd) (σ:St) (H:Hp) (Q:List V->Hp->Prop),Inv X pins σ H s->t σ H Q->XN (X7 X.prog X.w) X.A (spliced (BJ pos (Xr es X.env))) (AP X pins σ Q) X.xe s
noncomputable def PS(X:Cx)(st:Stmt)(t:TS):Prop :=
 ∀(pins:List (Addr×Obj)) (s:Xd) (σ:St) (H:Hp) (D:Ends),Inv X pins σ H s->t D σ H->XN (X7 X.prog X.w) X.A (exec st X.env) (SP X pins D) X.xe s
noncomputable def PSs(X:Cx)(st:List Stmt)(t:TS):Prop :=
 ∀(pins:List (Addr×Obj)) (s:Xd) (σ:St) (H:Hp) (D:Ends),Inv X pins σ H s->t D σ H->XN (X7 X.prog X.w) X.A (execs st X.env) (SP X pins D) X.xe s
theorem thn{α:Type}{t:Sem α}{Q Q':α->Xd->Prop}{M:Model}{A:Ql}{E:Xc->Xd->Prop}{s:Xd}(h:XN M A t Q E s)(hQ:∀a s,Q a s->Q' a s):XN M A t Q' E s:=Bk h hQ λ_ _ x=>x
section
variable {X:Cx}
noncomputable def Ybx(i:Nat):TE:=λσ H Q=>∃v,σ[i]? =some (some v)∧Q v H
noncomputable def tC(v:V):TE:=λ_ H Q=>Q v H
theorem Z3u{i:Nat}{x:Str}{pos:Pos}(hN:X.N[i]? =some x)(hv:Vis X.env.scope x)(hd:(x==("__debug__" : Str))=false:=by decide)(hcd:(x==("__classdict__" : Str))=false:=by decide):PE X (.Name x pos) (Ybx i):=by
 intro pins s σ H Q I h
 obtain⟨v,e,h⟩:=h
 obtain⟨m,hn,hl⟩:=I.loc
 obtain⟨u,r,l⟩:=hl i x v hN e hv
 have fin:EP X pins σ Q u s:=⟨v,H,I,r,h⟩
 rcases l with⟨hk,hm⟩|⟨hk,c,hc,hcell⟩
 ·exact wpAny_Name (wpAny_loadName_local I.ok.kind hk hn hm fin) hd
 ·rcases hk with hk|hk
  ·exact wpAny_Name (wpAny_loadName_cell I.ok.kind hk hc hcell fin) hd
  ·exact wpAny_Name (wpAny_loadName_free I.ok.kind hk hc hcell fin hcd) hd
theorem Z2w{i j pos}:PE X (.Constant (.int i) j pos) (tC (.int i)):=λ_ _ _ H _ I h=>wpAny_Constant_int ⟨.int i,H,I.tok _,⟨_,rfl⟩,h⟩
theorem Z7n{b j pos}:PE X (.Constant (.bool b) j pos) (tC (.bl b)):=λ_ _ _ H _ I h=>Constant_bool ⟨.bl b,H,I,rfl,h⟩
theorem Z43{x j pos}:PE X (.Constant (.str x) j pos) (tC (.str x)):=λ_ _ _ H _ I h=>Calls.Constant_str ⟨.str x,H,I.tok _,⟨_,rfl⟩,h⟩
noncomputable def Gl(X:Cx)(x:Str):Prop:=X.env.kindOf x=some .globalImplicit
theorem Z07{E:Xc->Xd->Prop}{pins:List (Addr×Obj)}{s:Xd}{σ:St}{H:Hp}{x:Str}{u:Xc}{pos:Pos}{Q:Xc->Xd->Prop}(I:Inv X pins σ H s)(hg:Gl X x)(hm:X.mg x=some u)(h:Q u s)
  (hd:(x==("__debug__" : Str))=false:=by decide):XN (X7 X.prog X.w) X.A (eval (.Name x pos) X.env) Q E s :=
 Calls.Name_function_global I.ok.kind hg (Calls.loadGlobal_global (by rw[I.ok.glob];exact I.mod.glob.keeps I.bk) hm h) hd
theorem Zif{E:Xc->Xd->Prop}{pins:List (Addr×Obj)}{s:Xd}{σ:St}{H:Hp}{x:Str}{u:Xc}{pos:Pos}{Q:Xc->Xd->Prop}(I:Inv X pins σ H s)(hg:Gl X x)(hm:X.mg x=none)(hv:Qk x=some u)(h:Q u s)
  (hn:x≠"__name__" :=by decide) (hd:(x==("__debug__" : Str))=false:=by decide):XN (X7 X.prog X.w) X.A (eval (.Name x pos) X.env) Q E s:=by
 obtain⟨mb,h1,h2⟩:=I.mod.blt
 exact Calls.Name_function_global I.ok.kind hg (Calls.loadGlobal_builtin (by rw[I.ok.glob];exact I.mod.glob.keeps I.bk) hm (by rw[I.ok.blt];exact h1.keeps I.bk) ((h2 x hn).trans hv) h) hd
theorem Zye{x:Str}{v:V}{u:Xc}{pos:Pos}(hg:Gl X x)(hm:X.mg x=none)(hv:Qk x=some u)(r:RelV v u)(hn:x≠"__name__" :=by decide)(hd:(x==("__debug__" : Str))=false:=by decide):PE X (.Name x pos) (tC v) :=
 λ_ _ _ H _ I h=>Zif I hg hm hv ⟨v,H,I,r,h⟩ hn hd
noncomputable def t2I(ta tb:TE)(k:Int->Int->Hp->Prop):St->Hp->Prop:=λσ H=>ta σ H λx H1=>tb σ H1 λy H2=>∃i j,x= .int i∧y= .int j∧k i j H2
variable {a b:Expr}{ta tb:TE}{pos:Pos}
noncomputable def Z1k(p:Int->Int->Bool)(ta tb:TE):TE:=λσ H Q=>t2I ta tb (λi j H2=>Q (.bl (p i j)) H2) σ H
noncomputable abbrev tLt:TE->TE->TE:=Z1k λi j=>decide (i<j)
noncomputable abbrev tLe:TE->TE->TE:=Z1k λi j=>decide (i≤j)
noncomputable abbrev tGt:TE->TE->TE:=Z1k λi j=>decide (j<i)
noncomputable abbrev tGe:TE->TE->TE:=Z1k λi j=>decide (j≤i)
noncomputable abbrev Ydk:TE->TE->TE:=Z1k λi j=>decide (i=j)
noncomputable abbrev Ydm:TE->TE->TE:=Z1k λi j=>!decide (i=j)
noncomputable def tB(t:TE):TT:=λσ H Q=>t σ H λx H1=>∃c,x= .bl c∧Q c H1
variable {tA tB':TT}{rest:List Expr}
noncomputable def Ycr(t u:TT):TT:=λσ H Q=>t σ H λc H1=>if c=true then u σ H1 Q else Q false H1
noncomputable def tOr(t u:TT):TT:=λσ H Q=>t σ H λc H1=>if c=true then Q true H1 else u σ H1 Q
noncomputable def Ydh(t:TT):TT:=λσ H Q=>t σ H λc H1=>Q (!c) H1
theorem Z06(ha:PT X a tA):PW X (.BoolOp .And [a] pos) tA:=by
 intro wh pins s σ H Q I h
 refine isTrue_and (thn (ha pins s σ H Q I h) λc s1 e=>?_)
 cases c with
 | true=>exact isTrue_and_nil e
 | false=>exact e
theorem Z40(ha:PT X a tA):PW X (.BoolOp .Or [a] pos) tA:=by
 intro wh pins s σ H Q I h
 refine isTrue_or (thn (ha pins s σ H Q I h) λc s1 e=>?_)
 cases c with
 | false=>exact isTrue_or_nil e
 | true=>exact e
theorem Z2v(ha:PT X a tA)(hb:PW X (.BoolOp .And (b :: rest) pos) tB'):PW X (.BoolOp .And (a :: b :: rest) pos) (Ycr tA tB'):=by
 intro wh pins s σ H Q I h
 refine isTrue_and (thn (ha pins s σ H _ I h) λc s1 qz9=>?_)
 obtain⟨H1,I1,q1⟩:=qz9
 cases c with
 | true=>exact hb wh pins s1 σ H1 Q I1 q1
 | false=>exact⟨H1,I1,q1⟩
theorem Z9f(ha:PT X a tA)(hb:PW X (.BoolOp .Or (b :: rest) pos) tB'):PW X (.BoolOp .Or (a :: b :: rest) pos) (tOr tA tB'):=by
 intro wh pins s σ H Q I h
 refine isTrue_or (thn (ha pins s σ H _ I h) λc s1 qz9=>?_)
 obtain⟨H1,I1,q1⟩:=qz9
 cases c with
 | true=>exact⟨H1,I1,q1⟩
 | false=>exact hb wh pins s1 σ H1 Q I1 q1
theorem Z4p(ha:PT X a tA):PT X (.UnaryOp .Not a pos) (Ydh tA):=by
 intro pins s σ H Q I h
 exact isTrue_not (ha pins s σ H (λc H1=>Q (!c) H1) I h)
noncomputable def Z8t(ta tb:TE):TE:=λσ H Q=>ta σ H λx H1=>∃c,x= .bl c∧if c=true then tb σ H1 Q else Q (.bl false) H1
noncomputable def Z9k(ta:TE):TE:=λσ H Q=>ta σ H λx H1=>∃c,x= .bl c∧Q (.bl (!c)) H1
theorem Z4e{op}{t:TE}(h:PE X a t):PE X (.BoolOp op [a] pos) t:=λpins s σ H Q I hw=>BoolOp_one (h pins s σ H Q I hw)
theorem Z24(ha:PE X a ta)(hb:PE X (.BoolOp .And (b :: rest) pos) tb):PE X (.BoolOp .And (a :: b :: rest) pos) (Z8t ta tb):=by
 intro pins s σ H Q I h
 refine BoolOp_and (thn (ha pins s σ H _ I h) λv s1 qz9=>?_)
 obtain⟨x,H1,I1,r1,q1⟩:=qz9
 obtain⟨c,rfl,q1⟩:=q1
 cases r1
 refine VR ?_
 cases c with
 | true=>exact hb pins s1 σ H1 Q I1 q1
 | false=>exact⟨.bl false,H1,I1,rfl,q1⟩
theorem Z1u(ha:PE X a ta):PE X (.UnaryOp .Not a pos) (Z9k ta):=by
 intro pins s σ H Q I h
 refine UnaryOp_ (thn (ha pins s σ H _ I h) λv s1 qz9=>?_)
 obtain⟨x,H1,I1,r1,q1⟩:=qz9
 obtain⟨c,rfl,q1⟩:=q1
 cases r1
 exact not_of (VR ⟨.bl (!c),H1,I1,rfl,q1⟩)
noncomputable def tIf(t:TT)(ta tb:TE):TE:=λσ H Q=>t σ H λc H1=>if c=true then ta σ H1 Q else tb σ H1 Q
theorem Zt9{c:Expr}(hc:PT X c tA)(ha:PE X a ta)(hb:PE X b tb):PE X (.IfExp c a b pos) (tIf tA ta tb):=by
 intro pins s σ H Q I h
 refine wpAny_IfExp (thn (hc pins s σ H _ I h) λd s1 qz9=>?_)
 obtain⟨H1,I1,q1⟩:=qz9
 cases d with
 | true=>exact ha pins s1 σ H1 Q I1 q1
 | false=>exact hb pins s1 σ H1 Q I1 q1
end
noncomputable def SqL(K:Xb)(H:Hp)(a:Addr)(xs:List V):Prop :=
 Rd H a (.lst xs)∨
  ∃(o:Obj) (its:Array Xc) (n:Nat),K.lookup a=some o∧o.cls= .type "list"∧o.dict=none∧o.data= .seq its n∧its.size≤Xq∧Vals xs its.toList
noncomputable def SqT(K:Xb)(H:Hp)(a:Addr)(xs:List V):Prop :=
 Rd H a (.tup xs)∨
  ∃(o:Obj) (its:Array Xc) (n:Nat),K.lookup a=some o∧o.cls= .type "tuple"∧o.data= .seq its n∧its.size≤Xq∧Vals xs its.toList
noncomputable def Ycy:Xc->Option V
 | .none=>some .non
 | .bool b=>some (.bl b)
 | .int i _=>some (.int i)
 | .str x _=>some (.str x)
 | .bytes b _=>some (.byt b)
 | .float b _=>some (.flt b)
 | .ref a=>some (.ref a)
 | .type n=>some (.ty n)
 | _=>none
theorem RelV.abs{x:V}{u:Xc}(r:RelV x u):Ycy u=some x:=by
 cases x with
 | non=>cases r;rfl
 | bl _=>cases r;rfl
 | int _=>obtain⟨t,rfl⟩:=r;rfl
 | str _=>obtain⟨t,rfl⟩:=r;rfl
 | byt _=>obtain⟨t,rfl⟩:=r;rfl
 | flt _=>obtain⟨t,rfl⟩:=r;rfl
 | ref _=>cases r;rfl
 | ty _=>cases r;rfl
theorem RelV.inj{x y:V}{u:Xc}(r:RelV x u)(q:RelV y u):x=y:=QG (r.abs.symm.trans q.abs)
theorem Vals.inj{xs ys:List V}{us:List Xc}(h:Vals xs us)(k:Vals ys us):xs=ys:=by
 induction h generalizing ys with
 | nil=>cases k;rfl
 | cons r t ih=>
  cases k with
  | cons r' t'=>rw[r.inj r',ih t']
section
variable {X:Cx}{pins:List (Addr×Obj)}{σ:St}{H:Hp}{s:Xd}{a:Addr}{xs ys:List V}
theorem Inv.list(I:Inv X pins σ H s)(h:SqL X.K H a xs):∃its:List Xc,Vals xs its∧PlainL s.heap a its.toArray∧xs.length≤Xq:=by
 rcases h with h|⟨o,its,n,hk,hc,hd,hs,hz,r⟩
 ·obtain⟨z,its,n,r,e⟩:=h.ok I.hok
  exact⟨its,r,⟨_,n,e,rfl,rfl,rfl⟩,z⟩
 ·refine⟨its.toList,r,⟨o,n,I.kIn a o hk,hc,hd,by simpa using hs⟩,?_⟩
  have e:=r.length
  simp only[BR]at e
  omega
theorem Inv.tuple(I:Inv X pins σ H s)(h:SqT X.K H a xs):∃its:List Xc,Vals xs its∧IsTup s.heap a its.toArray∧xs.length≤Xq:=by
 rcases h with h|⟨o,its,n,hk,hc,hs,hz,r⟩
 ·obtain⟨z,its,r,p⟩:=h.ok I.hok
  exact⟨its,r,p,z⟩
 ·refine⟨its.toList,r,⟨o,I.kIn a o hk,hc,n,by simpa using hs⟩,?_⟩
  have e:=r.length
  simp only[BR]at e
  omega
theorem Inv.list_inj(I:Inv X pins σ H s)(h:SqL X.K H a xs)(h':SqL X.K H a ys):xs=ys:=by
 obtain⟨its,r,⟨o,n,e,_,_,d⟩,_⟩:=I.list h
 obtain⟨its',r',⟨o',n',e',_,_,d'⟩,_⟩:=I.list h'
 rw[e]at e';cases e'
 rw[d]at d'
 injection d' with d1 _
 have:its=its':=by simpa using congrArg Array.toList d1
 subst this
 exact r.inj r'
theorem Inv.tuple_inj(I:Inv X pins σ H s)(h:SqT X.K H a xs)(h':SqT X.K H a ys):xs=ys:=by
 obtain⟨its,r,⟨o,e,_,n,d⟩,_⟩:=I.tuple h
 obtain⟨its',r',⟨o',e',_,n',d'⟩,_⟩:=I.tuple h'
 rw[e]at e';cases e'
 rw[d]at d'
 injection d' with d1 _
 have:its=its':=by simpa using congrArg Array.toList d1
 subst this
 exact r.inj r'
end
noncomputable abbrev Cx.wish(X:Cx)(E:Xc->Xd->Prop):Cx:={ X with xe:=E }
noncomputable abbrev Cx.nox(X:Cx):Cx:=X.wish λ_ _=>False
theorem Cx.Ok.wish{X:Cx}(ok:X.Ok)(E:Xc->Xd->Prop):(X.wish E).Ok :=
 ⟨ok.mod,ok.kind,ok.glob,ok.blt,ok.above,ok.inj,ok.has,ok.cab,ok.hd,ok.frames,ok.stk,ok.exf,ok.bs,ok.bsz,ok.noex,ok.exfs,ok.funs,ok.frf⟩
theorem Cx.Ok.unwish{X:Cx}{E:Xc->Xd->Prop}(ok:(X.wish E).Ok):X.Ok :=
 ⟨ok.mod,ok.kind,ok.glob,ok.blt,ok.above,ok.inj,ok.has,ok.cab,ok.hd,ok.frames,ok.stk,ok.exf,ok.bs,ok.bsz,ok.noex,ok.exfs,ok.funs,ok.frf⟩
section
variable {X:Cx}{pins:List (Addr×Obj)}{σ:St}{H:Hp}{s:Xd}{E:Xc->Xd->Prop}
theorem Inv.wish(I:Inv X pins σ H s)(E:Xc->Xd->Prop):Inv (X.wish E) pins σ H s:=⟨I.ok.wish E,I.os,I.bare,I.base,I.loc,I.cell,I.free,I.freeC,I.pin,I.hok,I.len⟩
theorem Inv.unwish(I:Inv (X.wish E) pins σ H s):Inv X pins σ H s:=⟨I.ok.unwish,I.os,I.bare,I.base,I.loc,I.cell,I.free,I.freeC,I.pin,I.hok,I.len⟩
theorem SP.unwish{D:Ends}{f:Flow}{s':Xd}(h:SP (X.wish E) pins D f s'):SP X pins D f s':=by
 cases f with
 | next=>obtain⟨σ',H',I,q⟩:=h;exact⟨σ',H',I.unwish,q⟩
 | brk=>obtain⟨σ',H',I,q⟩:=h;exact⟨σ',H',I.unwish,q⟩
 | cont=>obtain⟨σ',H',I,q⟩:=h;exact⟨σ',H',I.unwish,q⟩
 | ret u=>obtain⟨v,σ',H',I,r,q⟩:=h;exact⟨v,σ',H',I.unwish,r,q⟩
theorem PSs.nox{st:List Stmt}{t:TS}(h:PSs X.nox st t):PSs X st t:=λpins s σ H D I hw=>
 Bk (h pins s σ H D (I.wish _) hw) (λ_ _ q=>q.unwish) λ_ _ z=>Vk z
end
section
variable {X:Cx}{st:Stmt}{rest:List Stmt}{t u:TS}{e:Expr}{te:TE}{pos:Pos}
noncomputable def Z66:TS:=λD σ H=>D.nx σ H
noncomputable def Ycb(t u:TS):TS:=λD σ H=>t { D with nx:=u D } σ H
theorem Zzt:PSs X [] Z66:=λ_ _ σ H _ I h=>wpAny_execs_nil ⟨σ,H,I,h⟩
theorem Zue(h1:PS X st t)(h2:PSs X rest u):PSs X (st :: rest) (Ycb t u):=by
 intro pins s σ H D I h
 refine wpAny_execs_cons (thn (h1 pins s σ H { D with nx:=u D } I h) λf s1 q=>?_)
 cases f with
 | next=>
  obtain⟨σ',H',I',q⟩:=q
  exact h2 pins s1 σ' H' D I' q
 | ret v=>exact q
 | brk=>exact q
 | cont=>exact q
theorem Z03(h1:PS X st t):PSs X [st] t:=by
 intro pins s σ H D I h
 refine wpAny_execs_cons (thn (h1 pins s σ H D I h) λf s1 q=>?_)
 cases f with
 | next=>exact wpAny_execs_nil q
 | ret v=>exact q
 | brk=>exact q
 | cont=>exact q
theorem Inv.quiet{pins:List (Addr×Obj)}{σ:St}{H:Hp}{s:Xd}(I:Inv X pins σ H s):interactive X.env=false:=by simp[interactive,I.ok.kind]
noncomputable def Z62(te:TE):TS:=λD σ H=>te σ H λ_ H1=>D.nx σ H1
theorem Z0l(he:PE X e te)(hs:Uc e none pos.line X.env=pure false:=by rfl):PS X (.Expr e pos) (Z62 te):=by
 intro pins s σ H D I h
 refine wpAny_Expr_any (thn (he pins s σ H _ I h) λv s1 qz9=>?_) I.quiet hs
 obtain⟨x,H1,I1,r1,q1⟩:=qz9
 exact⟨σ,H1,I1,q1⟩
noncomputable def Ycf(te:TE):TS:=λD σ H=>te σ H D.rt
theorem Zxl(he:PE X e te):PS X (.Return (some e) pos) (Ycf te):=by
 intro pins s σ H D I h
 refine wpAny_Return_some (thn (he pins s σ H _ I h) λv s1 qz9=>?_)
 obtain⟨x,H1,I1,r1,q1⟩:=qz9
 exact⟨x,σ,H1,I1,r1,q1⟩
noncomputable def Ydb(c:TT)(t u:TS):TS:=λD σ H=>c σ H λb H1=>if b=true then t D σ H1 else u D σ H1
theorem Z9s{c:Expr}{a b:List Stmt}{tc:TT}(hc:PT X c tc)(ha:PSs X a t)(hb:PSs X b u):PS X (.If c a b pos) (Ydb tc t u):=by
 intro pins s σ H D I h
 refine wpAny_If (thn (hc pins s σ H _ I h) λd s1 qz9=>?_)
 obtain⟨H1,I1,q1⟩:=qz9
 cases d with
 | true=>exact ha pins s1 σ H1 D I1 q1
 | false=>exact hb pins s1 σ H1 D I1 q1
noncomputable def Z27:TS:=λ_ _ _=>False
theorem Zwg:PS X st Z27:=λ_ _ _ _ _ _ h=>h.elim
end
noncomputable abbrev TG:=V->St->Hp->(St->Hp->Prop)->Prop
noncomputable abbrev TGs:=List V->St->Hp->(St->Hp->Prop)->Prop
noncomputable def PG(X:Cx)(target:Expr)(t:TG):Prop :=
 ∀(pins:List (Addr×Obj)) (s:Xd) (σ:St) (H:Hp) (v:V) (u:Xc) (Q:St->Hp->Prop),Inv X pins σ H s->RelV v u->t v σ H Q ->
  XN (X7 X.prog X.w) X.A (Ud target X.env u) (λ_ s'=>∃σ' H',Inv X pins σ' H' s'∧Q σ' H') X.xe s
noncomputable def PGs(X:Cx)(ts:List Expr)(t:TGs):Prop :=
 ∀(pins:List (Addr×Obj)) (s:Xd) (σ:St) (H:Hp) (vs:List V) (us:List Xc) (Q:St->Hp->Prop),Inv X pins σ H s->Vals vs us->t vs σ H Q ->
  XN (X7 X.prog X.w) X.A (assignInOrder ((JC ts X.env).map (·.2)) us) (λ_ s'=>∃σ' H',Inv X pins σ' H' s'∧Q σ' H') X.xe s
noncomputable abbrev Z7y:=V->V->V->Hp->(Hp->Prop)->Prop
noncomputable def Z95(X:Cx)(t:Z7y):Prop :=
 ∀(pins:List (Addr×Obj)) (s:Xd) (σ:St) (H:Hp) (o i v:V) (ov iv u:Xc) (Q:Hp->Prop),Inv X pins σ H s->RelV o ov->RelV i iv->RelV v u->t o i v H Q ->
  XN (X7 X.prog X.w) X.A (setItem ov iv u) (λ_ s'=>∃H',Inv X pins σ H' s'∧Q H') X.xe s
noncomputable abbrev TIp:=V->V->Hp->VK->Prop
section
variable {X:Cx}{pos:Pos}
noncomputable def Zrf(i:Nat):TG:=λv σ H Q=>Q (σ.set i (some v)) H
theorem Zyj{i:Nat}{x:Str}(hN:X.N.Nodup)(hi:X.N[i]? =some x)(hx:Loc X.env.scope x)(hf:X.fn x=true∨X.env.scope.names.lookup x=some .local:=by first|exact .inl rfl|exact .inr rfl|assumption):PG X (.Name x pos) (Zrf i):=by
 intro pins s σ H v u Q I r h
 exact wpAny_assign_Name (Zov I hN hi hx r (λs' I'=>⟨_,H,I',h⟩) hf)
noncomputable def Yc8:TGs:=λvs σ H Q=>vs=[]∧Q σ H
noncomputable def Z7t(t:TG)(u:TGs):TGs:=λvs σ H Q=>∃v r,vs=v :: r∧t v σ H λσ' H'=>u r σ' H' Q
theorem Zy8:PGs X [] Yc8:=by
 intro pins s σ H vs us Q I r h
 obtain⟨e,h⟩:=h
 subst e
 cases r
 exact assignInOrder_nil ⟨σ,H,I,h⟩
theorem Zuv{e:Expr}{es:List Expr}{t:TG}{u:TGs}(h1:PG X e t)(h2:PGs X es u)
  (hs:(JC (e :: es) X.env).map (·.2)=Ud e X.env :: (JC es X.env).map (·.2):=by rfl):PGs X (e :: es) (Z7t t u):=by
 intro pins s σ H vs us Q I r h
 obtain⟨v,vr,e1,h⟩:=h
 subst e1
 cases r with
 | cons r rr=>
  rw[hs]
  refine assignInOrder_cons (thn (h1 pins s σ H _ _ _ I r h) λ_ s1 qz9=>?_)
  obtain⟨σ1,H1,I1,q1⟩:=qz9
  exact h2 pins s1 σ1 H1 _ _ Q I1 rr q1
noncomputable def Yb1(K:Xb)(n:Nat)(t:TGs):TG:=λv σ H Q=>∃a xs,v= .ref a∧SqT K H a xs∧xs.length=n∧t xs σ H Q
theorem Z3v{es:List Expr}{k:Nat}{t:TGs}{n:Nat}(hc:X.calm=true)(h:PGs X es t)
  (hn:(JC es X.env).length=n:=by rfl) (hst:(JC es X.env).findIdx? (·.1)=none:=by rfl):PG X (.Tuple es k pos) (Yb1 X.K n t):=by
 intro pins s σ H v u Q I r hw
 obtain⟨a,xs,e1,hq,hl,hw⟩:=hw
 subst e1
 cases r
 obtain⟨its,rv,ht,hz⟩:=I.tuple hq
 refine assign_Tuple_tuple (I.ok.hd hc) ht (by simp[hn,←hl,rv.length]) hst λh' hx=>?_
 have I1:Inv X pins σ H { s with heap:=h' }:=I.kept (t':=s.toks) λb o e=>hx b o (Xp (Xz e)) e
 exact h pins _ σ H xs _ Q I1 (by simpa using rv) hw
noncomputable def Z7z(to ti:TE)(t:Z7y):TG:=λv σ H Q=>to σ H λo H1=>ti σ H1 λi H2=>t o i v H2 λH3=>Q σ H3
theorem Zwk{o i:Expr}{to ti:TE}{t:Z7y}(ho:PE X o to)(hi:PE X i ti)(hs:Z95 X t)
  (ha:∀v,Ud (.Subscript o i pos) X.env v=(do
   let ov←holding [v] (eval o X.env)
   let iv←holding [v,ov] (eval i X.env)
   standAt pos
   holding [v,ov,iv] (setItem ov iv v)
   release [v,ov,iv] []):=by intro _;rfl):PG X (.Subscript o i pos) (Z7z to ti t):=by
 intro pins s σ H v u Q I r h
 rw[ha]
 refine Xe (Vw (thn (ho pins s σ H _ I h) λov s1 qz9=>?_))
 obtain⟨x,H1,I1,r1,q1⟩:=qz9
 refine Xe (Vw (thn (hi pins s1 σ H1 _ I1 q1) λiv s2 qz9=>?_))
 obtain⟨y,H2,I2,r2,q2⟩:=qz9
 refine Xe (wpAny_standAt (Xe (Vw (thn (hs pins s2 σ H2 x y v ov iv u _ I2 r1 r2 r q2) λ_ s3 qz9=>?_))))
 obtain⟨H3,I3,q3⟩:=qz9
 exact wpAny_release ⟨σ,H3,I3,q3⟩
noncomputable def Z3w(te:TE)(g:TG):TS:=λD σ H=>te σ H λx H1=>g x σ H1 D.nx
theorem Zwy{tg e:Expr}{te:TE}{g:TG}(he:PE X e te)(hg:PG X tg g)(hs:swapsWithSole [tg] e pos.line X.env=pure false:=by rfl)(hw:swappedStores [tg] e X.env=pure none:=by rfl)
  (h1:(JC [tg] X.env).map (·.2)=[Ud tg X.env]:=by rfl):PS X (.Assign [tg] e pos) (Z3w te g):=by
 intro pins s σ H D I h
 refine wpAny_Assign_stores (thn (he pins s σ H _ I h) λv s1 qz9=>?_) hs hw
 obtain⟨x,H1,I1,r1,q1⟩:=qz9
 rw[h1]
 exact thn (hg pins s1 σ H1 x v _ I1 r1 q1) λ_ s2 q=>q
theorem Zww{i:Nat}{x:Str}{e:Expr}{te:TE}{pos':Pos}(hN:X.N.Nodup)(hi:X.N[i]? =some x)(hx:Loc X.env.scope x)(he:PE X e te)(hs:Uc e (some (.Name x pos')) pos.line X.env=pure false:=by rfl)(hf:X.fn x=true∨X.env.scope.names.lookup x=some .local:=by first|exact .inl rfl|exact .inr rfl|assumption) :
  PS X (.Assign [.Name x pos'] e pos) (Z3w te (Zrf i)):=by
 intro pins s σ H D I h
 refine wpAny_Assign_Name (thn (he pins s σ H _ I h) λv s1 qz9=>?_) hs
 obtain⟨y,H1,I1,r1,q1⟩:=qz9
 exact Zov I1 hN hi hx r1 (λs2 I2=>⟨_,H1,I2,q1⟩) hf
end
section
variable {X:Cx}{pos:Pos}
noncomputable def Z58(c:TT)(tb:TS):TS:=λD σ H=>∃W:Nat->St->Hp->Prop,(∃m,W m σ H)∧∀m σ H,W m σ H ->
 c σ H λb H1=>if b=true then∃N:St->Hp->Prop,(∀σ' H',N σ' H'->∃m',m'<m∧W m' σ' H')∧tb { D with nx:=N,ct:=N,bk:=D.nx } σ H1 else D.nx σ H1
theorem Zvx{c:Expr}{body:List Stmt}{tc:TT}{tb:TS}(hp:PassesOwn (X7 X.prog X.w) X.A X.env X.xe)(hc:PT X c tc)(hb:PSs X body tb):PS X (.While c body [] pos) (Z58 tc tb):=by
 intro pins s σ H D I h
 obtain⟨W,⟨m0,w0⟩,turn⟩:=h
 refine wpAny_While (codeAny_whileLoop (λn s'=>∃σ' H',Inv X pins σ' H' s'∧W n σ' H') ?_ m0 ⟨σ,H,I,w0⟩)
 rintro n s1 ⟨σ1,H1,I1,w1⟩
 refine Vi hp (thn (hc pins s1 σ1 H1 _ I1 (turn n σ1 H1 w1)) λb s2 qz9=>?_)
 obtain⟨H2,I2,q2⟩:=qz9
 cases b with
 | true=>
  obtain⟨N,hN,q2⟩:=q2
  rw[if_pos rfl]
  refine Vi hp (thn (hb pins s2 σ1 H2 _ I2 q2) λf s3 q3=>?_)
  cases f with
  | next=>
   obtain⟨σ3,H3,I3,n3⟩:=q3
   obtain⟨m',hm,w3⟩:=hN σ3 H3 n3
   exact⟨m',hm,σ3,H3,I3,w3⟩
  | cont=>
   obtain⟨σ3,H3,I3,n3⟩:=q3
   obtain⟨m',hm,w3⟩:=hN σ3 H3 n3
   exact⟨m',hm,σ3,H3,I3,w3⟩
  | brk=>exact q3
  | ret v=>exact q3
 | false=>
  rw[if_neg Xu]
  exact wpAny_execs_nil ⟨σ1,H2,I2,q2⟩
end
set_option genInjectivity false in
structure It where
 go:Nat->Hp->Prop
 yld:Nat->Hp->V->Hp->Prop
 stop:Nat->Hp->Prop
noncomputable def Zk1(X:Cx)(pins:List (Addr×Obj))(H:Hp)(b:Addr):Prop :=
 H b=none∧b≠X.env.locals∧b∉X.fs∧(b∈X.ex∨X.s₀.heap.objs.size≤b)∧(∀x c,X.env.cells.lookup x=some c->c≠b)∧∀p∈X.pn ++ pins,p.1≠b
theorem Inv.fpOk{X:Cx}{pins:List (Addr×Obj)}{σ:St}{H H':Hp}{s:Xd}{b:Addr}(I:Inv X pins σ H s)(hb:s.heap.objs.size≤b)(hn:H' b=none):Zk1 X pins H' b:=by
 refine⟨hn,XJ (Qd I.lt hb),I.nofs hb,.inr (QM I.sz hb),λx c e z=>?_,λp hp z=>?_⟩
 ·obtain⟨v,q⟩:=I.cell x c e
  exact absurd (Qd q.lt (by rw[z];exact hb)) (Nat.lt_irrefl _)
 ·exact absurd (Qd (Xz (I.pin p hp).1) (by rw[z];exact hb)) (Nat.lt_irrefl _)
structure Turn(P:XM)(w:Qo)(K:Xb)(tg:Expr)(J:It)(fp:List Addr)(it:Addr)(tn:Nat->Heap->Prop):Prop where
 mem:it∈fp
 obj:∀i h,tn i h->∀b∈fp,∃o,h.get? b=some o∧∀v,o.data≠ .cell v
 keep:∀i h h',tn i h->(∀b∈fp,∀o,h.get? b=some o->h'.get? b=some o)->tn i h'
 item:∀(X:Cx),X.prog=P->X.w=w->X.K=K->X.calm=true->∀(i:Nat) (pins:List (Addr×Obj)) (s:Xd) (σ:St) (H:Hp) (E:Xc->Xd->Prop),Inv X pins σ H s->(∀b∈fp,Zk1 X pins H b)->tn i s.heap->J.go i H ->
  XN (X7 P w) X.A (pyNext (.ref it)) (λr s1=>∃u,r=some u∧
   XN (X7 P w) X.A (Uw tg (.ref it) u) (λ_ s2=>∃x H',Inv X pins σ H' s2∧RelV x u∧J.yld i H x H'∧tn (i+1) s2.heap∧∀b∈fp,H' b=none) E s1) E s
 done:∀(X:Cx),X.prog=P->X.w=w->X.K=K->X.calm=true->∀(i:Nat) (pins:List (Addr×Obj)) (s:Xd) (σ:St) (H:Hp) (E:Xc->Xd->Prop),Inv X pins σ H s->(∀b∈fp,Zk1 X pins H b)->tn i s.heap->J.stop i H ->
  XN (X7 P w) X.A (pyNext (.ref it)) (λr s1=>r=none∧Inv X pins σ H s1) E s
 self:∀(A:Ql) (i:Nat) (s:Xd) (Q:Xc->Xd->Prop) (E:Xc->Xd->Prop),tn i s.heap->Q (.ref it) s->XN (X7 P w) A (pyIter (.ref it)) Q E s
noncomputable abbrev TI:=St->Hp->(It->Hp->Prop)->Prop
noncomputable def PIE(X:Cx)(pins:List (Addr×Obj))(σ:St)(tg:Expr)(R:It->Hp->Prop)(itv:Xc)(s2:Xd):Prop :=
 ∃(it:Addr) (fp:List Addr) (tn:Nat->Heap->Prop) (J:It) (H':Hp),itv= .ref it∧Inv X pins σ H' s2∧Turn X.prog X.w X.K tg J fp it tn∧tn 0 s2.heap∧(∀b∈fp,Zk1 X pins H' b)∧R J H'
noncomputable def PI(X:Cx)(tg iter:Expr)(wi:TI):Prop :=
 ∀(pins:List (Addr×Obj)) (s:Xd) (σ:St) (H:Hp) (R:It->Hp->Prop),Inv X pins σ H s->wi σ H R ->
  XN (X7 X.prog X.w) X.A (eval iter X.env) (λv s1=>XN (X7 X.prog X.w) X.A (pyIter v) (PIE X pins σ tg R) X.xe s1) X.xe s
theorem Zum{M:Model}{A:Ql}{E:Xc->Xd->Prop}{s:Xd}{tg:Expr}{it:Addr}{u:Xc}{o:Obj}{n:String}{vs:Array Xc}{Q:Unit->Xd->Prop}(ho:s.heap.get? it=some o)(hc:o.cls= .type n)(hd:o.data= .fields vs)
  (hn:["enumerate","zip","dict_itemiterator","dict_reverseitemiterator","odict_iterator","itertools.zip_longest","itertools.pairwise"].contains n=false) (hQ:Q () s):XN M A (Uw tg (.ref it) u) Q E s:=by
 unfold Uw
 cases tg<;>first
  | exact X5 hQ
  | (cases u<;>first
    | exact X5 hQ
    | (refine Xe (wpAny_load ho ?_)
       rw[hc,hd]
       show XN M A (if(["enumerate","zip","dict_itemiterator","dict_reverseitemiterator","odict_iterator","itertools.zip_longest","itertools.pairwise"].contains n&&vs[0]? ==some (rawInt _))=true then _ else _) Q E s
       rw[if_neg (by intro h;rw[hn,Bool.false_and]at h;cases h)]
       exact X5 hQ))
noncomputable def Itl(K:Xb)(a:Addr):It :=
 ⟨λi H=>∃xs x,SqL K H a xs∧xs[i]? =some x,λi H x H'=>H'=H∧∀xs,SqL K H a xs->xs[i]? =some x,λi H=>∃xs,SqL K H a xs∧xs.length≤i⟩
noncomputable def Itt(K:Xb)(a:Addr):It :=
 ⟨λi H=>∃xs x,SqT K H a xs∧xs[i]? =some x,λi H x H'=>H'=H∧∀xs,SqT K H a xs->xs[i]? =some x,λi H=>∃xs,SqT K H a xs∧xs.length≤i⟩
noncomputable def Itr(lo:Int)(n:Nat):It:=⟨λi _=>i<n,λi H x H'=>H'=H∧x= .int (lo+i),λi _=>n≤i⟩
theorem Zru{P:XM}{w:Qo}{K:Xb}{tg:Expr}(a it:Addr):Turn P w K tg (Itl K a) [it] it (λi h=>h.IsListIter it a i) where
 mem:=by simp
 obj:=λi h st b hb=>by
  have e:b=it:=by simpa using hb
  subst e
  obtain⟨o,e,c,d⟩:=st
  exact⟨o,e,λv z=>by rw[d]at z;cases z⟩
 keep:=λi h h' st k=>st.at λo e=>k it (by simp) o e
 item:=by
  intro X hP hw hK hc i pins s σ H E I hf st hg
  subst hP hw hK
  obtain⟨xs,x,hq,hx⟩:=hg
  obtain⟨its,rv,p,hz⟩:=I.list hq
  obtain⟨u,hu,ru⟩:=rv.get hx
  obtain⟨f0,f1,f2,f3,f4,f5⟩:=hf it (by simp)
  refine wpAny_pyNext_list_item st p.isList (x:=u) (by simpa using hu) λh' st' sb=>?_
  have I1:Inv X pins σ H { s with heap:=h' }:=I.turned (t':=s.toks) (λb o hb e=>(sb.2 b hb).trans e) f0 f1 f3 f4 f5
  obtain⟨o,e,c,d⟩:=id st'
  exact⟨u,rfl,Zum (s:={ s with heap:=h' }) e c d (by decide) ⟨x,H,I1,ru,⟨rfl,λys hy=>by rw[I.list_inj hy hq];exact hx⟩,st',λb hb=>(hf b hb).1⟩⟩
 done:=by
  intro X hP hw hK hc i pins s σ H E I hf st hg
  subst hP hw hK
  obtain⟨xs,hq,hx⟩:=hg
  obtain⟨its,rv,p,hz⟩:=I.list hq
  obtain⟨f0,f1,f2,f3,f4,f5⟩:=hf it (by simp)
  have hl:=rv.length
  exact wpAny_pyNext_list_end (I.ok.hd hc) st p.isList (by simp;omega) λh' eb=>⟨rfl,I.turned (t':=s.toks) (λb o hb e=>eb b o hb e) f0 f1 f3 f4 f5⟩
 self:=λ_ _ _ _ _ st h=>wpAny_pyIter_listiter st h
theorem Zp4{P:XM}{w:Qo}{K:Xb}{tg:Expr}(a it:Addr):Turn P w K tg (Itt K a) [it] it (λi h=>h.IsTupleIter it a i) where
 mem:=by simp
 obj:=λi h st b hb=>by
  have e:b=it:=by simpa using hb
  subst e
  obtain⟨o,e,c,d⟩:=st
  exact⟨o,e,λv z=>by rw[d]at z;cases z⟩
 keep:=λi h h' st k=>st.at λo e=>k it (by simp) o e
 item:=by
  intro X hP hw hK hc i pins s σ H E I hf st hg
  subst hP hw hK
  obtain⟨xs,x,hq,hx⟩:=hg
  obtain⟨its,rv,p,hz⟩:=I.tuple hq
  obtain⟨u,hu,ru⟩:=rv.get hx
  obtain⟨f0,f1,f2,f3,f4,f5⟩:=hf it (by simp)
  refine wpAny_pyNext_tuple_item st (show s.heap.IsTuple a its.toArray from p) (x:=u) (by simpa using hu) λh' st' sb=>?_
  have I1:Inv X pins σ H { s with heap:=h' }:=I.turned (t':=s.toks) (λb o hb e=>(sb.2 b hb).trans e) f0 f1 f3 f4 f5
  obtain⟨o,e,c,d⟩:=id st'
  exact⟨u,rfl,Zum (s:={ s with heap:=h' }) e c d (by decide) ⟨x,H,I1,ru,⟨rfl,λys hy=>by rw[I.tuple_inj hy hq];exact hx⟩,st',λb hb=>(hf b hb).1⟩⟩
 done:=by
  intro X hP hw hK hc i pins s σ H E I hf st hg
  subst hP hw hK
  obtain⟨xs,hq,hx⟩:=hg
  obtain⟨its,rv,p,hz⟩:=I.tuple hq
  obtain⟨f0,f1,f2,f3,f4,f5⟩:=hf it (by simp)
  have hl:=rv.length
  exact wpAny_pyNext_tuple_end (I.ok.hd hc) st (show s.heap.IsTuple a its.toArray from p) (by simp;omega) λh' eb=>⟨rfl,I.turned (t':=s.toks) (λb o hb e=>eb b o hb e) f0 f1 f3 f4 f5⟩
 self:=λ_ _ _ _ _ st h=>wpAny_pyIter_tupleiter st h
theorem Zpw{P:XM}{w:Qo}{K:Xb}{tg:Expr}(it:Addr)(lo:Int)(n:Nat):Turn P w K tg (Itr lo n) [it] it (λi h=>IsRangeIter h it (lo+(i:Nat)*1) ((n:Int)-(i:Nat)) 1) where
 mem:=by simp
 obj:=λi h st b hb=>by
  have e:b=it:=by simpa using hb
  subst e
  exact⟨_,st,λv z=>by
   have z':Data.fields _=Data.cell v:=z
   cases z'⟩
 keep:=λi h h' st k=>k it (by simp) _ st
 item:=by
  intro X hP hw hK hc i pins s σ H E I hf st hg
  subst hP hw hK
  obtain⟨f0,f1,f2,f3,f4,f5⟩:=hf it (by simp)
  have W:=Walks.range (prog:=X.prog) (w:=X.w) (I.ok.hd hc) it lo 1 n
  refine W.item i s _ _ hg st λv h' tk hv st' kk=>?_
  obtain⟨t,rfl⟩:=hv
  have I1:Inv X pins σ H { s with heap:=h',toks:=tk }:=I.turned (λb o hb e=>kk b o (by simpa using hb) e) f0 f1 f3 f4 f5
  refine⟨_,rfl,Zum (s:={ s with heap:=h',toks:=tk }) (n :="range_iterator") st' rfl rfl (by decide) ⟨.int (lo+i),H,I1,⟨t,?_⟩,⟨rfl,rfl⟩,st',λb hb=>(hf b hb).1⟩⟩
  rw[Int.mul_one]
 done:=by
  intro X hP hw hK hc i pins s σ H E I hf st hg
  subst hP hw hK
  obtain⟨f0,f1,f2,f3,f4,f5⟩:=hf it (by simp)
  exact wpAny_pyNext_range_end (I.ok.hd hc) st (by have:n≤i:=hg;omega) λh' eb=>⟨rfl,I.turned (t':=s.toks) (λb o hb e=>eb b o hb e) f0 f1 f3 f4 f5⟩
 self:=λ_ _ _ _ _ st h=>wpAny_pyIter_rangeiter st h
section
variable {X:Cx}{tg:Expr}
noncomputable def Z4s(K:Xb)(tl:TE):TI:=λσ H R=>tl σ H λx H1=>∃a,x= .ref a∧(∃xs,SqL K H1 a xs)∧R (Itl K a) H1
noncomputable def Ybv(K:Xb)(tl:TE):TI:=λσ H R=>tl σ H λx H1=>∃a,x= .ref a∧(∃xs,SqT K H1 a xs)∧R (Itt K a) H1
theorem Zz8{l:Expr}{tl:TE}(hl:PE X l tl):PI X tg l (Z4s X.K tl):=by
 intro pins s σ H R I h
 refine thn (hl pins s σ H _ I h) λv s1 qz9=>?_
 obtain⟨x,H1,I1,r1,q1⟩:=qz9
 obtain⟨a,e,⟨xs,hq⟩,q⟩:=q1
 subst e
 cases r1
 obtain⟨its,rv,p,hz⟩:=I1.list hq
 refine wpAny_pyIter_list p.isList ?_
 refine⟨s1.heap.objs.size,[s1.heap.objs.size],_,_,H1,rfl,I1.kept (t':=s1.toks) λb o e=>Xj _ e,Zru a _,⟨_,Qa _ rfl,rfl,rfl⟩,λb hb=>?_,q⟩
 have e:b=s1.heap.objs.size:=by simpa using hb
 subst e
 exact I1.fpOk (Qi _) (I1.hok.fresh (Qi _))
theorem Z1w{l:Expr}{tl:TE}(hl:PE X l tl):PI X tg l (Ybv X.K tl):=by
 intro pins s σ H R I h
 refine thn (hl pins s σ H _ I h) λv s1 qz9=>?_
 obtain⟨x,H1,I1,r1,q1⟩:=qz9
 obtain⟨a,e,⟨xs,hq⟩,q⟩:=q1
 subst e
 cases r1
 obtain⟨its,rv,p,hz⟩:=I1.tuple hq
 refine wpAny_pyIter_tuple (show s1.heap.IsTuple a its.toArray from p) ?_
 refine⟨s1.heap.objs.size,[s1.heap.objs.size],_,_,H1,rfl,I1.kept (t':=s1.toks) λb o e=>Xj _ e,Zp4 a _,⟨_,Qa _ rfl,rfl,rfl⟩,λb hb=>?_,q⟩
 have e:b=s1.heap.objs.size:=by simpa using hb
 subst e
 exact I1.fpOk (Qi _) (I1.hok.fresh (Qi _))
theorem Zow{pins:List (Addr×Obj)}{σ:St}{H:Hp}{s:Xd}{R:It->Hp->Prop}{E:Xc->Xd->Prop}{lo hi:Int}{t u v:Tok}{tk:Nat}(I:Inv X pins σ H s)(h1:-(2^62)≤lo)(h2:lo<2^62)(h3:-(2^62)≤hi)(h4:hi<2^62)
  (q:R (Itr lo (hi-lo).toNat) H):XN (X7 X.prog X.w) X.A (pyIter (.ref s.heap.objs.size)) (PIE X pins σ tg R) E { s with heap:=s.heap.push { cls:=.type "range",data:=.fields #[.int lo t,.int hi u,.int 1 v] },toks:=tk }:=by
 refine wpAny_pyIter_range (IsRange.new ..) (small_one h1 h2 h3 h4) ?_
 have I1:Inv X pins σ H { s with heap:=s.heap.push { cls:=.type "range",data:=.fields #[.int lo t,.int hi u,.int 1 v] },toks:=tk }:=I.kept λb o e=>Xj _ e
 refine⟨(s.heap.push { cls:=.type "range",data:=.fields #[.int lo t,.int hi u,.int 1 v] }).objs.size,[(s.heap.push { cls:=.type "range",data:=.fields #[.int lo t,.int hi u,.int 1 v] }).objs.size],_,_,H,rfl,
  I1.kept (t':=tk) λb o e=>Xj _ e,Zpw _ lo (hi-lo).toNat,?_,λb hb=>?_,q⟩
 ·have e1:lo+((0:Nat):Int)*1=lo:=by simp
  have e2:(((hi-lo).toNat:Nat):Int)-((0:Nat):Int)=Vn lo hi 1:=by rw[rangeSize_one];split<;>omega
  show IsRangeIter _ _ (lo+((0:Nat):Int)*1) ((((hi-lo).toNat:Nat):Int)-((0:Nat):Int)) 1
  rw[e1,e2]
  exact Qa _ rfl
 ·have e:b=(s.heap.push { cls:=.type "range",data:=.fields #[.int lo t,.int hi u,.int 1 v] }).objs.size:=by simpa using hb
  subst e
  exact I1.fpOk (Qi _) (I1.hok.fresh (Qi _))
noncomputable def Z7k(ta:TA):TI:=λσ H R=>ta σ H λvs H1=>∃j:Int,vs=[.int j]∧-(2^62)≤j∧j<2^62∧R (Itr 0 j.toNat) H1
noncomputable def Z64(ta:TA):TI:=λσ H R=>ta σ H λvs H1=>∃i j:Int,vs=[.int i,.int j]∧(-(2^62)≤i∧i<2^62∧-(2^62)≤j∧j<2^62)∧R (Itr i (j-i).toNat) H1
theorem Zs8{a:Expr}{ta:TA}{p pos:Pos}(hg:Gl X "range")(hm:X.mg "range"=none)(ha:PA X [a] ta)(hs:Xr [a] X.env=[(false,eval a X.env)]:=by rfl):PI X tg (.Call (.Name "range" p) [a] [] pos) (Z7k ta):=by
 intro pins s σ H R I h
 refine Call_ (Zif I hg hm boot_range (Ba (thn (ha pos pins s σ H _ I h) λus s1 qz9=>?_) hs rfl))
 obtain⟨vs,H1,I1,r1,q1⟩:=qz9
 obtain⟨j,e,q1,q2,q⟩:=q1
 subst e
 cases r1 with
 | cons r rr=>
  cases rr
  obtain⟨t,rfl⟩:=r
  exact call_range_1 (Zow I1 (by omega) (by omega) q1 q2 (by simpa using q))
theorem Zsh{a b:Expr}{ta:TA}{p pos:Pos}(hg:Gl X "range")(hm:X.mg "range"=none)(ha:PA X [a,b] ta)(hs:Xr [a,b] X.env=[(false,eval a X.env),(false,eval b X.env)]:=by rfl)(hs2:Xr [b] X.env=[(false,eval b X.env)]:=by rfl) :
  PI X tg (.Call (.Name "range" p) [a,b] [] pos) (Z64 ta):=by
 intro pins s σ H R I h
 refine Call_ (Zif I hg hm boot_range (Ba (thn (ha pos pins s σ H _ I h) λus s1 ⟨vs,H1,I1,r1,q1⟩=>?_) (by rw[hs,hs2]) (by rw[hs2];rfl)))
 obtain⟨i,j,e,⟨q1,q2,q3,q4⟩,q⟩:=q1
 subst e
 cases r1 with
 | cons r rr=>
  cases rr with
  | cons r' rr=>
   cases rr
   obtain⟨t,rfl⟩:=r
   obtain⟨t',rfl⟩:=r'
   exact call_range_2 (Zow I1 q1 q2 q3 q4 q)
noncomputable def Ycv(wi:TI)(g:TG)(tb:TS):TS:=λD σ H=>wi σ H λJ H1=>∃W:Nat->Nat->St->Hp->Prop,(∃m,W 0 m σ H1)∧∀i m σ H,W i m σ H ->
 (J.stop i H∧D.nx σ H)∨(J.go i H∧∃N:St->Hp->Prop,(∀σ' H',N σ' H'->∃m',m'<m∧W (i+1) m' σ' H')∧∀x H',J.yld i H x H'->g x σ H' λσ2 H2=>tb { D with nx:=N,ct:=N,bk:=D.nx } σ2 H2)
noncomputable def Zmb(fp:List Addr)(h:Heap):List (Addr×Obj):=fp.filterMap λb=>(h.get? b).map λo=>(b,o)
theorem Zeh{fp:List Addr}{h:Heap}{b:Addr}{o:Obj}(hb:b∈fp)(e:h.get? b=some o):(b,o)∈Zmb fp h:=List.mem_filterMap.mpr ⟨b,hb,by rw[e];rfl⟩
theorem Zsw{fp:List Addr}{h:Heap}{p:Addr×Obj}(hp:p∈Zmb fp h):p.1∈fp∧h.get? p.1=some p.2:=by
 obtain⟨b,hb,e⟩:=List.mem_filterMap.mp hp
 cases q:h.get? b with
 | none=>rw[q]at e;cases e
 | some o=>
  rw[q]at e
  have e':(b,o)=p:=QG e
  subst e'
  exact⟨hb,q⟩
theorem Inv.pinned{pins:List (Addr×Obj)}{σ:St}{H:Hp}{s:Xd}{fp:List Addr}(I:Inv X pins σ H s)(hf:∀b∈fp,Zk1 X pins H b)(ho:∀b∈fp,∃o,s.heap.get? b=some o∧∀v,o.data≠ .cell v):Inv X (pins ++ Zmb fp s.heap) σ H s :=
 I.pins_of λp hp=>(QV.mp hp).elim (λz=>I.pin p (Qw _ z)) λz=>by
  obtain⟨hb,e⟩:=Zsw z
  obtain⟨f0,f1,f2,_⟩:=hf p.1 hb
  obtain⟨o,e',d⟩:=ho p.1 hb
  rw[e]at e';cases e'
  exact⟨e,f0,f1,f2,d⟩
theorem Inv.unpinned{pins pl:List (Addr×Obj)}{σ:St}{H:Hp}{s:Xd}(I:Inv X (pins ++ pl) σ H s):Inv X pins σ H s:=I.pins_of λp hp=>I.pin p (Qw _ (Vl _ hp))
theorem Z2d{iter:Expr}{body:List Stmt}{wi:TI}{g:TG}{tb:TS}{pos:Pos}(hp:PassesOwn (X7 X.prog X.w) X.A X.env X.xe)(hc:X.calm=true)(hi:PI X tg iter wi)(hg:PG X tg g)(hb:PSs X body tb)
  (hs:∀x,Bh iter X.env x=pure x:=by intro _;rfl):PS X (.For tg iter body [] pos) (Ycv wi g tb):=by
 intro pins s σ H D I h
 refine wpAny_For (thn (hi pins s σ H _ I h) λv s1 h1=>thn h1 λitv s2 h2=>?_) hs
 obtain⟨it,fp,tn,J,H2,e,I2,T,st2,f2,W,⟨m0,w0⟩,turn⟩:=h2
 subst e
 -- what stays true of the iterator's objects through the loop
 have stat:∀{H':Hp},(∀b∈fp,H' b=none)->∀b∈fp,Zk1 X pins H' b:=λhn b hb=>⟨hn b hb,(f2 b hb).2⟩
 refine codeAny_forLoop_any (λn s'=>∃i σ' H',Inv X pins σ' H' s'∧tn i s'.heap∧(∀b∈fp,H' b=none)∧W i n σ' H') ?_ m0 ⟨0,σ,H2,I2,st2,λb hb=>(f2 b hb).1,w0⟩
 rintro n s3 ⟨i,σ3,H3,I3,st3,fr3,w3⟩
 rcases turn i n σ3 H3 w3 with⟨stop,qn⟩|⟨go,N,hN,step⟩
 ·refine Vi hp (thn (T.done X rfl rfl rfl hc i pins s3 σ3 H3 X.xe I3 (stat fr3) st3 stop) λr s4 qz9=>?_)
  obtain⟨hr,I4⟩:=qz9
  subst hr
  exact wpAny_execs_nil ⟨σ3,H3,I4,qn⟩
 ·refine Vi hp (thn (T.item X rfl rfl rfl hc i pins s3 σ3 H3 X.xe I3 (stat fr3) st3 go) λr s4 qz9=>?_)
  obtain⟨u,hr,h4⟩:=qz9
  subst hr
  refine Vi hp (thn h4 λ_ s5 qz9=>?_)
  obtain⟨x,H5,I5,r5,y5,st5,fr5⟩:=qz9
  have I5':=I5.pinned (stat fr5) (T.obj _ _ st5)
  refine Vi hp (thn (hg _ s5 σ3 H5 x u _ I5' r5 (step x H5 y5)) λ_ s6 qz9=>?_)
  obtain⟨σ6,H6,I6,q6⟩:=qz9
  refine Vi hp (thn (hb _ s6 σ6 H6 _ I6 q6) λf s7 q7=>?_)
  have again:∀{σ7:St} {H7:Hp},Inv X (pins ++ Zmb fp s5.heap) σ7 H7 s7->N σ7 H7->∃m,m<n∧∃i σ' H',Inv X pins σ' H' s7∧tn i s7.heap∧(∀b∈fp,H' b=none)∧W i m σ' H':=fun{σ7 H7} I7 n7=>by
   obtain⟨m',hm,w7⟩:=hN σ7 H7 n7
   refine⟨m',hm,i+1,σ7,H7,I7.unpinned,T.keep _ _ _ st5 λb hb o e=>(I7.pin (b,o) (Qw _ (Qw _ (Zeh hb e)))).1,λb hb=>?_,w7⟩
   obtain⟨o,e,d⟩:=T.obj _ _ st5 b hb
   exact(I7.pin (b,o) (Qw _ (Qw _ (Zeh hb e)))).2.1
  cases f with
  | next=>obtain⟨σ7,H7,I7,n7⟩:=q7;exact again I7 n7
  | cont=>obtain⟨σ7,H7,I7,n7⟩:=q7;exact again I7 n7
  | brk=>obtain⟨σ7,H7,I7,q7⟩:=q7;exact⟨σ7,H7,I7.unpinned,q7⟩
  | ret v=>obtain⟨x7,σ7,H7,I7,r7,q7⟩:=q7;exact⟨x7,σ7,H7,I7.unpinned,r7,q7⟩
end
noncomputable abbrev R2:=V->V->Hp->VK->Prop
noncomputable def OpR(X:Cx)(f:Xc->Xc->Sem Xc)(r:R2):Prop :=
 ∀(pins:List (Addr×Obj)) (s:Xd) (σ:St) (H:Hp) (x y:V) (v u:Xc) (Q:VK),Inv X pins σ H s->RelV x v->RelV y u->r x y H Q ->
  XN (X7 X.prog X.w) X.A (f v u) (EP X pins σ Q) X.xe s
noncomputable def UnR(X:Cx)(f:Xc->Sem Xc)(r:V->Hp->VK->Prop):Prop :=
 ∀(pins:List (Addr×Obj)) (s:Xd) (σ:St) (H:Hp) (x:V) (v:Xc) (Q:VK),Inv X pins σ H s->RelV x v->r x H Q ->
  XN (X7 X.prog X.w) X.A (f v) (EP X pins σ Q) X.xe s
noncomputable def Zcl(X:Cx)(f:Xc)(r:List V->Hp->VK->Prop):Prop :=
 ∀(pins:List (Addr×Obj)) (s:Xd) (σ:St) (H:Hp) (xs:List V) (us:List Xc) (Q:VK),Inv X pins σ H s->Vals xs us->r xs H Q ->
  XN (X7 X.prog X.w) X.A (call f us) (EP X pins σ Q) X.xe s
noncomputable def Yde(X:Cx)(r:V->Hp->(Bool->Hp->Prop)->Prop):Prop :=
 ∀(pins:List (Addr×Obj)) (s:Xd) (σ:St) (H:Hp) (x:V) (v:Xc) (Q:Bool->Hp->Prop),Inv X pins σ H s->RelV x v->r x H Q ->
  XN (X7 X.prog X.w) X.A (truthy v) (TP X pins σ Q) X.xe s
noncomputable def tOp(r:R2)(ta tb:TE):TE:=λσ H Q=>ta σ H λx H1=>tb σ H1 λy H2=>r x y H2 Q
noncomputable def tUn(r:V->Hp->VK->Prop)(ta:TE):TE:=λσ H Q=>ta σ H λx H1=>r x H1 Q
noncomputable def rI(C:Int->Int->Prop)(g:Int->Int->V):R2:=λx y H Q=>∃i j,x= .int i∧y= .int j∧C i j∧Q (g i j) H
noncomputable def rI0(g:Int->Int->V):R2:=λx y H Q=>∃i j,x= .int i∧y= .int j∧Q (g i j) H
noncomputable def rU(g:Int->V):V->Hp->VK->Prop:=λx H Q=>∃i,x= .int i∧Q (g i) H
section
variable {X:Cx}{a b c:Expr}{ta tb tc:TE}{pos:Pos}
theorem Z9r(ha:PE X a ta)(hb:PE X b tb){pins:List (Addr×Obj)}{s:Xd}{σ:St}{H:Hp}{R:V->V->Hp->Prop}(I:Inv X pins σ H s)
  (h:ta σ H λx H1=>tb σ H1 λy H2=>R x y H2) {Q:Xc->Xd->Prop} {f:Xc->Xc->Sem Xc}
  (hf:∀v u s2 x y H2,Inv X pins σ H2 s2->RelV x v->RelV y u->R x y H2->XN (X7 X.prog X.w) X.A (f v u) Q X.xe s2) :
  XN (X7 X.prog X.w) X.A (eval a X.env) (λv s₁=>XN (X7 X.prog X.w) X.A (eval b X.env) (λu s₂=>XN (X7 X.prog X.w) X.A (f v u) Q X.xe s₂) X.xe s₁) X.xe s:=by
 refine thn (ha pins s σ H _ I h) λv s1 qz9=>?_
 obtain⟨x,H1,I1,r1,q1⟩:=qz9
 refine thn (hb pins s1 σ H1 _ I1 q1) λu s2 qz9=>?_
 obtain⟨y,H2,I2,r2,q2⟩:=qz9
 exact hf v u s2 x y H2 I2 r1 r2 q2
theorem Zx8{op:Operator}{r:R2}(ho:OpR X (Vx op) r)(ha:PE X a ta)(hb:PE X b tb):PE X (.BinOp a op b pos) (tOp r ta tb):=by
 intro pins s σ H Q I h
 exact wpAny_BinOp (Z9r ha hb I h λv u s2 x y H2 I2 rx ry q=>ho pins s2 σ H2 x y v u Q I2 rx ry q)
theorem Z60{op:UnaryOp}{r:V->Hp->VK->Prop}(ho:UnR X (unaryOp op) r)(ha:PE X a ta):PE X (.UnaryOp op a pos) (tUn r ta):=by
 intro pins s σ H Q I h
 refine UnaryOp_ (thn (ha pins s σ H _ I h) λv s1 qz9=>?_)
 obtain⟨x,H1,I1,r1,q1⟩:=qz9
 exact ho pins s1 σ H1 x v Q I1 r1 q1
theorem opI{f:Xc->Xc->Sem Xc}{C:Int->Int->Prop}{g:Int->Int->Int}
  (rule:∀(i j:Int) (t u:Tok) (s:Xd) (Q:Xc->Xd->Prop) (E:Xc->Xd->Prop),C i j->Q (.int (g i j) s.toks) { s with toks:=s.toks+1 }->XN (X7 X.prog X.w) X.A (f (.int i t) (.int j u)) Q E s) :
  OpR X f (rI C λi j=>.int (g i j)):=by
 intro pins s σ H x y v u Q I rx ry h
 obtain⟨i,j,rfl,rfl,hc,q⟩:=h
 obtain⟨t,rfl⟩:=rx
 obtain⟨t',rfl⟩:=ry
 exact rule i j t t' s _ _ hc ⟨.int (g i j),H,I.tok _,⟨_,rfl⟩,q⟩
theorem Ybf{f:Xc->Xc->Sem Xc}{g:Int->Int->Int}
  (rule:∀(i j:Int) (t u:Tok) (s:Xd) (Q:Xc->Xd->Prop) (E:Xc->Xd->Prop),Q (.int (g i j) s.toks) { s with toks:=s.toks+1 }->XN (X7 X.prog X.w) X.A (f (.int i t) (.int j u)) Q E s) :
  OpR X f (rI0 λi j=>.int (g i j)):=by
 intro pins s σ H x y v u Q I rx ry h
 obtain⟨i,j,rfl,rfl,q⟩:=h
 obtain⟨t,rfl⟩:=rx
 obtain⟨t',rfl⟩:=ry
 exact rule i j t t' s _ _ ⟨.int (g i j),H,I.tok _,⟨_,rfl⟩,q⟩
theorem Z6z{f:Xc->Xc->Sem Xc}{g:Int->Int->Bool}
  (rule:∀(i j:Int) (t u:Tok) (s:Xd) (Q:Xc->Xd->Prop) (E:Xc->Xd->Prop),Q (.bool (g i j)) s->XN (X7 X.prog X.w) X.A (f (.int i t) (.int j u)) Q E s) :
  OpR X f (rI0 λi j=>.bl (g i j)):=by
 intro pins s σ H x y v u Q I rx ry h
 obtain⟨i,j,rfl,rfl,q⟩:=h
 obtain⟨t,rfl⟩:=rx
 obtain⟨t',rfl⟩:=ry
 exact rule i j t t' s _ _ ⟨.bl (g i j),H,I,rfl,q⟩
noncomputable def Z6c(i j:Int):Prop:=0≤j∧j≤1000000∧i.natAbs<2^64
noncomputable def CMul(i j:Int):Prop:=(-(2^64)<i∧i<2^64)∨(-(2^64)<j∧j<2^64)
theorem CMul.ok{i j:Int}(h:CMul i j):IntMulOk i j:=by
 rcases h with⟨h1,h2⟩|⟨h1,h2⟩
 ·exact .of_left (intBits_le_64 h1 h2)
 ·exact .of_right (intBits_le_64 h1 h2)
theorem Z3a:OpR X (Vx .Add) (rI0 λi j=>.int (i+j)):=Ybf λ_ _ _ _ _ _ _ q=>add_int q
theorem Z1t:OpR X (Vx .Sub) (rI0 λi j=>.int (i-j)):=Ybf λ_ _ _ _ _ _ _ q=>sub_int q
theorem Z1c:OpR X (Vx .Mod) (rI (λ_ j=>j≠0) λi j=>.int (i.fmod j)):=opI λ_ _ _ _ _ _ _ hc q=>mod_int' hc q
theorem Z4n:OpR X (Vx .Pow) (rI Z6c λi j=>.int (i^j.toNat)):=opI λ_ _ _ _ _ _ _ hc q=>pow_int_small hc.1 hc.2.1 hc.2.2 q
theorem unI{f:Xc->Sem Xc}{g:Int->Int}
  (rule:∀(i:Int) (t:Tok) (s:Xd) (Q:Xc->Xd->Prop) (E:Xc->Xd->Prop),Q (.int (g i) s.toks) { s with toks:=s.toks+1 }->XN (X7 X.prog X.w) X.A (f (.int i t)) Q E s) :
  UnR X f (rU λi=>.int (g i)):=by
 intro pins s σ H x v Q I rx h
 obtain⟨i,rfl,q⟩:=h
 obtain⟨t,rfl⟩:=rx
 exact rule i t s _ _ ⟨.int (g i),H,I.tok _,⟨_,rfl⟩,q⟩
theorem Z32:UnR X (unaryOp .USub) (rU λi=>.int (-i)):=unI λ_ _ _ _ _ q=>neg_int q
end
section
variable {X:Cx}{a b c:Expr}{ta tb tc:TE}{pos:Pos}
theorem Z3y{pins:List (Addr×Obj)}{σ:St}{H:Hp}{s:Xd}{Q:VK}{k k':Bool}(I:Inv X pins σ H s)(q:Q (.bl k) H)(e:k=k'):EP X pins σ Q (.bool k') s:=by
 subst e
 exact⟨.bl k,H,I,rfl,q⟩
theorem Zxz:OpR X (Bj .Lt) (rI0 λi j=>.bl (decide (i<j))):=Z6z λ_ _ _ _ _ _ _ q=>lt_int q
theorem Zvu:OpR X (Bj .Gt) (rI0 λi j=>.bl (decide (j<i))):=Z6z λ_ _ _ _ _ _ _ q=>gt_int q
theorem Zzc:OpR X (Bj .GtE) (rI0 λi j=>.bl (decide (j≤i))):=Z6z λ_ _ _ _ _ _ _ q=>ge_int q
theorem W7(b:Expr){op:CmpOp}(h:op≠ .In:=by decide)(h2:op≠ .NotIn:=by decide):Uh op b=false:=by
 have e1:(op==CmpOp.In)=false:=by cases op<;>first|rfl|exact absurd rfl h
 have e2:(op==CmpOp.NotIn)=false:=by cases op<;>first|rfl|exact absurd rfl h2
 cases b<;>simp[Uh,e1,e2]
theorem Z0i{op:CmpOp}{r:R2}(ho:OpR X (Bj op) r)(ha:PE X a ta)(hb:PE X b tb)(hm:Uh op b=false):PE X (.Compare a [op] [b] pos) (tOp r ta tb):=by
 intro pins s σ H Q I h
 exact wpAny_Compare1 (Z9r ha hb I h λv u s2 x y H2 I2 rx ry q=>ho pins s2 σ H2 x y v u Q I2 rx ry q) hm
noncomputable def Z3h(t:TE):TT:=λσ H Q=>t σ H λx H'=>∃k,x= .bl k∧Q k H'
theorem Z08{op:CmpOp}{r:R2}(ho:OpR X (Bj op) r)(ha:PE X a ta)(hb:PE X b tb)(hm:Uh op b=false):PT X (.Compare a [op] [b] pos) (Z3h (tOp r ta tb)):=by
 intro pins s σ H Q I h
 refine wpAny_isTrue_Compare1 (thn (ha pins s σ H _ I h) λv s1 ⟨x,H1,I1,r1,q1⟩=>thn (hb pins s1 σ H1 _ I1 q1) λu s2 ⟨y,H2,I2,r2,q2⟩=>
  thn (ho pins s2 σ H2 x y v u _ I2 r1 r2 q2) λc s3 ⟨z,H3,I3,r3,k,e,q3⟩=>?_) hm
 subst e
 cases r3
 exact VR ⟨H3,I3,q3⟩
noncomputable def Z9n(K:Xb)(x:V)(H:Hp)(k:Bool):Prop :=
 match x with
 | .non=>k=false
 | .bl b=>k=b
 | .int i=>k=(i !=0)
 | .str y=>y.length≤Xq∧k=((y.length:Int) !=0)
 | .byt y=>y.size≤Xq∧k=((y.size:Int) !=0)
 | .ref p=>(∃xs,SqL K H p xs∧k= !xs.isEmpty)∨(∃xs,SqT K H p xs∧k= !xs.isEmpty)∨∃kvs,H p=some (.dK kvs)∧k= !kvs.isEmpty
 | _=>False
theorem Zps{κ:Type}{kvs:List (κ×V)}{vs:List (κ×Xc)}(r:KV kvs vs):(!vs.isEmpty)= !kvs.isEmpty:=by
 cases r<;>rfl
theorem Zkd{xs:List V}{its:List Xc}(r:Vals xs its):(!its.toArray.isEmpty)= !xs.isEmpty:=by
 cases r<;>simp
theorem Zki:(Xq:Nat)<2^63:=by rw[Qe];decide
theorem Z3p:Yde X (λx H Q=>∃k,Z9n X.K x H k∧Q k H):=by
 intro pins s σ H x v Q I rx h
 obtain⟨k,e,q⟩:=h
 have hl:=Zki
 have hs:Xq=16777216:=Qe
 cases x with
 | non=>
  cases rx
  have e':k=false:=e
  subst e'
  exact truthy_none ⟨H,I,q⟩
 | bl b=>
  cases rx
  have e':k=b:=e
  subst e'
  exact VR ⟨H,I,q⟩
 | int i=>
  obtain⟨t,rfl⟩:=rx
  have e':k=(i !=0):=e
  subst e'
  exact PySem.P.truthy_int ⟨H,I,q⟩
 | str y=>
  obtain⟨t,rfl⟩:=rx
  obtain⟨hy,e'⟩:y.length≤Xq∧k=((y.length:Int) !=0):=e
  subst e'
  exact PySem.P.truthy_str (by omega) ⟨H,I.tok _,q⟩
 | byt y=>
  obtain⟨t,rfl⟩:=rx
  obtain⟨hy,e'⟩:y.size≤Xq∧k=((y.size:Int) !=0):=e
  subst e'
  exact PySem.W.truthy_bytes (by omega) ⟨H,I.tok _,q⟩
 | ref p=>
  cases rx
  have e':(∃xs,SqL X.K H p xs∧k= !xs.isEmpty)∨(∃xs,SqT X.K H p xs∧k= !xs.isEmpty)∨∃kvs,H p=some (.dK kvs)∧k= !kvs.isEmpty:=e
  rcases e' with⟨xs,hx,e'⟩|⟨xs,hx,e'⟩|⟨kvs,hx,e'⟩
  ·subst e'
   obtain⟨its,r,pl,hz⟩:=I.list hx
   have hlen:=r.length
   exact wpAny_truthy_list pl.isList (by simp only[Xx];omega) ⟨H,I.tok _,by rw[Zkd r];exact q⟩
  ·subst e'
   obtain⟨its,r,pl,hz⟩:=I.tuple hx
   have hlen:=r.length
   exact truthy_tuple pl (by simp only[Xx];omega) ⟨H,I.tok _,by rw[Zkd r];exact q⟩
  ·subst e'
   obtain⟨hz,hS,vs,r,m⟩:kvs.length≤Xq∧(p==sysModules)=false∧∃vs,KV kvs vs∧s.heap.DictOf (Zn4 X.prog X.w) p vs:=I.hok p _ hx
   have hlen:kvs.length=vs.length:=Paired.length r
   exact wpAny_truthy_dict hS m (by omega) ⟨H,I.tok _,by rw[Zps r];exact q⟩
 | _=>exact(show False from e).elim
theorem Zuh(ha:PE X a ta)(he:∀whole,isTrue a X.env whole=(do let v←whole;standAt a.pos;holding [v] (truthy v))) :
  PT X a (λσ H Q=>ta σ H λx H'=>∃k,Z9n X.K x H' k∧Q k H'):=by
 intro pins s σ H Q I h
 refine isTrue_plain (thn (ha pins s σ H _ I h) λv s1 qz9=>?_) (he _)
 obtain⟨x,H1,I1,r1,q1⟩:=qz9
 exact Z3p pins s1 σ H1 x v Q I1 r1 q1
theorem vals1{x:V}{us:List Xc}(r:Vals [x] us):∃u,us=[u]∧RelV x u:=by
 cases r with
 | cons r1 r2=>cases r2;exact⟨_,rfl,r1⟩
theorem vals2{x y:V}{us:List Xc}(r:Vals [x,y] us):∃u w',us=[u,w']∧RelV x u∧RelV y w':=by
 cases r with
 | cons r1 r2=>
  cases r2 with
  | cons r3 r4=>cases r4;exact⟨_,_,rfl,r1,r3⟩
theorem Zlm:Zcl X (.builtin "abs") (λxs H Q=>∃i,xs=[.int i]∧Q (.int (if i<0 then -i else i)) H):=by
 intro pins s σ H xs us Q I r h
 obtain⟨i,rfl,q⟩:=h
 obtain⟨u,rfl,t,rfl⟩:=vals1 r
 exact call_abs_int λu tk=>⟨.int (if i<0 then -i else i),H,I.tok _,⟨_,rfl⟩,q⟩
theorem Zfq(hc:X.calm=true):Zcl X (.builtin "max") (λxs H Q=>∃i j,xs=[.int i,.int j]∧Q (.int (if j>i then j else i)) H):=by
 intro pins s σ H xs us Q I r h
 obtain⟨i,j,rfl,q⟩:=h
 obtain⟨u,w',rfl,⟨t,rfl⟩,⟨t',rfl⟩⟩:=vals2 r
 refine max_two_ints (I.ok.hd hc) λh' tk k=>⟨_,H,I.kept k,?_,q⟩
 by_cases hj:j>i
 ·rw[if_pos hj,if_pos hj];exact⟨_,rfl⟩
 ·rw[if_neg hj,if_neg hj];exact⟨_,rfl⟩
theorem Zlv(hc:X.calm=true):Zcl X (.builtin "min") (λxs H Q=>∃i j,xs=[.int i,.int j]∧Q (.int (if j<i then j else i)) H):=by
 intro pins s σ H xs us Q I r h
 obtain⟨i,j,rfl,q⟩:=h
 obtain⟨u,w',rfl,⟨t,rfl⟩,⟨t',rfl⟩⟩:=vals2 r
 refine min_two_ints (I.ok.hd hc) λh' tk k=>⟨_,H,I.kept k,?_,q⟩
 by_cases hj:j<i
 ·rw[if_pos hj,if_pos hj];exact⟨_,rfl⟩
 ·rw[if_neg hj,if_neg hj];exact⟨_,rfl⟩
theorem Zfp:Zcl X (.type "int") (λxs H Q=>(∃i,xs=[.int i]∧Q (.int i) H)∨∃k,xs=[.bl k]∧Q (.int (if k then 1 else 0)) H):=by
 intro pins s σ H xs us Q I r h
 rcases h with⟨i,rfl,q⟩|⟨k,rfl,q⟩
 ·obtain⟨u,rfl,t,rfl⟩:=vals1 r
  exact call_int_int ⟨.int i,H,I,⟨_,rfl⟩,q⟩
 ·obtain⟨u,rfl,r1⟩:=vals1 r
  cases r1
  exact call_int_bool ⟨.int (if k then 1 else 0),H,I.tok _,⟨_,rfl⟩,q⟩
end
structure ObjM(h:Heap)(x dx C:Addr)(mA:Str->Option Xc):Prop where
 obj:h.get? x=some (PySem.W.instObj C dx)
 ns:h.Ns1 dx mA
 ne:dx≠x
theorem Zr9{h:Heap}{dx:Addr}{mA:Str->Option Xc}(n:h.Ns1 dx mA):∃od,h.get? dx=some od∧∀name,PySem.W.lookIn name od=some (mA name):=by
 obtain⟨o,es,ep,ho,hd,hk,_,hm⟩:=n
 refine⟨o,ho,λname=>?_⟩
 have e:=hm name
 unfold nsFind findBy at e
 rw[←Array.find?_toList]at e
 unfold PySem.W.lookIn
 rw[hd]
 dsimp only
 split
 ·rename_i y q
  rw[q]at e
  exact congrArg some e
 ·rename_i q
  rw[q]at e
  have a:es.toList.any (·.refKey)=false:=by
   rw[List.any_eq_false]
   intro y hy
   obtain⟨z,t,hkey⟩:=hk y (Array.mem_toList_iff.mp hy)
   simp[DictEntry.refKey,hkey]
  have a':¬es.toList.any (·.refKey)=true:=by rw[a];exact Xu
  rw[if_neg a']
  exact congrArg some e
theorem ObjM.look{h:Heap}{x dx C:Addr}{mA:Str->Option Xc}(I:ObjM h x dx C mA):∃od,PySem.W.InstAt h x (PySem.W.instObj C dx) C (some od)∧∀name,PySem.W.lookIn name od=some (mA name) :=
 let⟨od,ho,hl⟩:=Zr9 I.ns
 ⟨od,⟨I.obj,rfl,rfl,ho⟩,hl⟩
section
variable {prog:XM}{w:Qo}{A:Ql}{E:Xc->Xd->Prop}{s:Xd}{K:Xb}{x dx C f:Addr}{mA:Str->Option Xc}{name:Str}{v:Xc}
end
section
variable {P:XM}{w:Qo}{H H':Hp}{h h':Heap}{a C dx:Addr}{fs fs':List (Str×V)}
theorem Zyb(hok:HOk P w H h)(e:H a=some (.ins C dx fs)):∃mA,ObjM h a dx C mA∧(∀f,RelO (fs.lookup f) (mA f))∧PySem.Within mA (fs.map (·.1))∧fs.length≤1000∧H dx=some (.own a):=by
 obtain⟨d,z,ne,ob,mA,n,r,q⟩:=(show ObjOk P w H h a (.ins C dx fs)from hok a _ e)
 exact⟨mA,⟨ob,n,ne⟩,r,q,z,d⟩
end
structure Cls(K:Xb)(C:Addr):Prop where
 pg:PySem.W.plainGet K C Str.empty=true
 hd:PySem.W.hasDictIn K C=true
 po:PySem.W.plainOver K C=true
 sa:BL K (.ref C) "__setattr__"=some (some (.builtin "object.__setattr__"))
theorem Cls.get{K:Xb}{C:Addr}(c:Cls K C)(f:Str):PySem.W.plainGet K C f=true:=c.pg
structure Con(K:Xb)(C:Addr)(f:Str)(v:V)(u:Xc):Prop where
 at_:BL K (.ref C) f=some (some u)
 rel:RelV v u
 get:PySem.W.specialIn K u "__get__"=some none
 cp:PySem.W.copiedNames.contains f=false
structure Meth(K:Xb)(C:Addr)(m:Str)(f:Addr):Prop where
 at_:BL K (.ref C) m=some (some (.ref f))
 fn:PySem.W.isFn K (.ref f)=true
 kp:Vh K (.ref f)=true
section
variable {X:Cx}{pins:List (Addr×Obj)}{σ:St}{H:Hp}{s:Xd}{a C dx:Addr}{fs:List (Str×V)}{f:Str}{v:V}{A:Ql}{E:Xc->Xd->Prop}
end
section
variable {X:Cx}{o e value:Expr}{f:Str}{pos pos' tpos:Pos}{ta tv:TE}
end
section
variable {X:Cx}{pins:List (Addr×Obj)}{σ:St}{H:Hp}{s:Xd}{A:Ql}{E:Xc->Xd->Prop}{Q:Xc->Xd->Prop}{c:Xc}{b:Bool}
inductive Zqn(K:Xb)(H:Hp):V->Xc->Prop where
 | non:Zqn K H .non (.type "NoneType")
 | bl (x:Bool):Zqn K H (.bl x) (.type "bool")
 | int (i:Int):Zqn K H (.int i) (.type "int")
 | str (x:Str):Zqn K H (.str x) (.type "str")
 | flt (x:UInt64):Zqn K H (.flt x) (.type "float")
 | lst {a:Addr} {xs:List V} (e:H a=some (.lst xs)):Zqn K H (.ref a) (.type "list")
 | frz {a:Addr} {o:Obj} {xs:List V} (e:H a=some (.frz o (.lst xs))):Zqn K H (.ref a) (.type "list")
 | tup {a:Addr} {xs:List V} (e:H a=some (.tup xs)):Zqn K H (.ref a) (.type "tuple")
 | dK {a:Addr} {kvs:List (Key×V)} (e:H a=some (.dK kvs)):Zqn K H (.ref a) (.type "dict")
 | dT {a:Addr} {kvs:List (List Key×V)} (e:H a=some (.dT kvs)):Zqn K H (.ref a) (.type "dict")
 | ins {a C dx:Addr} {fs:List (Str×V)} (e:H a=some (.ins C dx fs)) (cl:Cls K C) (ha:BL K (.ref C) "__class__"=some (some (.builtin "object.__class__")))
   (hn:PySem.W.specialIn K (.builtin "object.__class__") "__get__"=some (some (.builtin "getset_descriptor.__get__"))) (htk:PySem.W.takesIn K (.builtin "object.__class__")=some true)
   (hm:PySem.W.mroIn K C (.type "object")=some true):Zqn K H (.ref a) (.ref C)
theorem Zaw{x:V}{u t:Xc}(I:Inv X pins σ H s)(rx:RelV x u)(ty:Zqn X.K H x t)(e:BK X.K t c=some b)(h:∀tk,Q (.bool b) { s with toks:=tk }) :
  XN (X7 X.prog X.w) A (call (.builtin "isinstance") [u,c]) Q E s:=by
 cases ty with
 | non=>cases(show u=QH from rx);exact Q5 PySem.W.kitx_none I.kIn Ur e (λz=>nomatch z) h
 | bl y=>cases(show u=Ul y from rx);exact Q5 PySem.W.kitx_bool I.kIn Ur e (λz=>nomatch z) h
 | int i=>obtain⟨t,q⟩:=(show∃t,u=Value.int i t from rx);cases q;exact Q5 PySem.W.kitx_int I.kIn Ur e (λz=>nomatch z) h
 | str y=>obtain⟨t,q⟩:=(show∃t,u=Value.str y t from rx);cases q;exact Q5 PySem.W.kitx_str I.kIn Ur e (λz=>nomatch z) h
 | flt y=>obtain⟨t,q⟩:=(show∃t,u=Xc.float y t from rx);cases q;exact Q5 PySem.W.kitx_float I.kIn Ur e (λz=>nomatch z) h
 | @lst a xs ea=>
  cases(show u=Q4 a from rx)
  obtain⟨_,_,n,_,h1⟩:=(show ObjOk X.prog X.w H s.heap a (.lst xs)from I.hok a _ ea)
  exact Q5 PySem.W.kitx_list I.kIn ⟨_,h1,rfl⟩ e (λz=>nomatch z) h
 | @frz a ob xs ea=>
  cases(show u=Q4 a from rx)
  obtain⟨_,_,_,n,_,h1⟩:=(show ObjOk X.prog X.w H s.heap a (.frz ob (.lst xs))from I.hok a _ ea)
  exact Q5 PySem.W.kitx_list I.kIn ⟨_,h1,rfl⟩ e (λz=>nomatch z) h
 | @tup a xs ea=>
  cases(show u=Q4 a from rx)
  obtain⟨_,_,_,p⟩:=(show ObjOk X.prog X.w H s.heap a (.tup xs)from I.hok a _ ea)
  obtain⟨o,h1,h2,_⟩:=p
  exact Q5 PySem.W.kitx_tuple I.kIn ⟨o,h1,h2⟩ e (λz=>nomatch z) h
 | @dK a kvs ea=>
  cases(show u=Q4 a from rx)
  obtain⟨_,_,vs,_,p⟩:=(show ObjOk X.prog X.w H s.heap a (.dK kvs)from I.hok a _ ea)
  obtain⟨o,es,ep,h1,h2,_⟩:=p
  exact Q5 PySem.W.kitx_dict I.kIn ⟨o,h1,h2.1⟩ e (λz=>nomatch z) h
 | @dT a kvs ea=>
  cases(show u=Q4 a from rx)
  obtain⟨_,_,xs,_,o,es,ep,h1,h2,_⟩:=(show ObjOk X.prog X.w H s.heap a (.dT kvs)from I.hok a _ ea)
  exact Q5 PySem.W.kitx_dict I.kIn ⟨o,h1,h2.1⟩ e (λz=>nomatch z) h
 | @ins a C dx fs ea cl ha hn htk hm=>
  cases(show u=Q4 a from rx)
  obtain⟨mA,O,_⟩:=Zyb I.hok ea
  obtain⟨od,J,_⟩:=O.look
  exact Q5 (PySem.W.kitx_own (cl.get _) cl.hd ha hn htk hm) I.kIn J e (λz=>nomatch z) h
end
structure Room(k:Nat)(A:Ql):Prop where
 hd:A.handled=none
 dp:A.depth+3*k+5<recursionLimit
 un:A.units+16*k+200<cLine
theorem Room.mono{j k:Nat}{A:Ql}(r:Room k A)(h:j≤k):Room j A:=⟨r.hd,by have:=r.dp;omega,by have:=r.un;omega⟩
theorem Room.deeper{k:Nat}{A:Ql}(r:Room (k+1) A)(env:Env):Room k (A.deeper env) :=
 ⟨r.hd,by have:=r.dp;show A.depth+1+3*k+5<_;omega,by have:=r.un;show A.units+3+16*k+200<_;omega⟩
theorem Room.depth{k:Nat}{A:Ql}(r:Room k A):A.depth<recursionLimit:=by have:=r.dp;omega
theorem Room.units{k:Nat}{A:Ql}(r:Room k A):A.units+64<cLine:=by have:=r.un;omega
noncomputable def Ybz:TA:=λ_ H Q=>Q [] H
noncomputable def Z7e(ta:TE)(tr:TA):TA:=λσ H Q=>ta σ H λx H1=>tr σ H1 λxs H2=>Q (x :: xs) H2
section
variable {X:Cx}{e:Expr}{es:List Expr}{te:TE}{t:TA}{pos:Pos}
theorem Zpm:PA X [] Ybz:=λ_ _ _ _ H Q I h=>Calls.spliced_nil ⟨[],H,I,.nil,h⟩
theorem Zjb(ha:PE X e te)(hr:PA X es t)(hs:Xr (e :: es) X.env=(false,eval e X.env) :: Xr es X.env:=by rfl):PA X (e :: es) (Z7e te t):=by
 intro pos pins s σ H Q I h
 rw[hs]
 show XN _ _ (spliced ((false,eval e X.env) :: BJ pos (Xr es X.env))) _ _ s
 refine Calls.spliced_cons (thn (ha pins s σ H _ I h) λu s1 qz9=>?_)
 obtain⟨x,H1,I1,r1,q1⟩:=qz9
 refine thn (hr pos pins s1 σ H1 _ I1 q1) λus s2 qz9=>?_
 obtain⟨xs,H2,I2,r2,q2⟩:=qz9
 exact⟨x :: xs,H2,I2,.cons r1 r2,q2⟩
noncomputable def Yct(t:TA):TE:=λσ H Q=>t σ H λxs H1=>xs.length≤Xq∧∀p,H1 p=none->Q (.ref p) (upd H1 p (.tup xs))
noncomputable def Ycj(t:TA):TE:=λσ H Q=>t σ H λxs H1=>xs.length≤Xq∧∀p,H1 p=none->Q (.ref p) (upd H1 p (.lst xs))
theorem Zwt{x1}(h:PA X es t):PE X (.Tuple es x1 pos) (Yct t):=by
 intro pins s σ H Q I hq
 refine wpAny_Tuple_spliced (thn (h pos pins s σ H _ I hq) λus s1 ⟨xs,H1,I1,r,z,q⟩=>⟨by rw[←r.length];exact z,?_⟩)
 have hf:H1 s1.heap.objs.size=none:=I1.hok.fresh (Qi _)
 refine⟨.ref s1.heap.objs.size,upd H1 s1.heap.objs.size (.tup xs),I1.laid (t':=s1.toks) (λb u e=>Xj _ e) (Qi _) ?_,rfl,q _ hf⟩
 exact⟨z,us,r,⟨_,Qa _ rfl,rfl,_,rfl⟩⟩
theorem Zw0(h:PA X es t):PE X (.List es pos) (Ycj t):=by
 intro pins s σ H Q I hq
 refine wpAny_List_spliced (thn (h pos pins s σ H _ I hq) λus s1 ⟨xs,H1,I1,r,z,q⟩=>⟨by rw[←r.length];exact z,?_⟩)
 have hf:H1 s1.heap.objs.size=none:=I1.hok.fresh (Qi _)
 refine⟨.ref s1.heap.objs.size,upd H1 s1.heap.objs.size (.lst xs),I1.laid (t':=s1.toks) (λb u e=>Xj _ e) (Qi _) ?_,rfl,q _ hf⟩
 exact⟨z,us,0,r,Qa _ rfl⟩
end
noncomputable abbrev Sp:=List V->Hp->VK->XK->Prop
noncomputable abbrev CXT:=List Env->Hp->Xd->XK->Xc->Xd->Prop
structure Z6j(P:XM)(w:Qo)(K:Xb)(mg:Str->Option Xc)(base:Heap)(A:Ql)(outer:List Env)(s:Xd)(H:Hp):Prop where
 frames:A.frames=some outer
 mod:Mod K mg base
 bs:∀b o,base.get? b=some o->s.heap.get? b=some o∧H b=none
 bsz:base.objs.size≤s.heap.objs.size
 funs:s.heap.FunFrames base outer
 frf:∀b∈frs outer,H b=none
 hok:HOk P w H s.heap
 bare:AllBare s.gens
noncomputable def CE(outer:List Env)(P:XM)(w:Qo)(H:Hp)(s:Xd)(Q:VK)(u:Xc)(s':Xd):Prop :=
 ∃v H',s'.os=s.os∧AllBare s'.gens∧Un (frs outer) [] H H' s.heap s'.heap∧HOk P w H' s'.heap∧RelV v u∧Q v H'
noncomputable def CR(CX:CXT)(outer:List Env)(P:XM)(w:Qo)(H:Hp)(s:Xd)(Q:VK)(E:XK)(r:Result)(s':Xd):Prop :=
 match r with
 | .ok (.ret u)=>CE outer P w H s Q u s'
 | .ok _=>False
 | .error e=>CX outer H s E e s'
structure FnOk(P:XM)(w:Qo)(K:Xb)(mg:Str->Option Xc)(base:Heap)(CX:CXT)(k:Nat)(f:Addr)(fd:Xv)(ps:List Str)(sp:Sp):Prop where
 len:∀vs H Q E,sp vs H Q E->vs.length=ps.length
 run:∀(A:Ql) (outer:List Env) (s:Xd) (H:Hp) (args:Args) (us:List Xc) (vs:List V) (Q:VK) (E:XK),Room k A->Z6j P w K mg base A outer s H->BindsTo s fd args (ps.zip us)->Vals vs us->sp vs H Q E ->
  codeAny (X7 P w) A (.call (.ref f) args) (CR CX outer P w H s Q E) s
theorem FnOk.mono{P:XM}{w:Qo}{K:Xb}{mg:Str->Option Xc}{base:Heap}{CX:CXT}{j k:Nat}{f:Addr}{fd:Xv}{ps:List Str}{sp:Sp}(F:FnOk P w K mg base CX j f fd ps sp)(h:j≤k) :
  FnOk P w K mg base CX k f fd ps sp:=⟨F.len,λA outer s H args us vs Q E hr=>F.run A outer s H args us vs Q E (hr.mono h)⟩
theorem FnOk.imp{P:XM}{w:Qo}{K:Xb}{mg:Str->Option Xc}{base:Heap}{CX:CXT}{k:Nat}{f:Addr}{fd:Xv}{ps:List Str}{sp sp':Sp}(F:FnOk P w K mg base CX k f fd ps sp)
  (h:∀vs H Q E,sp' vs H Q E->sp vs H Q E):FnOk P w K mg base CX k f fd ps sp' :=
 ⟨λvs H Q E q=>F.len vs H Q E (h _ _ _ _ q),λA outer s H args us vs Q E hr he hb hv hs=>F.run A outer s H args us vs Q E hr he hb hv (h _ _ _ _ hs)⟩
section
variable {X:Cx}{pins:List (Addr×Obj)}{σ:St}{H:Hp}{s s':Xd}
theorem Inv.env0(I:Inv X pins σ H s):Z6j X.prog X.w X.K X.mg X.base X.A X.stack s H :=
 ⟨I.ok.frames,I.ok.mod,I.bs,QM I.ok.bsz I.sz,I.stack,I.stkFree,I.hok,I.bare⟩
theorem Inv.after{Q:VK}{u:Xc}(I:Inv X pins σ H s)(h:CE X.stack X.prog X.w H s Q u s'):EP X pins σ Q u s':=by
 obtain⟨v,H',os,bare,un,hok,r,q⟩:=h
 obtain⟨hh,g,d,t,os'⟩:=s'
 obtain rfl:os'=s.os:=os
 exact⟨v,H',I.call (h':=hh) (g':=g) (d':=d) (t':=t) (ch:=[]) un hok bare (λb z=>absurd z (by simp)),r,q⟩
end
noncomputable def Z5m(sp:Sp)(dvs:List V)(E:XK)(t:TA):TE:=λσ H Q=>t σ H λvs H1=>sp (vs ++ dvs) H1 Q E
noncomputable def Binds(K:Xb)(fd:Xv)(ps:List Str)(ds:List Xc):Prop :=
 ∀(s:Xd) (us:List Xc),K.In s.heap->(us ++ ds).length=ps.length->BindsTo s fd ⟨us,[]⟩ (ps.zip (us ++ ds))
theorem Binds.all{K:Xb}{fd:Xv}{ps:List Str}(h:∀us:List Xc,us.length=ps.length->bindArgs fd ⟨us,[]⟩=pure (ps.zip us)):Binds K fd ps []:=λs us _ hl=>by
 rw[Bb]at hl⊢
 exact .of_eq (h us hl)
noncomputable def Zo7(CX:CXT)(X:Cx)(E:XK):Prop:=∀(pins:List (Addr×Obj)) (σ:St) (H:Hp) (s:Xd) (e:Xc) (s':Xd),Inv X pins σ H s->CX X.stack H s E e s'->X.xe e s'
section
variable {X:Cx}{CX:CXT}{k:Nat}{f C:Addr}{fd:Xv}{ps:List Str}{sp:Sp}{dvs:List V}{ds:List Xc}{E:XK}{x m:Str}{p pos apos:Pos}{e o:Expr}{es:List Expr}{ta:TE}{t:TA}
theorem Z49{pins:List (Addr×Obj)}{σ:St}{H:Hp}{s:Xd}{Q:VK}{us:List Xc}{vs:List V}(F:FnOk X.prog X.w X.K X.mg X.base CX k f fd ps sp)(hr:Room k X.A)(hb:Binds X.K fd ps ds)(hd:Vals dvs ds)(hx:Zo7 CX X E)
  (I:Inv X pins σ H s) (r:Vals vs us) (h:sp (vs ++ dvs) H Q E):XN (X7 X.prog X.w) X.A (call (.ref f) us) (EP X pins σ Q) X.xe s:=by
 have r2:Vals (vs ++ dvs) (us ++ ds):=r.append hd
 have hl:(us ++ ds).length=ps.length:=by rw[←r2.length];exact F.len _ _ _ _ h
 refine wpAny_call (codeAny_mono (F.run X.A X.stack s H ⟨us,[]⟩ (us ++ ds) (vs ++ dvs) Q E hr I.env0 (hb s us I.kIn hl) r2 h) λr s' hq=>?_)
 cases r with
 | error e=>exact hx pins σ H s e s' I hq
 | ok fl=>
  cases fl with
  | ret u=>exact I.after hq
  | next=>exact Vk hq
  | brk=>exact Vk hq
  | cont=>exact Vk hq
theorem Zyn(F:FnOk X.prog X.w X.K X.mg X.base CX k f fd ps sp)(hr:Room k X.A)(hg:Gl X x)(hm:X.mg x=some (.ref f))(hk:Vh X.K (.ref f)=true)(hb:Binds X.K fd ps ds)(hd:Vals dvs ds)(hx:Zo7 CX X E)
  (ha:PA X (e :: es) t) (hdb:(x==("__debug__" : Str))=false:=by decide) (he:Xr (e :: es) X.env=(false,eval e X.env) :: Xr es X.env:=by rfl) (hpl:(BJ pos (Xr es X.env)).any (·.1)=false:=by rfl) :
  PE X (.Call (.Name x p) (e :: es) [] pos) (Z5m sp dvs E t):=by
 intro pins s σ H Q I h
 refine wpAny_Call_Name_kw (Z07 I hg hm ?_ hdb)
 refine PySem.W.callWith_K (h₀:=X.base) I.ok.mod.kin hk (thn (ha pos pins s σ H _ I h) λus s1 qz9=>?_) he hpl
 obtain⟨vs,H1,I1,r,q⟩:=qz9
 refine⟨I1.kIn,?_⟩
 exact Z49 F hr hb hd hx I1 r q
structure Mk(K:Xb)(C f:Addr):Prop where
 makes:PySem.W.makesIn K C=true
 init:BL K (.ref C) "__init__"=some (some (.ref f))
 fn:PySem.W.isFn K (.ref f)=true
 kp:Vh K (.ref C)=true
end
section
variable {X:Cx}{CX:CXT}{k:Nat}{f C:Addr}{fd:Xv}{ps ks:List Str}{sp:Sp}{E:XK}{x m:Str}{p pos apos kpos:Pos}{e o:Expr}{es:List Expr}{kws:List Keyword}{te ta:TE}{t tk:TA}{nm:Option Str}
structure Yak(K:Xb)(fd:Xv)(ps ks:List Str)(g:List Xc->List Xc->List Xc)(gV:List V->List V->List V):Prop where
 to:∀(s:Xd) (us ws:List Xc),K.In s.heap->(g us ws).length=ps.length->BindsTo s fd ⟨us,ks.zip ws⟩ (ps.zip (g us ws))
 rel:∀{vs:List V} {us:List Xc} {zs:List V} {ws:List Xc},Vals vs us->Vals zs ws->Vals (gV vs zs) (g us ws)
variable {g:List Xc->List Xc->List Xc}{gV:List V->List V->List V}
end
structure Zw(N P:List Str)(sc:V7):Prop where
 kind:sc.kind= .function
 co:sc.isCoroutine=false
 gen:sc.isGenerator=false
 nd:N.Nodup
 pre:N.take P.length=P
 par:∀x∈P,sc.names.lookup x=some .local∨sc.names.lookup x=some .cell
 nofree:∀y∈sc.names,y.2≠ .free
theorem Zmp{kindOf:Str->Option Bc}{x:Str}:∀{binds:List (Str×Xc)} {m:Str->Option Xc},(∀v,(x,v)∉binds)->bindL kindOf binds m x=m x
 | [],_,_=>rfl
 | (n,v) :: r,m,h=>by
  unfold bindL
  rw[Zmp λw hw=>h w (V5 _ hw)]
  split
  ·have:x≠n:=by rintro rfl;exact h v Ut
   simp[this]
  ·rfl
theorem Zmy{kindOf:Str->Option Bc}{x:Str}:∀{binds:List (Str×Xc)} {m:Str->Option Xc},(∀v,(x,v)∉binds)->bindC kindOf binds m x=m x
 | [],_,_=>rfl
 | (n,v) :: r,m,h=>by
  unfold bindC
  rw[Zmy λw hw=>h w (V5 _ hw)]
  split
  ·rfl
  ·have:x≠n:=by rintro rfl;exact h v Ut
   simp[this]
theorem Zmz{kindOf:Str->Option Bc}{x:Str}{v:Xc}:∀{P:List Str} {vs:List Xc} {i:Nat} {m:Str->Option Xc},P.Nodup->P[i]? =some x->vs[i]? =some v->kindOf x=some .local ->
  bindL kindOf (P.zip vs) m x=some v
 | [],_,_,_,_,h,_,_=>by simp at h
 | _ :: _,[],_,_,_,_,h,_=>by simp at h
 | p :: P,w :: vs,0,m,nd,h1,h2,hk=>by
  simp at h1 h2;subst h1;subst h2
  show bindL kindOf ((p,w) :: P.zip vs) m p=_
  unfold bindL
  rw[Zmp λv hv=>(QT.mp nd).1 (Bv hv).1,if_pos hk]
  simp
 | p :: P,w :: vs,i+1,m,nd,h1,h2,hk=>by
  show bindL kindOf ((p,w) :: P.zip vs) m x=_
  unfold bindL
  exact Zmz (i:=i) (QT.mp nd).2 (by simpa using h1) (by simpa using h2) hk
theorem Zmj{kindOf:Str->Option Bc}{x:Str}{v:Xc}:∀{P:List Str} {vs:List Xc} {i:Nat} {m:Str->Option Xc},P.Nodup->P[i]? =some x->vs[i]? =some v->kindOf x≠some .local ->
  bindC kindOf (P.zip vs) m x=some v
 | [],_,_,_,_,h,_,_=>by simp at h
 | _ :: _,[],_,_,_,_,h,_=>by simp at h
 | p :: P,w :: vs,0,m,nd,h1,h2,hk=>by
  simp at h1 h2;subst h1;subst h2
  show bindC kindOf ((p,w) :: P.zip vs) m p=_
  unfold bindC
  rw[Zmy λv hv=>(QT.mp nd).1 (Bv hv).1,if_neg hk]
  simp
 | p :: P,w :: vs,i+1,m,nd,h1,h2,hk=>by
  show bindC kindOf ((p,w) :: P.zip vs) m x=_
  unfold bindC
  exact Zmj (i:=i) (QT.mp nd).2 (by simpa using h1) (by simpa using h2) hk
noncomputable def start(N:List Str)(vs:List V):St:=vs.map some ++ X4 (N.length-vs.length) none
noncomputable def Zxr(CX:CXT)(P:XM)(w:Qo)(K:Xb)(mg:Str->Option Xc)(base:Heap)(N:List Str)(qual:Str)(scope:V7)(f:Addr)(cd:Xc)(A:Ql)(outer:List Env)(s:Xd)(H:Hp)(E:XK):Cx where
 prog:=P
 w:=w
 K:=K
 mg:=mg
 base:=base
 A:=A.deeper (envOfC qual scope s.heap.objs.size f cd)
 N:=N
 s₀:=s
 H₀:=H
 env:=envOfC qual scope s.heap.objs.size f cd
 outer:=outer
 stack:=envOfC qual scope s.heap.objs.size f cd :: outer
 ex:=[]
 calm:=true
 fn:=λ_=>true
 pn:=[]
 xe:=λe s'=>XN (X7 P w) (A.deeper (envOfC qual scope s.heap.objs.size f cd)) (leaving (envOfC qual scope s.heap.objs.size f cd) e) (λ_ s''=>CX outer H s E e s'') (λe' s''=>CX outer H s E e' s'') s'
theorem Zoh{sc:V7}{n:Nat}{x:Str}(h:sc.names.lookup x=some .cell):∃c,(JQ n sc.names []).lookup x=some c:=by
 have q:=PySem.W.cellsFrom_some sc.names n [] (.inl h)
 exact UL.mp q
theorem Zre{CX:CXT}{P:XM}{w:Qo}{K:Xb}{mg:Str->Option Xc}{base:Heap}{N ps:List Str}{qual:Str}{scope:V7}{f:Addr}{cd:Xc}{A:Ql}{outer:List Env}{s s1:Xd}{H:Hp}{E:XK}{us:List Xc}{vs:List V}
  (S:Zw N ps scope) (hd:A.handled=none) (e0:Z6j P w K mg base A outer s H) (hl:vs.length=ps.length) (r:Vals vs us)
  (x:InCallC s s.heap.objs.size (bindL (envOfC qual scope s.heap.objs.size f cd).kindOf (ps.zip us) λ_=>none) (JQ (s.heap.objs.size+1) scope.names []) (bindC (envOfC qual scope s.heap.objs.size f cd).kindOf (ps.zip us) λ_=>none) s1) :
  Inv (Zxr CX P w K mg base N qual scope f cd A outer s H E) [] (start N vs) H s1:=by
 have hpl:ps.length≤N.length:=by have:=congrArg List.length S.pre;rw[BW]at this;omega
 obtain⟨h1,tk,rfl,hk⟩:=x.done
 have noA:∀b:Addr,b∉(Zxr CX P w K mg base N qual scope f cd A outer s H E).ex:=λb z=>absurd (show b∈([]:List Addr)from z) (by simp)
 refine⟨⟨e0.mod,S.kind,rfl,rfl,Qi _,λy z c h1 h2=>?_,λy hy=>?_,λy c _ h=>?_,λ_=>hd,Ql.frames_deeper e0.frames,.inr ⟨rfl,rfl⟩,λb z=>absurd z (noA b),e0.bs,e0.bsz,λb _ _=>noA b,λb z=>absurd z (noA b),e0.funs,e0.frf⟩,
  rfl,e0.bare,Un.kept hk,⟨_,x.toInCall.ns,λi y v h1 h2 h3=>?_⟩,λy c h=>⟨_,x.cell y c h⟩,e0.hok.fresh (Qi _),λy c h=>?_,λp hp=>absurd (show p∈([]:List (Addr×Obj))from hp) (by simp),e0.hok.kept hk,?_⟩
 ·exact name_of_addr x.apart (JM h1) (JM h2)
 ·have hy:scope.names.lookup y=some .cell∨scope.names.lookup y=some .free:=hy
  rcases hy with hy|hy
  ·exact Zoh hy
  ·exact absurd rfl (S.nofree _ (JM hy))
 ·exact Nat.le_of_lt (x.above y c (JM h))
 ·have hi:i<vs.length:=by
   unfold start at h2
   by_cases hi:i<vs.length
   ·exact hi
   ·rw[JN (by simpa using hi)]at h2
    rw[List.getElem?_replicate]at h2
    split at h2<;>cases h2
  have ha:vs[i]? =some v:=by
   unfold start at h2
   rw[UV (by simpa using hi),Xl]at h2
   cases e:vs[i]? with
   | none=>rw[e]at h2;cases h2
   | some a=>rw[e]at h2;cases h2;rfl
  obtain⟨u,hu,rv⟩:=r.get ha
  have hp:ps[i]? =some y:=by
   rw[←S.pre,List.getElem?_take_of_lt (by omega)];exact h1
  have ndP:ps.Nodup:=by rw[←S.pre];exact S.nd.sublist (List.take_sublist _ _)
  refine⟨u,rv,?_⟩
  rcases S.par y (Qc hp)with k|k
  ·exact .inl ⟨k,Zmz ndP hp hu k⟩
  ·obtain⟨c,e⟩:=Zoh (n:=s.heap.objs.size+1) k
   refine .inr ⟨.inl k,c,e,?_⟩
   have q:=x.cell y c e
   rw[Zmj ndP hp hu (by show scope.names.lookup y≠_;rw[k];decide)]at q
   exact q
 ·exact e0.hok.fresh (Nat.le_of_lt (x.above y c (JM h)))
 ·unfold start
  show _=N.length
  rw[X6,Xf,Vf]
  omega
theorem Z8l{CX:CXT}{P:XM}{w:Qo}{K:Xb}{mg:Str->Option Xc}{base:Heap}{k:Nat}{f:Addr}{name qual:Str}{params:Arguments}{body:List Stmt}{scope:V7}{dV kV doc pm cdv ct oc:Xc}{an od:Option Addr}
  {osl:Array (Option Xc)} {N ps:List Str} {sp:Sp} (lk:K.lookup f=some ⟨oc,od,.func (Vj name qual params body scope dV kV doc pm an cdv ct),osl⟩) (hcd:PySem.W.codeIn K cdv qual=true) (S:Zw N ps scope)
  (len:∀vs H Q E,sp vs H Q E->vs.length=ps.length)
  (hbody:∀(A:Ql) (outer:List Env) (s:Xd) (H:Hp) (vs:List V) (Q:VK) (E:XK),Room k (A.deeper (envOfC qual scope s.heap.objs.size f cdv))->sp vs H Q E ->
   ∃t,PSs (Zxr CX P w K mg base N qual scope f cdv A outer s H E) body t∧t { nx:=λ_ H'=>Q .non H',rt:=Q } (start N vs) H) :
  FnOk P w K mg base CX (k+1) f (Vj name qual params body scope dV kV doc pm an cdv ct) ps sp:=by
 refine⟨len,λA outer s H args us vs Q E hr e0 hb r hsp=>?_⟩
 have hl:=len _ _ _ _ hsp
 have KX:K.In s.heap:=e0.mod.kin.keeps λb o e=>(e0.bs b o e).1
 have lim:s.heap.NoLimit:=e0.mod.nolimit.keeps λb o e=>(e0.bs b o e).1
 have hkind:∀y∈ps.zip us,scope.names.lookup y.1=some .local∨(scope.names.lookup y.1=some .cell∧((JQ (s.heap.objs.size+1) scope.names []).lookup y.1).isSome=true):=λ⟨n,v⟩ hy=>by
  rcases S.par n (Bv hy).1 with q|q
  ·exact .inl q
  ·exact .inr ⟨q,PySem.W.cellsFrom_some _ _ _ (.inl q)⟩
 refine codeAny_call_function hr.depth (KX _ _ lk) rfl S.co S.gen rfl (PySem.W.codeRec_of KX hcd) (hb _ _ _ _ ?_)
 refine wpAny_newFunctionEnv_cells S.kind hkind λenv he s1 x=>?_
 subst he
 refine⟨lim.keeps x.toInCall.keep,codeAny_func ?_⟩
 obtain⟨t,ht,hq⟩:=hbody A outer s H vs Q E (hr.deeper _) hsp
 have I:Inv (Zxr CX P w K mg base N qual scope f cdv A outer s H E) [] (start N vs) H s1:=Zre S hr.hd e0 hl r x
 refine Bk (ht [] s1 (start N vs) H _ I hq) (λfl s' hs=>?_) λe s' hs=>hs
 have fin:∀{σ':St} {H':Hp} {v:V} {u:Xc},Inv (Zxr CX P w K mg base N qual scope f cdv A outer s H E) [] σ' H' s'->RelV v u->Q v H'->CE outer P w H s Q u s' :=
  fun{σ' H' v u} J rv q=>⟨v,H',J.os,J.bare,J.base,J.hok,rv,q⟩
 cases fl with
 | ret u=>
  obtain⟨v,σ',H',J,rv,q⟩:=hs
  exact fin J rv q
 | next=>
  obtain⟨σ',H',J,q⟩:=hs
  exact fin (v:=V.non) (u:=QH) J rfl q
 | brk=>
  obtain⟨_,_,_,q⟩:=hs
  exact Vk q
 | cont=>
  obtain⟨_,_,_,q⟩:=hs
  exact Vk q
section
variable {X:Cx}{x:Str}{p pos:Pos}{e:Expr}{es:List Expr}{t:TA}{id T:String}{r:List V->Hp->VK->Prop}
noncomputable def tCB(r:List V->Hp->VK->Prop)(t:TA):TE:=λσ H Q=>t σ H λvs H1=>r vs H1 Q
theorem Zkm(hc:Zcl X (.builtin id) r)(hg:Gl X x)(hm:X.mg x=none)(hv:Qk x=some (.builtin id))(ha:PA X (e :: es) t)(hn:x≠"__name__" :=by decide)(hdb:(x==("__debug__" : Str))=false:=by decide)
  (he:Xr (e :: es) X.env=(false,eval e X.env) :: Xr es X.env:=by rfl) (hpl:(BJ pos (Xr es X.env)).any (·.1)=false:=by rfl):PE X (.Call (.Name x p) (e :: es) [] pos) (tCB r t):=by
 intro pins s σ H Q I h
 refine wpAny_Call_Name_kw (Zif I hg hm hv ?_ hn hdb)
 refine PyProof.Rows.callWith_builtin1 (thn (ha pos pins s σ H _ I h) λus s1 qz9=>?_) he hpl
 obtain⟨vs,H1,I1,r1,q1⟩:=qz9
 exact hc pins s1 σ H1 vs us Q I1 r1 q1
theorem Zmo(hc:Zcl X (.type T) r)(hg:Gl X x)(hm:X.mg x=none)(hv:Qk x=some (.type T))(ha:PA X (e :: es) t)(hn:x≠"__name__" :=by decide)(hdb:(x==("__debug__" : Str))=false:=by decide)
  (he:Xr (e :: es) X.env=(false,eval e X.env) :: Xr es X.env:=by rfl) (hpl:(BJ pos (Xr es X.env)).any (·.1)=false:=by rfl):PE X (.Call (.Name x p) (e :: es) [] pos) (tCB r t):=by
 intro pins s σ H Q I h
 refine wpAny_Call_Name_kw (Zif I hg hm hv ?_ hn hdb)
 refine Ba (thn (ha pos pins s σ H _ I h) λus s1 qz9=>?_) he hpl
 obtain⟨vs,H1,I1,r1,q1⟩:=qz9
 exact hc pins s1 σ H1 vs us Q I1 r1 q1
end
end L2
namespace HT
open PySem PyProof.Rows
section
open PySem.SeqAt
open PySem.AutoSeq1 (wpAny_loadPart')
open PySem.MeetsSeq PySem.MeetsSeq2 PySem.MeetsSeq3
end
section
variable {prog:XM}{w:Qo}{A:Ql}{E:Xc->Xd->Prop}{s:Xd}
noncomputable def sIx(n d:Nat):Option Int->Nat
 | none=>d
 | some v=>if v<0 then(v+(n:Int)).toNat else min v.toNat n
end
end HT
namespace L2
open PySem PySem.Spec PyProof.Rows
noncomputable abbrev TO:=St->Hp->(Option Int->Hp->Prop)->Prop
noncomputable def PO(X:Cx)(e:Option Expr)(t:TO):Prop :=
 ∀(pins:List (Addr×Obj)) (s:Xd) (σ:St) (H:Hp) (Q:Option Int->Hp->Prop),Inv X pins σ H s->t σ H Q ->
  XN (X7 X.prog X.w) X.A (evalPart e X.env) (λu s'=>∃o H',Inv X pins σ H' s'∧IsPart u o∧Q o H') X.xe s
noncomputable def Zzf:TO:=λ_ H Q=>Q none H
noncomputable def Z9q(t:TE):TO:=λσ H Q=>t σ H λx H1=>∃i,x= .int i∧Q (some i) H1
section
variable {X:Cx}{e:Expr}{te:TE}{lo hi:Option Expr}{tl th:TO}{pos p2:Pos}
theorem Z0r:PO X none Zzf:=by
 intro pins s σ H Q I h
 rw[evalPart_none]
 exact X5 ⟨none,H,I,.none,h⟩
theorem Zzl(h:PE X e te):PO X (some e) (Z9q te):=by
 intro pins s σ H Q I hw
 rw[evalPart_some]
 refine thn (h pins s σ H _ I hw) λu s1 qz9=>?_
 obtain⟨x,H1,I1,r1,q1⟩:=qz9
 obtain⟨i,rfl,q⟩:=q1
 obtain⟨t,rfl⟩:=r1
 exact⟨some i,H1,I1,.int i t,q⟩
noncomputable def SlR(X:Cx)(r:V->Option Int->Option Int->Hp->VK->Prop):Prop :=
 ∀(pins:List (Addr×Obj)) (s:Xd) (σ:St) (H:Hp) (x:V) (v vl vu:Xc) (lo hi:Option Int) (sl:Addr) (Q:VK),Inv X pins σ H s->RelV x v->s.heap.IsSliceOf sl vl vu .none->IsPart vl lo->IsPart vu hi->r x lo hi H Q ->
  ∃T id,typeLookup (.type T) "__getitem__"=pure (some (.builtin id))∧s.TypeIs v T∧XN (X7 X.prog X.w) X.A (getItem v (.ref sl)) (EP X pins σ Q) X.xe s
noncomputable def tSl(r:V->Option Int->Option Int->Hp->VK->Prop)(te:TE)(tl th:TO):TE:=λσ H Q=>te σ H λx H1=>tl σ H1 λl H2=>th σ H2 λu H3=>r x l u H3 Q
theorem Zvm{r:V->Option Int->Option Int->Hp->VK->Prop}(hr:SlR X r)(he:PE X e te)(hl:PO X lo tl)(hu:PO X hi th):PE X (.Subscript e (.Slice lo hi none p2) pos) (tSl r te tl th):=by
 intro pins s σ H Q I h
 refine Subscript_ (thn (he pins s σ H _ I h) λv s1 qz9=>?_)
 obtain⟨x,H1,I1,r1,q1⟩:=qz9
 refine wpAny_Slice (thn (hl pins s1 σ H1 _ I1 q1) λvl s2 qz9=>?_)
 obtain⟨l,H2,I2,pl,q2⟩:=qz9
 refine thn (hu pins s2 σ H2 _ I2 q2) λvu s3 qz9=>?_
 obtain⟨u,H3,I3,pu,q3⟩:=qz9
 rw[evalPart_none]
 refine X5 ?_
 have I4:Inv X pins σ H3 { s3 with heap:=s3.heap.push { cls:=.type "slice",data:=.fields #[vl,vu,.none] } }:=I3.kept (t':=s3.toks) λb ob q=>Xj _ q
 obtain⟨T,id,hT,ht,hg⟩:=hr pins { s3 with heap:=s3.heap.push { cls:=.type "slice",data:=.fields #[vl,vu,.none] } } σ H3 x v vl vu l u s3.heap.objs.size Q I4 r1 (Heap.IsSliceOf.new ..) pl pu q3
 show XN (X7 X.prog X.w) X.A (subscriptTail e (.Slice lo hi none p2) v (.ref s3.heap.objs.size)) (EP X pins σ Q) X.xe { s3 with heap:=s3.heap.push { cls:=.type "slice",data:=.fields #[vl,vu,.none] } }
 exact tail_any (ops:=[.ref s3.heap.objs.size,v]) ht hT hg (by with_unfolding_all rfl)
noncomputable def Z1m(xs:List V)(lo hi:Option Int):List V:=(xs.drop (HT.sIx xs.length 0 lo)).take (HT.sIx xs.length xs.length hi-HT.sIx xs.length 0 lo)
theorem Zne(xs:List V)(lo hi:Option Int):(Z1m xs lo hi).length≤xs.length:=by
 unfold Z1m
 rw[BW,JV]
 omega
end
noncomputable def ixN(n:Nat)(i:Int):Option Nat:=if 0≤i then(if i<n then some i.toNat else none)else if -(n:Int)≤i then some (i+n).toNat else none
noncomputable def atI{α:Type}(xs:List α)(i:Int):Option α:=(ixN xs.length i).bind λj=>xs[j]?
theorem Zsn{n:Nat}{i:Int}{j:Nat}(h:ixN n i=some j):seqIndex? i n=some j∧j<n∧-(n:Int)≤i∧i<n:=by
 unfold ixN at h
 by_cases h0:0≤i
 ·rw[if_pos h0]at h
  by_cases h1:i<n
  ·rw[if_pos h1]at h
   have e:i.toNat=j:=QG h
   exact⟨by rw[seqIndex_of h0 h1,e],by omega,by omega,h1⟩
  ·rw[if_neg h1]at h;cases h
 ·rw[if_neg h0]at h
  by_cases h1:-(n:Int)≤i
  ·rw[if_pos h1]at h
   have e:(i+n).toNat=j:=QG h
   exact⟨by rw[seqIndex_neg (by omega) h1,e],by omega,h1,by omega⟩
  ·rw[if_neg h1]at h;cases h
theorem Znx{α:Type}{xs:List α}{i:Int}{v:α}(h:atI xs i=some v):∃j,seqIndex? i xs.length=some j∧xs[j]? =some v∧j<xs.length∧-(xs.length:Int)≤i∧i<xs.length:=by
 unfold atI at h
 cases e:ixN xs.length i with
 | none=>rw[e]at h;cases h
 | some j=>
  rw[e]at h
  obtain⟨h1,h2,h3,h4⟩:=Zsn e
  exact⟨j,h1,h,h2,h3,h4⟩
noncomputable def Zk0(b:Expr):Prop:=∀o i,subscripted b false o i=operate [o,i] (getItem o i)
noncomputable def IxR(X:Cx)(r:R2):Prop :=
 ∀(value slice:Expr) (pins:List (Addr×Obj)) (s:Xd) (σ:St) (H:Hp) (x y:V) (v u:Xc) (Q:VK),Inv X pins σ H s->RelV x v->RelV y u->r x y H Q ->
  subscripted slice false v u=operate [v,u] (getItem v u)->XN (X7 X.prog X.w) X.A (subscriptTail value slice v u) (EP X pins σ Q) X.xe s
noncomputable def MtR(X:Cx)(id:String)(r:V->List V->Hp->VK->Prop):Prop :=
 ∀(pins:List (Addr×Obj)) (s:Xd) (σ:St) (H:Hp) (x:V) (xs:List V) (v:Xc) (us:List Xc) (Q:VK),Inv X pins σ H s->RelV x v->Vals xs us->r x xs H Q ->
  XN (X7 X.prog X.w) X.A (call (.builtin id) (v :: us)) (EP X pins σ Q) X.xe s
section
variable {X:Cx}{a b:Expr}{ta tb:TE}{pos:Pos}
theorem IxR.or{r r':R2}(h:IxR X r)(h':IxR X r'):IxR X (λx y H Q=>r x y H Q∨r' x y H Q):=by
 intro value slice pins s σ H x y v u Q I rx ry q hs
 rcases q with q|q
 ·exact h value slice pins s σ H x y v u Q I rx ry q hs
 ·exact h' value slice pins s σ H x y v u Q I rx ry q hs
theorem Z4y{r:R2}(hr:IxR X r)(ha:PE X a ta)(hb:PE X b tb)(hs:Zk0 b):PE X (.Subscript a b pos) (tOp r ta tb):=by
 intro pins s σ H Q I h
 exact Subscript_ (Z9r ha hb I h λv u s2 x y H2 I2 rx ry q=>hr a b pins s2 σ H2 x y v u Q I2 rx ry q (hs _ _))
noncomputable def Z84(K:Xb):R2:=λx y H Q=>∃p xs i v,x= .ref p∧y= .int i∧SqL K H p xs∧atI xs i=some v∧Q v H
noncomputable def Ybi(K:Xb):R2:=λx y H Q=>∃p xs i v,x= .ref p∧y= .int i∧SqT K H p xs∧atI xs i=some v∧Q v H
noncomputable def Ybs:R2:=λx y H Q=>∃z i c,x= .str z∧y= .int i∧z.length≤Xq∧atI z.cps.toList i=some c∧Q (.str ⟨#[c]⟩) H
theorem Zsv:IxR X (Z84 X.K):=by
 intro value slice pins s σ H x y v u Q I rx ry h hs
 obtain⟨p,xs,i,z,rfl,rfl,hq,he,q⟩:=h
 cases rx
 obtain⟨t,rfl⟩:=ry
 obtain⟨its,r,pl,hz⟩:=I.list hq
 obtain⟨j,h1,h2,h3,h4,h5⟩:=Znx he
 obtain⟨w,ew,rw'⟩:=r.get h2
 have hl:=r.length
 have hn:=Zki
 have fin:EP X pins σ Q w s:=⟨z,H,I,rw',q⟩
 by_cases h0:0≤i
 ·have hj:i.toNat=j:=by
   rw[seqIndex_of h0 h5]at h1
   exact QG h1
  exact item_listR pl.isList h0 (by omega) (by rw[hj];simpa using ew) fin hs
 ·have hj:(i+(its.toArray.size:Int)).toNat=j:=by
   rw[seqIndex_neg (by omega) h4]at h1
   rw[Xx,←hl]
   exact QG h1
  exact subscriptTail_builtinR (x:=w) pl.isList.typeIs slot_list_getitem.lookup
   (wpAny_getItem_list_neg (Q:=λr s'=>r=w∧EP X pins σ Q r s') pl.isList (by omega) (by rw[Xx]<;>omega) (by omega) (by rw[hj];simpa using ew) ⟨rfl,fin⟩) hs
theorem Z39:IxR X (Ybi X.K):=by
 intro value slice pins s σ H x y v u Q I rx ry h hs
 obtain⟨p,xs,i,z,rfl,rfl,hq,he,q⟩:=h
 cases rx
 obtain⟨t,rfl⟩:=ry
 obtain⟨its,r,pl,hz⟩:=I.tuple hq
 obtain⟨j,h1,h2,h3,h4,h5⟩:=Znx he
 obtain⟨w,ew,rw'⟩:=r.get h2
 have hl:=r.length
 have hn:=Zki
 have fin:EP X pins σ Q w s:=⟨z,H,I,rw',q⟩
 exact subscriptTail_builtinR (x:=w) pl.typeIs slot_tuple_getitem.lookup
  (getItem_tuple (j:=j) (Q:=λr s'=>r=w∧EP X pins σ Q r s') pl (by omega) (by omega) (by rw[Xx,←hl];exact h1) (by simpa using ew) ⟨rfl,fin⟩) hs
theorem Z5e:IxR X Ybs:=by
 intro value slice pins s σ H x y v u Q I rx ry h hs
 obtain⟨z,i,c,rfl,rfl,hz,he,q⟩:=h
 obtain⟨t,rfl⟩:=rx
 obtain⟨t',rfl⟩:=ry
 obtain⟨j,h1,h2,h3,h4,h5⟩:=Znx he
 have hl:z.cps.toList.length=z.length:=by simp[Str.length]
 rw[hl]at h1 h4 h5
 have hn:=Zki
 exact tail_any (typeIs_str s z t) slot_str_getitem.lookup (getItem_str (c:=c) (by
  have e1:decide (i< -(2^63:Int))=false:=decide_eq_false (by omega)
  have e2:decide (i≥2^63)=false:=decide_eq_false (by omega)
  rw[e1,e2,Bool.or_false]) (by rw[h1];simpa using h2) ⟨.str ⟨#[c]⟩,H,I.tok _,⟨_,rfl⟩,q⟩) hs
noncomputable def rIx(K:Xb):R2:=λx y H Q=>Z84 K x y H Q∨Ybi K x y H Q∨Ybs x y H Q
theorem Z1z:IxR X (rIx X.K):=Zsv.or (Z39.or Z5e)
theorem Zp8(its:List Xc)(n j:Nat)(u:Xc):QC (·.setIfInBounds j u) { cls:=.type "list",data:=.seq its.toArray n }={ cls:=.type "list",data:=.seq (its.set j u).toArray n }:=by
 simp[QC]
theorem Inv.lst{pins:List (Addr×Obj)}{σ:St}{H:Hp}{s:Xd}{p:Addr}{xs:List V}(I:Inv X pins σ H s)(h:H p=some (.lst xs)) :
  ∃(its:List Xc) (n:Nat),Vals xs its∧s.heap.get? p=some { cls:=.type "list",data:=.seq its.toArray n }∧xs.length≤Xq:=by
 obtain⟨z,its,n,r,e⟩:=I.hok p _ h
 exact⟨its,n,r,e,z⟩
theorem Inv.lstUpd{pins:List (Addr×Obj)}{σ:St}{H:Hp}{s:Xd}{p:Addr}{xs ys:List V}{its its':List Xc}{n n':Nat}{f:Obj->Obj}(I:Inv X pins σ H s)(h:H p=some (.lst xs))
  (ho:s.heap.get? p=some { cls:=.type "list",data:=.seq its.toArray n }) (hf:f { cls:=.type "list",data:=.seq its.toArray n }={ cls:=.type "list",data:=.seq its'.toArray n' }) (r:Vals ys its') (hz:ys.length≤Xq) (t:Nat) :
  Inv X pins σ (upd H p (.lst ys)) { s with heap:=s.heap.update p f,toks:=t }:=by
 have e:(s.heap.update p f).get? p=some { cls:=.type "list",data:=.seq its'.toArray n' }:=by
  rw[Heap.get?_update_self f ho (by rw[hf]<;>rfl),hf]
 refine I.write (x:=p) (e:=p) (by rw[h];trivial) (.inl rfl) (λb u hb q=>(Heap.get?_update_other _ _ (Vc hb)).trans q) ⟨_,e⟩ ?_
 exact⟨hz,its',n',r,e⟩
noncomputable def Zyw:V->V->V->Hp->(Hp->Prop)->Prop:=λo i v H Q=>∃p xs k j,o= .ref p∧i= .int k∧H p=some (.lst xs)∧ixN xs.length k=some j∧Q (upd H p (.lst (xs.set j v)))
theorem set_list:Z95 X Zyw:=by
 intro pins s σ H o i v ov iv u Q I ro ri rv h
 obtain⟨p,xs,k,j,rfl,rfl,hp,hj,q⟩:=h
 cases ro
 obtain⟨t,rfl⟩:=ri
 obtain⟨its,n,r,ho,hz⟩:=I.lst hp
 obtain⟨h1,h2,h3,h4⟩:=Zsn hj
 have hl:=r.length
 have hn:=Zki
 have I':Inv X pins σ (upd H p (.lst (xs.set j v))) { s with heap:=s.heap.update p (QC (·.setIfInBounds j u)) } :=
  I.lstUpd hp ho (Zp8 its n j u) (r.set rv j) (by rw[JP];exact hz) s.toks
 by_cases h0:0≤k
 ·have hk:k.toNat=j:=by
   rw[seqIndex_of h0 h4]at h1
   exact QG h1
  exact PySem.W.ki_setAt ho h0 (by omega) (by rw[Xx,←hl];exact h4) (by rw[hk];exact⟨_,I',q⟩)
 ·have hk:(k+(its.toArray.size:Int)).toNat=j:=by
   rw[seqIndex_neg (by omega) h3]at h1
   rw[Xx,←hl]
   exact QG h1
  exact PySem.W.ki_setBack ho (by omega) (by rw[Xx,←hl];exact h3) (by omega) (by rw[hk];exact⟨_,I',q⟩)
theorem Zmq(lo hi:Option Int)(n:Nat):(Uk lo hi none n).1=((HT.sIx n 0 lo:Nat):Int)∧(Uk lo hi none n).2.1=((HT.sIx n n hi:Nat):Int)∧(Uk lo hi none n).2.2=1:=by
 refine⟨?_,?_,rfl⟩
 ·cases lo with
  | none=>simp[Uk,HT.sIx]
  | some i=>
   simp only[Uk,HT.sIx,Option.getD_none,show(1:Int)>0 by decide,if_true]
   by_cases h:i<0
   ·simp only[h,if_true]<;>omega
   ·simp only[h,if_false]<;>omega
 ·cases hi with
  | none=>simp[Uk,HT.sIx]
  | some i=>
   simp only[Uk,HT.sIx,Option.getD_none,show(1:Int)>0 by decide,if_true]
   by_cases h:i<0
   ·simp only[h,if_true]<;>omega
   ·simp only[h,if_false]<;>omega
theorem Zkq(its:List Xc)(lo hi:Option Int):slicePick its.toArray lo hi none=((its.drop (HT.sIx its.length 0 lo)).take (HT.sIx its.length its.length hi-HT.sIx its.length 0 lo)).toArray:=by
 obtain⟨h1,h2,h3⟩:=Zmq lo hi its.toArray.size
 unfold slicePick
 rw[h1,h2,h3]
 simp only[sliceRange_one,pick_run,Xx]<;>rfl
noncomputable def Ya4(K:Xb):V->Option Int->Option Int->Hp->VK->Prop:=λx lo hi H Q=>∃a xs,x= .ref a∧SqL K H a xs∧∀p,H p=none->Q (.ref p) (upd H p (.lst (Z1m xs lo hi)))
theorem Zyi:SlR X (Ya4 X.K):=by
 intro pins s σ H x v vl vu lo hi sl Q I rx hs pl pu h
 obtain⟨a,xs,rfl,hx,q⟩:=h
 cases rx
 obtain⟨its,r,ht,hz⟩:=I.list hx
 have hlen:=r.length
 refine⟨"list",_,slot_list_getitem.lookup,ht.isList.typeIs,?_⟩
 refine wpAny_getItem_list_slice ht.isList hs pl pu .none (by simp) ?_ (by rw[Xx]<;>omega)
 rw[Zkq,←hlen]
 refine⟨.ref s.heap.objs.size,_,I.laid (t':=s.toks) (o:=.lst (Z1m xs lo hi)) (λb ob q=>Xj _ q) (Qi _) ?_,rfl,q _ (I.hok.fresh (Qi _))⟩
 exact⟨QM (Zne xs lo hi) hz,_,0,(r.drop (HT.sIx xs.length 0 lo)).take (HT.sIx xs.length xs.length hi-HT.sIx xs.length 0 lo),Qa _ rfl⟩
noncomputable def Zib:V->Bool
 | .non=>true
 | .bl _=>true
 | .int _=>true
 | .str _=>true
 | _=>false
noncomputable def eqV:V->V->Bool
 | .non,.non=>true
 | .bl a,.bl b=>a==b
 | .bl a,.int b=>(if a then 1 else 0)==b
 | .int a,.bl b=>a==(if b then 1 else 0)
 | .int a,.int b=>a==b
 | .str a,.str b=>a==b
 | _,_=>false
theorem Z2c{A:Ql}{s:Xd}{y x:V}{u v:Xc}(ry:RelV y u)(rx:RelV x v)(fy:Zib y=true)(fx:Zib x=true):JL A s u v (eqV y x):=by
 cases y with
 | non=>
  cases ry
  cases x with
  | non=>cases rx;exact JL.same _
  | bl b=>cases rx;exact JL.none_bool b
  | int b=>obtain⟨t,rfl⟩:=rx;exact JL.none_int b t
  | str b=>obtain⟨t,rfl⟩:=rx;exact JL.none_str b t
  | _=>exact absurd (show false=true from fx) Xu
 | bl a=>
  cases ry
  cases x with
  | non=>cases rx;exact JL.bool_none a
  | bl b=>cases rx;exact JL.bool_bool a b
  | int b=>obtain⟨t,rfl⟩:=rx;exact JL.bool_int a b t
  | str b=>obtain⟨t,rfl⟩:=rx;exact JL.bool_str a b t
  | _=>exact absurd (show false=true from fx) Xu
 | int a=>
  obtain⟨t',rfl⟩:=ry
  cases x with
  | non=>cases rx;exact JL.int_none a t'
  | bl b=>cases rx;exact JL.int_bool a t' b
  | int b=>obtain⟨t,rfl⟩:=rx;exact JL.int_int a t' b t
  | str b=>obtain⟨t,rfl⟩:=rx;exact SeqAt.EqAt.int_str a t' b t
  | _=>exact absurd (show false=true from fx) Xu
 | str a=>
  obtain⟨t',rfl⟩:=ry
  cases x with
  | non=>cases rx;exact JL.str_none a t'
  | bl b=>cases rx;exact JL.str_bool a t' b
  | int b=>obtain⟨t,rfl⟩:=rx;exact SeqAt.EqAt.str_int a t' b t
  | str b=>obtain⟨t,rfl⟩:=rx;exact JL.str_str a t' b t
  | _=>exact absurd (show false=true from fx) Xu
 | _=>exact absurd (show false=true from fy) Xu
noncomputable def eqU(x:V)(u:Xc):Bool:=match u with
 | .none=>eqV .non x
 | .bool b=>eqV (.bl b) x
 | .int i _=>eqV (.int i) x
 | .str z _=>eqV (.str z) x
 | _=>false
theorem Zxe{x y:V}{u:Xc}(r:RelV y u)(f:Zib y=true):eqU x u=eqV y x:=by
 cases y with
 | non=>cases r;rfl
 | bl b=>cases r;rfl
 | int i=>obtain⟨t,rfl⟩:=r;rfl
 | str z=>obtain⟨t,rfl⟩:=r;rfl
 | _=>exact absurd (show false=true from f) Xu
theorem Zkr{x:V}{xs:List V}{us:List Xc}(h:Vals xs us)(f:xs.all Zib=true):us.any (eqU x)=xs.any λy=>eqV y x:=by
 induction h with
 | nil=>rfl
 | cons r t ih=>
  rw[U9,Xo]at f
  rw[Vr,Vr,Zxe r f.1,ih f.2]
theorem Zh6{A:Ql}{s:Xd}{x:V}{v:Xc}(rx:RelV x v)(fx:Zib x=true){xs:List V}{us:List Xc}(h:Vals xs us)(f:xs.all Zib=true):∀u∈us,JL A s u v (eqU x u):=by
 induction h with
 | nil=>intro u hu;cases hu
 | cons r t ih=>
  intro u' hu
  rw[U9,Xo]at f
  rcases Xw.mp hu with rfl|hu
  ·rw[Zxe r f.1];exact Z2c r rx f.1 fx
  ·exact ih f.2 u' hu
noncomputable def inV(x:V)(xs:List V):Bool:=xs.any λy=>eqV y x
noncomputable def rIn(K:Xb)(neg:Bool):R2:=λx y H Q=>∃p xs,y= .ref p∧(SqL K H p xs∨SqT K H p xs)∧Zib x=true∧xs.all Zib=true∧Q (.bl (if neg then !inV x xs else inV x xs)) H
theorem Zri:OpR X (Bj .In) (rIn X.K false):=by
 intro pins s σ H x y v u Q I rx ry h
 obtain⟨p,xs,rfl,hq,fx,fs,q⟩:=h
 cases ry
 rcases hq with hq|hq
 ·obtain⟨its,r,pl,hz⟩:=I.list hq
  refine SeqAt.in_listAt (eqU x) pl.isList (λw hw=>Zh6 rx fx r fs w (by simpa using hw)) ⟨.bl _,H,I,rfl,?_⟩
  rw[show its.toArray.any (eqU x)=its.any (eqU x) by simp,Zkr r fs]
  exact q
 ·obtain⟨its,r,pl,hz⟩:=I.tuple hq
  refine SeqAt.in_tupleAt (eqU x) pl (λw hw=>Zh6 rx fx r fs w (by simpa using hw)) ⟨.bl _,H,I,rfl,?_⟩
  rw[show its.toArray.any (eqU x)=its.any (eqU x) by simp,Zkr r fs]
  exact q
theorem Zmv:OpR X (Bj .NotIn) (rIn X.K true):=by
 intro pins s σ H x y v u Q I rx ry h
 obtain⟨p,xs,rfl,hq,fx,fs,q⟩:=h
 cases ry
 rcases hq with hq|hq
 ·obtain⟨its,r,pl,hz⟩:=I.list hq
  refine SeqAt.notIn_listAt (eqU x) pl.isList (λw hw=>Zh6 rx fx r fs w (by simpa using hw)) ⟨.bl _,H,I,rfl,?_⟩
  rw[show its.toArray.any (eqU x)=its.any (eqU x) by simp,Zkr r fs]
  exact q
 ·obtain⟨its,r,pl,hz⟩:=I.tuple hq
  refine SeqAt.notIn_tupleAt (eqU x) pl (λw hw=>Zh6 rx fx r fs w (by simpa using hw)) ⟨.bl _,H,I,rfl,?_⟩
  rw[show its.toArray.any (eqU x)=its.any (eqU x) by simp,Zkr r fs]
  exact q
theorem Zmt:Zcl X (.builtin "len") (λxs H Q=>∃p ys,xs=[.ref p]∧(SqL X.K H p ys∨SqT X.K H p ys)∧Q (.int ys.length) H):=by
 intro pins s σ H xs us Q I r h
 obtain⟨p,ys,rfl,hq,q⟩:=h
 obtain⟨u,rfl,rx⟩:=vals1 r
 cases rx
 have hn:=Zki
 rcases hq with hq|hq
 ·obtain⟨its,r',pl,hz⟩:=I.list hq
  have hlen:=r'.length
  exact Calls.call_len_list pl.isList (by simp only[Xx]<;>omega) ⟨.int ys.length,H,I.tok _,⟨s.toks+1,by rw[Xx,hlen]⟩,q⟩
 ·obtain⟨its,r',pl,hz⟩:=I.tuple hq
  have hlen:=r'.length
  exact len_tuple pl (by simp only[Xx]<;>omega) ⟨.int ys.length,H,I.tok _,⟨s.toks+1,by rw[Xx,hlen]⟩,q⟩
theorem Zmn:Zcl X (.type "list") (λxs H Q=>∃p ys,xs=[.ref p]∧(SqL X.K H p ys∨SqT X.K H p ys)∧∀l,H l=none->Q (.ref l) (upd H l (.lst ys))):=by
 intro pins s σ H xs us Q I r h
 obtain⟨p,ys,rfl,hq,q⟩:=h
 obtain⟨u,rfl,rx⟩:=vals1 r
 cases rx
 have fin:∀(its:List Xc),Vals ys its->ys.length≤Xq->∀(h':Heap) (c':Nat),(∀b o',s.heap.get? b=some o'->h'.get? b=some o') ->
   h'.get? s.heap.objs.size=some { cls:=.type "list",dict:=none,data:=.seq its.toArray c',slots:=#[] }->EP X pins σ Q (.ref s.heap.objs.size) { s with heap:=h' }:=λits r' hz h' c' kp e=>
  ⟨.ref s.heap.objs.size,_,I.laid (t':=s.toks) kp (Qi _) (show ObjOk X.prog X.w _ h' _ (.lst ys)from⟨hz,its,c',r',e⟩),rfl,q _ (I.hok.fresh (Qi _))⟩
 rcases hq with hq|hq
 ·obtain⟨its,r',pl,hz⟩:=I.list hq
  have hlen:=r'.length
  obtain⟨o,ho,hc,n,hd⟩:=pl.isList
  exact call_list_seq p (.inl rfl) ho hc hd (λh' c' kp e=>fin its r' hz h' c' kp e) (by simp only[Xx]<;>omega)
 ·obtain⟨its,r',pl,hz⟩:=I.tuple hq
  have hlen:=r'.length
  obtain⟨o,ho,hc,n,hd⟩:=pl
  exact call_list_seq p (.inr rfl) ho hc hd (λh' c' kp e=>fin its r' hz h' c' kp e) (by simp only[Xx]<;>omega)
noncomputable def tyV(K:Xb)(T:String)(x:V)(H:Hp):Prop:=match x with
 | .str _=>T="str"
 | .int _=>T="int"
 | .ref p=>(T="list"∧∃xs,SqL K H p xs)∨(T="tuple"∧∃o,K.lookup p=some o∧o.cls= .type "tuple"∧o.dict=none)∨
   (T="dict"∧((∃kvs,H p=some (.dK kvs))∨∃kvs,H p=some (.dT kvs)))∨(T="set"∧∃S n,H p=some (.set S n))
 | _=>False
theorem Z5a{pins:List (Addr×Obj)}{σ:St}{H:Hp}{s:Xd}{T:String}{x:V}{v:Xc}(I:Inv X pins σ H s)(r:RelV x v)(ty:tyV X.K T x H) :
  s.TypeIs v T∧∀a,v= .ref a->∃ob,s.heap.get? a=some ob∧ob.dict=none:=by
 cases x with
 | str z=>
  obtain⟨t,rfl⟩:=r
  cases(show T="str"from ty)
  exact⟨typeIs_str s z t,λ_ e=>nomatch e⟩
 | int i=>
  obtain⟨t,rfl⟩:=r
  cases(show T="int"from ty)
  exact⟨typeIs_int s i t,λ_ e=>nomatch e⟩
 | ref p=>
  cases r
  rcases ty with⟨rfl,xs,hq⟩|⟨rfl,o,hk,hc,hd⟩|⟨rfl,hk⟩|⟨rfl,S,n,hk⟩
  ·obtain⟨its,_,pl,_⟩:=I.list hq
   refine⟨pl.isList.typeIs,λa e=>?_⟩
   cases e
   obtain⟨o,n,e,c,hd,_⟩:=pl
   exact⟨o,e,hd⟩
  ·refine⟨⟨o,I.kIn p o hk,hc⟩,λa e=>?_⟩
   cases e
   exact⟨o,I.kIn _ o hk,hd⟩
  ·have z:∃o,s.heap.get? p=some o∧o.ExactDict:=by
    rcases hk with⟨kvs,hk⟩|⟨kvs,hk⟩
    ·obtain⟨_,_,_,_,o,_,_,e,ex,_⟩:=I.hok p _ hk
     exact⟨o,e,ex⟩
    ·obtain⟨_,_,_,_,o,_,_,e,ex,_⟩:=I.hok p _ hk
     exact⟨o,e,ex⟩
   obtain⟨o,e,ex⟩:=z
   refine⟨⟨o,e,ex.1⟩,λa e2=>?_⟩
   cases e2
   exact⟨o,e,ex.2.1⟩
  ·obtain⟨o,_,_,_,e,ex,_⟩:=I.hok p _ hk
   refine⟨⟨o,e,ex.1⟩,λa e2=>?_⟩
   cases e2
   exact⟨o,e,ex.2.1⟩
 | _=>exact Vk ty
noncomputable def tBM(K:Xb)(T:String)(r:V->List V->Hp->VK->Prop)(to:TE)(t:TA):TE:=λσ H Q=>to σ H λx H1=>tyV K T x H1∧t σ H1 λxs H2=>r x xs H2 Q
variable {o e:Expr}{es:List Expr}{to:TE}{t:TA}{name:Str}{apos cpos:Pos}{T id:String}{r:V->List V->Hp->VK->Prop}
theorem Z7h(pa:PlainAttrs T)(slot:Slot T name id)(hty:typeOf (.builtin id)=pure (.type "method_descriptor"))(hm:MtR X id r)(ho:PE X o to)(ha:PA X (e :: es) t)
  (hbase:attributeBase o name X.env (eval o X.env)=eval o X.env:=by rfl)
  (hfew:((BJ cpos (Xr (e :: es) X.env)).all (λx=>!x.1)&&(backToKw cpos (keywordEach [] X.env)).all (λx=>x.1.isSome)
   &&decide ((e :: es).length+([]:List Keyword).length+(if([]:List Keyword).isEmpty then 0 else 1)<30))=true:=by rfl)
  (hline:(apos.endLine==cpos.line)=true:=by rfl) (hs:Xr (e :: es) X.env=(false,eval e X.env) :: Xr es X.env:=by rfl) (hplain:(BJ cpos (Xr es X.env)).any (·.1)=false:=by rfl) :
  PE X (.Call (.Attribute o name apos) (e :: es) [] cpos) (tBM X.K T r to t):=by
 intro pins s σ H Q I h
 refine wpAny_Call_method_late hbase hfew hline rfl (thn (ho pins s σ H _ I h) λv s1 qz9=>?_)
 obtain⟨x,H1,I1,r1,ty,q1⟩:=qz9
 obtain⟨h1,h2⟩:=Z5a I1 r1 ty
 refine⟨T,id,pa,slot,hty,h1,h2,?_⟩
 have hA:=ha cpos pins s1 σ H1 _ I1 q1
 rw[hs]at hA⊢
 refine Calls.callWith_builtin (by show(false||(BJ cpos (Xr es X.env)).any (·.1))=false;rw[hplain]<;>rfl) (Calls.evalArgs_plain ?_)
 refine thn hA λus s2 qz9=>?_
 obtain⟨vs,H2,I2,r2,q2⟩:=qz9
 exact hm pins s2 σ H2 x vs v us Q I2 r1 r2 q2
end
noncomputable def MtM(X:Cx)(id:String)(r:V->List V->Hp->VK->Prop):Prop :=
 ∀(pins:List (Addr×Obj)) (s:Xd) (σ:St) (H:Hp) (x:V) (xs:List V) (v:Xc) (us:List Xc) (Q:VK),Inv X pins σ H s->RelV x v->Vals xs us->r x xs H Q ->
  XN (X7 X.prog X.w) X.A (call (.builtin id) (v :: us)) (EP X pins σ Q) X.xe s
theorem Vals.one{x:V}{us:List Xc}(h:Vals [x] us):∃u,us=[u]∧RelV x u:=by
 cases h with
 | cons r t=>cases t;exact⟨_,rfl,r⟩
theorem Vals.zero:∀{us:List Xc},Vals [] us->us=[]
 | _,.nil=>rfl
theorem Vals.rep{xs:List V}{us:List Xc}(h:Vals xs us):∀k:Nat,Vals (X4 k xs).flatten (X4 k us).flatten
 | 0=>.nil
 | k+1=>by
  rw[BV,BV,VD,VD]
  exact Vals.append h (Vals.rep h k)
theorem foldl_rep(its:List Xc):∀(k:Nat) (acc:List Xc),
  List.foldl (λx1 x2=>x1 ++ x2) acc.toArray (X4 k its.toArray)=(acc ++ (X4 k its).flatten).toArray
 | 0,acc=>by simp
 | k+1,acc=>by
  have e:acc.toArray ++ its.toArray=(acc ++ its).toArray:=by simp
  have e2:(acc ++ its) ++ (X4 k its).flatten=acc ++ (X4 (k+1) its).flatten:=by
   rw[BV,VD,VG]
  rw[←e2,←foldl_rep its k (acc ++ its),←e,BV,List.foldl_cons]
section
variable {X:Cx}{pins:List (Addr×Obj)}{σ:St}{H:Hp}{s:Xd}{l b:Addr}{xs ys zs:List V}
theorem Inv.lset{its its':List Xc}{n:Nat}{f:Array Xc->Array Xc}{t':Nat}(I:Inv X pins σ H s)(hH:H l=some (.lst xs))
  (e:s.heap.get? l=some { cls:=.type "list",data:=.seq its.toArray n }) (hf:f its.toArray=its'.toArray) (hv:Vals ys its') (hz:ys.length≤Xq) :
  Inv X pins σ (upd H l (.lst ys)) { s with heap:=s.heap.update l (QC f),toks:=t' }:=by
 have q:=PySem.IsL.update e f
 rw[hf]at q
 refine I.write (x:=l) (e:=l) (by rw[hH];exact trivial) (.inl rfl) (λb' u hb hu=>(Heap.get?_update_other s.heap (QC f) (Vc hb)).trans hu) ⟨_,q⟩ ?_
 exact⟨hz,its',_,hv,q⟩
theorem Inv.lnew{its:List Xc}{t':Nat}(I:Inv X pins σ H s)(hv:Vals ys its)(hz:ys.length≤Xq) :
  Inv X pins σ (upd H s.heap.objs.size (.lst ys)) { s with heap:=s.heap.push { cls:=.type "list",data:=.seq its.toArray },toks:=t' } :=
 I.laid (λ_ _ q=>Xj _ q) (Qi _) ⟨hz,its,0,hv,Qa _ rfl⟩
theorem Inv.fresh(I:Inv X pins σ H s):H s.heap.objs.size=none:=I.hok.fresh (Qi _)
theorem Inv.lstM(I:Inv X pins σ H s)(hH:H l=some (.lst xs)):xs.length≤Xq∧∃(its:List Xc) (n:Nat),Vals xs its∧xs.length=its.length∧s.heap.get? l=some { cls:=.type "list",data:=.seq its.toArray n }:=by
 obtain⟨z,its,n,r,e⟩:=I.hok l _ hH
 exact⟨z,its,n,r,r.length,e⟩
theorem Zt4{n:Nat}(h:n≤Xq):Ub n=false:=by
 unfold Ub
 exact decide_eq_false (by omega)
end
section
variable {X:Cx}
noncomputable def Zx2:V->List V->Hp->VK->Prop:=λx vs H Q=>∃l xs y,x= .ref l∧vs=[y]∧H l=some (.lst xs)∧xs.length<Xq∧Q .non (upd H l (.lst (xs ++ [y])))
theorem Zlz:MtM X "list.append" Zx2:=by
 intro pins s σ H x vs v us Q I rx rv h
 obtain⟨l,xs,y,rfl,rfl,hH,hz,q⟩:=h
 cases rx
 obtain⟨u,rfl,ru⟩:=rv.one
 obtain⟨z,its,n,r,hl,e⟩:=I.lstM hH
 refine call_meets F.slot_list_append ⟨_,e,rfl⟩ F.entry_list_append (F.args_list_append_2 _ _) (PySem.list_append l its.toArray n u (by rw[Xx];omega)) ⟨e,?_⟩
 refine⟨.non,_,I.lset (its':=its ++ [u]) hH e (by simp) (r.append (.cons ru .nil)) ?_,rfl,q⟩
 rw[X6,Q9]
 omega
noncomputable def Yc4:R2:=λx y H Q=>∃l k xs,x= .ref l∧y= .int k∧H l=some (.lst xs)∧-(2^63)≤k∧k<2^63∧xs.length*k.toNat≤Xq∧
 ∀p,H p=none->Q (.ref p) (upd H p (.lst (X4 k.toNat xs).flatten))
theorem len_rep{α:Type}(xs:List α)(k:Nat):(X4 k xs).flatten.length=k*xs.length:=by
 induction k with
 | zero=>simp
 | succ k ih=>rw[BV,VD,X6,ih,Uq,Nat.add_comm]
theorem Z3m:OpR X (Vx .Mult) Yc4:=by
 intro pins s σ H x y v u Q I rx ry h
 obtain⟨l,k,xs,rfl,rfl,hH,h1,h2,hz,q⟩:=h
 cases rx
 obtain⟨t,rfl⟩:=ry
 obtain⟨z,its,n,r,hl,e⟩:=I.lstM hH
 have hlen:its.toArray.size*k.toNat≤Xq:=by rw[Xx,←hl];exact hz
 have hcap:¬its.toArray.size*k.toNat>(2^63-1)/8:=by
  have:(Xq:Nat)≤(2^63-1)/8:=by decide
  omega
 have hfit:¬(!Ui.List.listFitsIndex k)=true:=by
  rw[fitsIndex_both h1 h2]
  exact Xu
 have hlong:¬Ub (its.toArray.size*k.toNat)=true:=by
  rw[Zt4 hlen]
  exact Xu
 have hnew:List.foldl (λx1 x2=>x1 ++ x2) #[] (X4 (if its.toArray.isEmpty=true then 0 else k.toNat) its.toArray)=(X4 k.toNat its).flatten.toArray:=by
  have f0:∀m:Nat,List.foldl (λx1 x2=>x1 ++ x2) #[] (X4 m its.toArray)=(X4 m its).flatten.toArray:=λm=>by
   have:=foldl_rep its m []
   rw[List.nil_append]at this
   exact this
  rw[f0]
  cases its with
  | nil=>simp
  | cons a r'=>rw[if_neg (by simp)]
 refine wpAny_binaryOp_repeat_ref (T :="list") (U :="int") (by decide) ⟨_,e,rfl⟩ (λs'=>typeIs_int s' k t) noFill_list_mul F.fills_int_mul F.slot_int_rmul repeat_list F.slot_int_index.lookup
  (call_meets F.slot_int_rmul (typeIs_int s k t) F.entry_int_rmul (F.args_int_rmul_2 _ _) (int___rmul___int_list k t l its.toArray n)
   ⟨e,rfl,⟨_,e,rfl⟩,call_meets F.slot_list_mul ⟨_,e,rfl⟩ F.entry_list_mul (F.args_list_mul_2 _ _) (AutoListH.list___mul___list_int_3 l its.toArray n k t hfit hcap hlong) ⟨e,?_⟩⟩)
 rw[hnew]
 exact⟨.ref _,_,I.lnew (t':=s.toks) (r.rep k.toNat) (by rw[len_rep,Nat.mul_comm];exact hz),rfl,q _ I.fresh⟩
end
section
variable {prog:XM}{w:Qo}{A:Ql}{E:Xc->Xd->Prop}{s:Xd}
end
section
variable {X:Cx}
end
end L2
namespace Att
open PySem PySem.W PySem.Calls PyProof.Rows
theorem Zin{P:Params}{h:Heap}:∀(ns:List Int) (vs:List Xc),WellAll P h vs (ns.map WData.int)->Bx vs ns:=by
 intro ns
 induction ns with
 | nil=>
  intro vs w
  rw[List.map_nil]at w
  cases w
  exact .nil
 | cons n ns ih=>
  intro vs w
  rw[Qs]at w
  cases w with
  | cons a b=>
   cases a
   exact .cons _ _ (ih _ b)
theorem Zs4{l:OpenLaw}{n:Nat}(hn:l.most=some n){P:Params}{h:Heap}{args:List WData}{vals:List Xc}
  (hpre:l.row.toRowW.claim.pre args=true) (hwl:WellAll P h vals args) :
  ∃a vs ns,vals=[Q4 a]∧args=[WData.list (ns.map WData.int)]∧h.get? a=some { cls:=.type "list",data:=.seq vs.toArray }∧Bx vs ns∧ns.length≤n:=by
 have hsh:WShape.hasAll [] args [.list .int]=true:=(pre_splitW hpre).1
 have hc:l.pre.holds [] { args:=args }=true:=(pre_splitW hpre).2
 obtain⟨d,r,rfl,h1,h2⟩:=hasAllW_cons hsh
 obtain rfl:=hasAllW_nil h2
 obtain⟨xs,rfl,h3⟩:=hasW_list h1
 obtain⟨ns,rfl⟩:=items_int h3
 have hlen:ns.length≤n:=by
  unfold OpenLaw.pre at hc
  have h4:(WTm.not (.lt (.lit (.int (n:Int))) (.len (.arg 0)))).holds [] { args:=[.list (ns.map .int)] }=true:=by
   have h4:=(holds_andW hc).1
   rw[hn]at h4
   exact h4
  have h5:=condW_of h4 (w_not (w_lt w_lit (w_len_list (w_arg rfl))))
  rw[Xf]at h5
  refine Nat.le_of_not_lt λq=>?_
  have q':(n:Int)<((ns.length:Nat):Int):=by omega
  first
   | (rw[decide_eq_true q']at h5;exact absurd h5 (by decide))
   | (simp at h5;omega)
 cases hwl with
 | cons w1 w2=>
  cases w2
  cases w1 with
  | list ho hall=>exact⟨_,_,ns,rfl,rfl,ho,Zin ns _ hall,hlen⟩
theorem Zr5(l:OpenLaw)(args:List WData):l.row.toRowW.claim.post args (.bool true) args=true :=
 postW_of (r:=l.row.toRowW) (X:=(true==true))
  (show WShape.has [] (.bool true) .bool=true by first|rfl|decide|simp[WShape.has,WShape.arms,WShape.armsAll])
  (show(WTm.eq .res (.lit (.bool true))).value [] { args:=args,res:=some (.bool true),after:=args }=some (.bool (true==true))from w_eq_bool (w_res rfl) w_lit) rfl
theorem attach_call{l:OpenLaw}{n:Nat}{q:XM}{loose:List Str}{XP:(Str->Option Xc)->Heap->Prop}{YP:Qo->Heap->Prop}{d:DefRec}
  (hn:l.most=some n) (hdf:d.params.defaults=[])
  (call:∀(w:Qo) (s₀ s₁:Xd) (mg mb:Str->Option Xc) (fa:Addr) (o:Obj) (pm cd doc:Xc) (a:Addr) (vs:List Xc) (ns:List Int),
   Ground q loose [] XP w s₀ mg mb s₁.heap->YP w s₁.heap ->
   s₁.heap.get? fa=some o->o.data= .func (docDef d.name d.params d.body d.scope pm cd doc)->s₁.heap.CodeRec cd d.name->mg d.name=some (.ref fa) ->
   s₁.heap.get? a=some { cls:=.type "list",data:=.seq vs.toArray }->Bx vs ns->ns.length≤n->s₁.gens=#[] ->
   codeAny (X7 l.prog w) callerA (.call (.ref fa) ⟨[.ref a],[]⟩) (λr s'=>r= .ok (.ret (.bool true))∧OldK s₁.heap s'.heap∧s'.os=s₁.os∧AllBare s'.gens) s₁) :
  WalkO q loose XP YP l.row.toRowW d [] (λf vs=>PySem.call f vs):=by
 intro w s₀ s₁ mg mb G Y fa o pm cd doc dV kV ho hd hcd hD hmg hg args vals as hpre hlay hrd hwl hlo
 obtain rfl:dV= .none:=Dflts.none hD hdf
 obtain rfl:kV= .none:=Dflts.noKw hD
 obtain⟨a,vs,ns,rfl,rfl,hobj,hints,hlen⟩:=Zs4 hn hpre hwl
 refine enter_call (codeAny_mono (call w s₀ s₁ mg mb fa o pm cd doc a vs ns G Y ho (fd_plain hd) hcd hmg hobj hints hlen hg) λr s' hq=>?_)
 obtain⟨rfl,h2,h3,h4⟩:=hq
 exact⟨.inl ⟨.bool true,.bool true,[],rfl,λ_=>rfl,.bool true,Zr5 l _,λ_=>⟨List.Pairwise.nil,λ_ hm=>(nomatch hm)⟩⟩,h2,h3,h4⟩
section
variable {prog:XM}{w:Qo}{A:Ql}{E:Xc->Xd->Prop}{s:Xd}{K:Frag}
end
end Att
namespace L2
open PySem PySem.Spec PyProof.Rows
theorem Zs7{vs:List Xc}{ns:List Int}(h:Bx vs ns):Vals (ns.map V.int) vs:=by
 induction h with
 | nil=>exact .nil
 | cons n t h ih=>exact .cons ⟨t,rfl⟩ ih
noncomputable def Only(H:Hp):Prop:=∀b,H b=none∨∃o xs,H b=some (.frz o (.lst xs))
theorem Zus{P:XM}{w:Qo}{K:Xb}{mg mb:Str->Option Xc}{CX:CXT}{k:Nat}{fa a:Addr}{fd:Xv}{x:Str}{sp:Sp}{s₁:Xd}{vs:List Xc}{ns:List Int}
  (KX:K.In s₁.heap) (hns:s₁.heap.Ns Qg mg) (hb:s₁.heap.Ns builtinsNs mb) (hbb:∀x:Str,x≠"__name__" ->mb x=Qk x) (hlim:s₁.heap.NoLimit) (hg:s₁.gens=#[])
  (ha:s₁.heap.get? a=some { cls:=.type "list",data:=.seq vs.toArray }) (hi:Bx vs ns) (hl:ns.length≤Xq) (hr:Room k callerA)
  (F:∀base:Heap,K.In base->base.Ns Qg mg->FnOk P w K mg base CX k fa fd [x] sp) (hbind:∀(s:Xd) (u:Xc),BindsTo s fd ⟨[u],[]⟩ [(x,u)])
  (hsp:∀H:Hp,Only H->SqL K H a (ns.map V.int)->sp [.ref a] H (λv _=>v= .bl true) λ_ _ _=>False)
  (hCX:∀H e s',CX [] H s₁ (λ_ _ _=>False) e s'->False) :
  codeAny (X7 P w) callerA (.call (.ref fa) ⟨[.ref a],[]⟩) (λr s'=>r= .ok (.ret (.bool true))∧OldK s₁.heap s'.heap∧s'.os=s₁.os∧AllBare s'.gens) s₁:=by
 have rv:=Zs7 hi
 have lenV:=hi.length
 -- from an abstract heap in which nothing but the script may be tracked
 have core:∀H:Hp,Only H->SqL K H a (ns.map V.int)->HOk P w H s₁.heap->(∀b,H b≠none->b=a)->(H a≠none->K.lookup a=none) ->
   codeAny (X7 P w) callerA (.call (.ref fa) ⟨[.ref a],[]⟩) (λr s'=>r= .ok (.ret (.bool true))∧OldK s₁.heap s'.heap∧s'.os=s₁.os∧AllBare s'.gens) s₁:=by
  intro H hO hS hok hA hK
  have base_of:∀{b:Addr} {o:Obj},s₁.heap.get? b=some o->H b=none->(Zvb s₁.heap H).get? b=some o:=λe n=>Zv3 e n
  have noA:∀{b:Addr} {o:Obj} {es:Array DictEntry} {ep:Nat},s₁.heap.get? b=some o->o.data= .dict es ep->H b=none:=fun{b o es ep} e d=>by
   cases q:H b with
   | none=>rfl
   | some u=>
    have e':b=a:=hA b (by rw[q];simp)
    subst e'
    rw[ha]at e;cases e
    have d':Data.seq vs.toArray _=Data.dict es ep:=d
    cases d'
  have nsK:∀{b:Addr} {m:Str->Option Xc},s₁.heap.Ns b m->(Zvb s₁.heap H).Ns b m:=fun{b m} ⟨o,es,ep,e,d,r⟩=>⟨o,es,ep,base_of e (noA e d),d,r⟩
  have hKb:K.In (Zvb s₁.heap H):=λb o e=>base_of (KX b o e) (by
   cases q:H b with
   | none=>rfl
   | some u=>
    have e':b=a:=hA b (by rw[q];simp)
    subst e'
    rw[hK (by rw[q];simp)]at e;cases e)
  have hM:Mod K mg (Zvb s₁.heap H):=⟨hKb,nsK hns,⟨mb,nsK hb,hbb⟩,let⟨mc,h1,h2⟩:=hlim;⟨mc,nsK h1,h2⟩⟩
  have e0:Z6j P w K mg (Zvb s₁.heap H) callerA [] s₁ H:=⟨rfl,hM,λb o e=>Z0k e,Nat.le_of_eq (Zr4 _ _),trivial,λb hb=>absurd (show b∈([]:List Addr)from hb) (by simp),hok,.of_eq hg⟩
  refine codeAny_mono ((F _ hKb (nsK hns)).run callerA [] s₁ H ⟨[.ref a],[]⟩ [.ref a] [.ref a] _ _ hr e0 (hbind s₁ (.ref a)) (.cons rfl .nil) (hsp H hO hS)) λr s' h=>?_
  cases r with
  | error e=>exact(hCX H e s' h).elim
  | ok fl=>
   cases fl with
   | next=>exact Vk h
   | brk=>exact Vk h
   | cont=>exact Vk h
   | ret u=>
    obtain⟨v,H',os,bare,un,hok',r',q⟩:=h
    have q':v= .bl true:=q
    subst q'
    obtain rfl:u=Ul true:=r'
    refine⟨rfl,OldK.of_keep λb o e=>?_,os,bare⟩
    cases q:H b with
    | none=>exact un.keep b o e q (by intro z;exact absurd (show b∈([]:List Addr)from z) (by simp)) (by simp)
    | some u=>
     rcases hO b with z|⟨ob,xs,z⟩
     ·rw[q]at z;cases z
     ·have z2:=un.frzs b ob _ z
      obtain⟨e1,_⟩:=hok b _ z
      obtain⟨e2,_⟩:=hok' b _ z2
      rw[e]at e1;cases e1
      exact e2
 cases hk:K.lookup a with
 | some o=>
  -- the script is one of the module's own objects
  have e:=KX a o hk
  rw[ha]at e
  cases e
  refine core (λ_=>none) (λ_=>.inl rfl) (.inr ⟨_,vs.toArray,_,hk,rfl,rfl,rfl,by rw[Xx,lenV];exact hl,by simpa using rv⟩) (λb u z=>by have z':(none:Option HO)=some u:=z;cases z') (λb z=>absurd rfl z) λz=>absurd rfl z
 | none=>
  refine core (λb=>if b=a then some (.frz { cls:=.type "list",data:=.seq vs.toArray } (.lst (ns.map V.int)))else none) (λb=>?_) (.inl (.inr ⟨{ cls:=.type "list",data:=.seq vs.toArray },if_pos rfl⟩)) (λb u z=>?_) (λb z=>?_) λ_=>hk
  ·by_cases hb:b=a
   ·exact .inr ⟨_,_,if_pos hb⟩
   ·exact .inl (if_neg hb)
  ·by_cases hb:b=a
   ·have z':=(if_pos hb).symm.trans z
    cases z'
    subst hb
    exact⟨ha,by rw[Xf];exact hl,vs,_,rv,ha⟩
   ·have z':=(if_neg hb).symm.trans z
    cases z'
  ·by_cases hb:b=a
   ·exact hb
   ·exact absurd (if_neg hb) z
noncomputable abbrev KOf{K:Xb}{h:Heap}(_:K.In h):Xb:=K
theorem Zx7{l:PySem.W.OpenLaw}{n k:Nat}{q:XM}{loose:List Str}{XP:(Str->Option Xc)->Heap->Prop}{YP:Qo->Heap->Prop}{d:DefRec}{K:Params->Xb}{CX:Qo->CXT}{sp:Qo->Sp}{x:Str}
  (hn:l.most=some n) (hn2:n≤Xq) (hdf:d.params.defaults=[]) (hr:Room k callerA)
  (hY:∀(w:Qo) (h:Heap),YP w h->(K w.params).In h)
  (F:∀(w:Qo) (mg:Str->Option Xc) (fa:Addr) (h:Heap),(K w.params).In h->h.Ns Qg mg->mg d.name=some (.ref fa) ->
   ∃fd:Xv,(∀(s:Xd) (u:Xc),BindsTo s fd ⟨[u],[]⟩ [(x,u)])∧
    ∀base:Heap,(K w.params).In base->base.Ns Qg mg->FnOk l.prog w (K w.params) mg base (CX w) k fa fd [x] (sp w))
  (hsp:∀(w:Qo) (H:Hp) (a:Addr) (ns:List Int),ns.length≤n->Only H->SqL (K w.params) H a (ns.map V.int)->sp w [.ref a] H (λv _=>v= .bl true) λ_ _ _=>False)
  (hCX:∀(w:Qo) (H:Hp) (s:Xd) (e:Xc) (s':Xd),CX w [] H s (λ_ _ _=>False) e s'->False) :
  PySem.W.WalkO q loose XP YP l.row.toRowW d [] (λf vs=>PySem.call f vs):=by
 refine Att.attach_call hn hdf λw s₀ s₁ mg mb fa o pm cd doc a vs ns G Y ho hd hcd hmg hobj hints hlen hg=>?_
 have KX:=hY w _ Y
 obtain⟨fd,hb,hF⟩:=F w mg fa _ KX G.T.g hmg
 exact Zus KX G.T.g G.T.b G.T.builtins G.T.nolimit hg hobj hints (QM hlen hn2) hr hF hb (λH hO hS=>hsp w H a ns hlen hO hS) λH e s'=>hCX w H s₁ e s'
noncomputable def Zf4(s:Stmt):Arguments:=match s with
 | .FunctionDef _ a _ _ _ _ _ _ _ _=>a
 | _=>{ posonlyargs:=[],args:=[],vararg:=none,kwonlyargs:=[],kw_defaults:=[],kwarg:=none,defaults:=[] }
noncomputable def Zcd(s:Stmt):List Stmt:=match s with
 | .FunctionDef _ _ b _ _ _ _ _ _ _=>b
 | _=>[]
noncomputable def Zo(s:Stmt):V7:=match s with
 | .FunctionDef _ _ _ _ _ _ sc _ _ _=>sc
 | _=>{ kind:=.function,names:=[],isGenerator:=false,isCoroutine:=false }
noncomputable abbrev CX0:CXT:=λ_ _ _ _ _ _=>False
noncomputable abbrev E0:XK:=λ_ _ _=>False
theorem Z77{X:Cx}:Zo7 CX0 X E0:=λ_ _ _ _ _ _ _ h=>h.elim
structure Fun(K:Xb)(x qual:Str)(st:Stmt)(f:Addr)(fd:Xv):Prop where
 ex:∃(oc:Xc) (od:Option Addr) (kV doc pm:Xc) (an:Option Addr) (cdv ct:Xc) (osl:Array (Option Xc)),
  fd=Vj x qual (Zf4 st) (Zcd st) (Zo st) .none kV doc pm an cdv ct∧K.lookup f=some ⟨oc,od,.func fd,osl⟩∧PySem.W.codeIn K cdv qual=true
 kp:Vh K (.ref f)=true
section
variable {P:XM}{w:Qo}{K:Xb}{mg:Str->Option Xc}{base:Heap}
theorem Fun.ok{x qual:Str}{st:Stmt}{f:Addr}{fd:Xv}{N ps:List Str}{k:Nat}{sp:Sp}(F:Fun K x qual st f fd)(S:Zw N ps (Zo st))(len:∀vs H Q E,sp vs H Q E->vs.length=ps.length)
  (hbody:∀(cdv:Xc) (A:Ql) (outer:List Env) (s:Xd) (H:Hp) (vs:List V) (Q:VK) (E:XK),Room k (A.deeper (envOfC qual (Zo st) s.heap.objs.size f cdv))->sp vs H Q E ->
   ∃t,PSs (Zxr CX0 P w K mg base N qual (Zo st) f cdv A outer s H E).nox (Zcd st) t∧t { nx:=λ_ H'=>Q .non H',rt:=Q } (start N vs) H):FnOk P w K mg base CX0 (k+1) f fd ps sp:=by
 obtain⟨oc,od,kV,doc,pm,an,cdv,ct,osl,rfl,lk,hcd⟩:=F.ex
 refine Z8l lk hcd S len λA outer s H vs Q E hr hsp=>?_
 obtain⟨t,h,q⟩:=hbody cdv A outer s H vs Q E hr hsp
 exact⟨t,h.nox,q⟩
theorem Fun.binds{x qual:Str}{st:Stmt}{f:Addr}{fd:Xv}{ps:List Str}(F:Fun K x qual st f fd)
  (h:∀(kV doc pm:Xc) (an:Option Addr) (cdv ct:Xc) (us:List Xc),us.length=ps.length->bindArgs (Vj x qual (Zf4 st) (Zcd st) (Zo st) .none kV doc pm an cdv ct) ⟨us,[]⟩=pure (ps.zip us)):Binds K fd ps []:=by
 obtain⟨oc,od,kV,doc,pm,an,cdv,ct,osl,rfl,lk,hcd⟩:=F.ex
 exact .all (h kV doc pm an cdv ct)
theorem Z5b{x qual:Str}{st:Stmt}{f:Addr}{oc:Xc}{od an:Option Addr}{osl:Array (Option Xc)}{kV doc pm cdv ct:Xc}(l:K.lookup f=some ⟨oc,od,.func (Vj x qual (Zf4 st) (Zcd st) (Zo st) .none kV doc pm an cdv ct),osl⟩)
  (c:PySem.W.codeIn K cdv qual=true) (k:Vh K (.ref f)=true):Fun K x qual st f (Vj x qual (Zf4 st) (Zcd st) (Zo st) .none kV doc pm an cdv ct):=⟨⟨oc,od,kV,doc,pm,an,cdv,ct,osl,rfl,l,c⟩,k⟩
end
section
variable {X:Cx}
theorem pv(i:Nat){x:Str}{pos:Pos}(hN:X.N[i]? =some x:=by rfl)(hv:Vis X.env.scope x:=by first|exact QQ rfl|exact Qx (QQ rfl)|exact Qx (Qx rfl))(hd:(x==("__debug__" : Str))=false:=by decide)
  (hcd:(x==("__classdict__" : Str))=false:=by decide):PE X (.Name x pos) (Ybx i):=Z3u hN hv hd hcd
end
noncomputable def Same(H H':Hp):Prop:=∀b o,H b=some o->H' b=some o
theorem Same.refl(H:Hp):Same H H:=λ_ _ h=>h
theorem Same.trans{H H1 H2:Hp}(a:Same H H1)(b:Same H1 H2):Same H H2:=λc o h=>b c o (a c o h)
theorem Same.free{H H':Hp}(e:Same H H'){l:Addr}(h:H' l=Option.none):H l=Option.none:=by
 cases q:H l with
 | none=>rfl
 | some o=>
  rw[e l o q]at h
  cases h
end L2
set_option maxHeartbeats 4000000
namespace L2
open PySem PySem.Spec PyProof.Rows
noncomputable def Bt(n:Nat)(x:Int):Prop:=x.natAbs<2^n
theorem Bt.mono{m n:Nat}{x:Int}(h:Bt m x)(hn:m≤n):Bt n x:=Qd h (Nat.pow_le_pow_right (by decide) hn)
theorem Bt.mul{m n:Nat}{x y:Int}(h:Bt m x)(k:Bt n y):Bt (m+n) (x*y):=by
 unfold Bt at*
 rw[Int.natAbs_mul,Nat.pow_add]
 exact Nat.mul_lt_mul'' h k
theorem Bt.neg{m:Nat}{x:Int}(h:Bt m x):Bt m (-x):=by
 unfold Bt at*
 rw[Int.natAbs_neg]
 exact h
theorem Bt.add'{m:Nat}{x y:Int}(h:Bt m x)(k:Bt m y):Bt (m+1) (x+y):=by
 unfold Bt at*
 have h3:2^(m+1)=2*2^m:=by rw[Nat.pow_succ];omega
 have h4:=Int.natAbs_add_le x y
 omega
theorem Bt.of_le{m:Nat}{x y:Int}(h:Bt m x)(k:y.natAbs≤x.natAbs):Bt m y:=Nat.lt_of_le_of_lt k h
theorem Bt.of_lt{m:Nat}{x:Int}(h1:-(2^m)<x)(h2:x<2^m):Bt m x:=by
 unfold Bt
 have e:((2^m:Nat):Int)=2^m:=by simp
 omega
theorem Bt.bits{m:Nat}{x:Int}(h:Bt m x):JF x≤m:=by
 unfold JF
 split
 ·exact Q6 _
 ·rename_i hx
  have hp:x.natAbs≠0:=by
   intro e
   apply hx
   have:x=0:=by omega
   subst this
   rfl
  have:=(Nat.log2_lt hp).mpr h
  omega
theorem Bt.mulOk{m n:Nat}{x y:Int}(h:Bt m x)(k:Bt n y)(hmn:m+n≤100000000:=by decide):IntMulOk x y:=by
 have h1:=h.bits
 have h2:=k.bits
 have h3:U6 (JF x+JF y)=false:=by
  unfold U6 bitsLine
  exact decide_eq_false (by omega)
 unfold IntMulOk
 rw[h3]
 simp
noncomputable def DivOk(_ j:Int):Prop:=j≠0∧j.natAbs.log2<9000
theorem DivOk.of{i j:Int}{n:Nat}(h0:j≠0)(h:Bt n j)(hn:n≤9000:=by decide):DivOk i j:=by
 refine⟨h0,?_⟩
 have hp:j.natAbs≠0:=by omega
 have:=(Nat.log2_lt hp).mpr h
 omega
section
variable {X:Cx}
theorem Zyd:OpR X (Vx .Mult) (rI IntMulOk λi j=>.int (i*j)):=opI λ_ _ _ _ _ _ _ hc q=>mul_int q hc
theorem Zwe:OpR X (Vx .FloorDiv) (rI DivOk λi j=>.int (i.fdiv j)):=opI λ_ _ _ _ _ _ _ hc q=>floordiv_int hc.1 q (.inl (PyProof.noPylong_of_log2 hc.2))
theorem Z0u:OpR X (Vx .Pow) (rI Z6c λi j=>.int (i^j.toNat)):=Z4n
end
theorem Zjv(elt target iter:Expr)(ifs:List Expr)(scope:V7)(pos:Pos)(it acc:Xc)(env:Env) :
  compTurn (.ListComp elt [⟨target,iter,ifs,0⟩] scope pos) 0 it acc env=(standAt iter.pos>>= λ_=>pyNext it>>= λr=>match r with
   | none=>pure (.done .next)
   | some v=>Uw target it v>>= λ_=>Ud target env v>>= λ_=>
    (forIn ifs true λc r=>if r=true then do let ok←isTrue c env (eval c env);pure (JK ok)else pure (JK r))>>= λok=>
     if ok=true then((eval elt env>>= λx=>call (.builtin "list.append") [acc,x]>>= λ_=>pure ())>>= λ_=>
      again (.compLoop (.ListComp elt [⟨target,iter,ifs,0⟩] scope pos) 0 it acc env))
     else again (.compLoop (.ListComp elt [⟨target,iter,ifs,0⟩] scope pos) 0 it acc env)):=by rfl
theorem Zm2{prog:XM}{w:Qo}{A:Ql}{R:Result->Xd->Prop}{s:Xd}{elt target iter:Expr}{ifs:List Expr}{scope:V7}{pos:Pos}{it acc:Xc}{env:Env}(I:Nat->Xd->Prop)
  (turn:∀n s,I n s->XN (X7 prog w) A (pyNext it) (λr s₁=>match r with
   | none=>R (.ok .next) s₁
   | some v=>XN (X7 prog w) A (Uw target it v) (λ_ s₁=>XN (X7 prog w) A (Ud target env v) (λ_ s₂=>
     XN (X7 prog w) A (forIn ifs true λc r=>if r=true then do let ok←isTrue c env (eval c env);pure (JK ok)else pure (JK r)) (λok s₃=>
      if ok=true then XN (X7 prog w) A (eval elt env) (λx s₄=>
       XN (X7 prog w) A (call (.builtin "list.append") [acc,x]) (λ_ s₅=>∃m,m<n∧I m s₅) (notedBy (X7 prog w) A env λe s'=>R (.error e) s') s₄) (notedBy (X7 prog w) A env λe s'=>R (.error e) s') s₃
      else∃m,m<n∧I m s₃) (notedBy (X7 prog w) A env λe s'=>R (.error e) s') s₂) (notedBy (X7 prog w) A env λe s'=>R (.error e) s') s₁) (notedBy (X7 prog w) A env λe s'=>R (.error e) s') s₁) (notedBy (X7 prog w) A env λe s'=>R (.error e) s') s)
  (n:Nat) (h:I n s) :
  codeAny (X7 prog w) A (.compLoop (.ListComp elt [⟨target,iter,ifs,0⟩] scope pos) 0 it acc env) R s:=by
 refine codeAny_loop rfl I (λn s hI=>?_) n h
 show XN _ A ((compTurn (.ListComp elt [⟨target,iter,ifs,0⟩] scope pos) 0 it acc env).onRaise (λx=>do noteFrame x env;theTreesLotGoes x)) _ _ s
 refine wpAny_noted ?_
 rw[Zjv]
 refine Xe (wpAny_standAt (Xe (Bk (turn n s hI) (λr s₁ h₁=>?_) λ_ _ h'=>h')))
 cases r with
 | none=>exact X5 h₁
 | some v=>
  refine Xe (Bk h₁ (λ_ s₂ h₂=>?_) λ_ _ h'=>h')
  refine Xe (Bk h₂ (λ_ s₂ h₂=>Xe (Bk h₂ (λok s₃ h₃=>?_) λ_ _ h'=>h')) λ_ _ h'=>h')
  cases ok with
  | false=>exact X5 ⟨rfl,h₃⟩
  | true=>
   exact Xe (Xe (Bk h₃ (λx s₄ h₄=>Xe (Bk h₄ (λ_ s₅ h₅=>X5 (X5 ⟨rfl,h₅⟩)) λ_ _ h'=>h')) λ_ _ h'=>h'))
noncomputable def Zjk(env:Env):List (Str×Bc)->List (Str×Addr)->List (Str×Addr)
 | [],acc=>acc
 | (n,k) :: r,acc=>if k== .free then Zjk env r ((n,(env.cells.lookup n).getD 0) :: acc)else Zjk env r acc
theorem Zk8{env:Env}:∀(names:List (Str×Bc)) (acc:List (Str×Addr)),(∀y∈names,y.2= .free->∃c,env.cells.lookup y.1=some c) ->
  (forIn names acc (λ(y:Str×Bc) cs=>(if y.2== .free then(cellOf env y.1>>= λc=>pure (JK ((y.1,c) :: cs)))else pure (JK cs):Sem (ForInStep (List (Str×Addr))))))=pure (Zjk env names acc)
 | [],acc,_=>by rw[VB];rfl
 | (n,k) :: r,acc,h=>by
  by_cases hk:k= .free
  ·subst hk
   obtain⟨c,hc⟩:=h (n,.free) (.head _) rfl
   have hc':env.cells.lookup n=some c:=hc
   have e:=Zk8 (env:=env) r ((n,c) :: acc) λy hy=>h y (.tail _ hy)
   have ec:cellOf env n=pure c:=by
    unfold cellOf
    rw[hc']
   rw[Ua]
   simp only[beq_self_eq_true,if_true]
   rw[ec]
   simp only[Zjk,beq_self_eq_true,if_true,hc',Option.getD_some]
   exact e
  ·have e:=Zk8 (env:=env) r acc λy hy=>h y (.tail _ hy)
   have hb:(k==QS)=false:=by simpa using hk
   rw[Ua]
   simp only[Zjk,hb,Bq,if_false]
   exact e
theorem Zeq{scope:V7}{env:Env}(h:∀y∈scope.names,y.2= .free->∃c,env.cells.lookup y.1=some c):closureFor scope env=pure (Zjk env scope.names []):=by
 have e:=Zk8 scope.names [] h
 have e':(forIn scope.names ([]:List (Str×Addr)) (λ(y:Str×Bc) cs=>(match y with|(name,kind)=>do
   if kind== .free then do let a←cellOf env name;pure (JK ((name,a) :: cs))else pure (JK cs):Sem (ForInStep (List (Str×Addr))))))=pure (Zjk env scope.names []):=e
 exact congrArg (λ(m:Sem (List (Str×Addr)))=>m>>= λx=>pure x) e'
theorem Zku{env:Env}:∀(names:List (Str×Bc)) (acc:List (Str×Addr)),(∀y∈names,y.2= .free->∃c,env.cells.lookup y.1=some c) ->
  ∀n c,(n,c)∈Zjk env names acc->(n,c)∈acc∨((n,QS)∈names∧env.cells.lookup n=some c)
 | [],acc,_,n,c,h=>.inl h
 | (m,k) :: r,acc,h,n,c,hm=>by
  by_cases hk:k= .free
  ·subst hk
   obtain⟨d,hd⟩:=h (m,.free) (.head _) rfl
   have hd':env.cells.lookup m=some d:=hd
   simp only[Zjk,beq_self_eq_true,if_true,hd',Option.getD_some]at hm
   rcases Zku r _ (λy hy=>h y (.tail _ hy)) n c hm with z|⟨z1,z2⟩
   ·rcases Xw.mp z with z|z
    ·cases z;exact .inr ⟨.head _,hd'⟩
    ·exact .inl z
   ·exact .inr ⟨.tail _ z1,z2⟩
  ·have hb:(k==QS)=false:=by simpa using hk
   simp only[Zjk,hb,Bq,if_false]at hm
   refine(Zku r _ (λy hy=>h y (.tail _ hy)) n c hm).imp id λqz9=>?_
   obtain⟨z1,z2⟩:=qz9
   exact⟨.tail _ z1,z2⟩
theorem Zk4{env:Env}:∀(names:List (Str×Bc)) (acc:List (Str×Addr)),∀p∈acc,p∈Zjk env names acc
 | [],_,_,h=>h
 | (m,k) :: r,acc,p,h=>by
  unfold Zjk
  split
  ·exact Zk4 r _ p (.tail _ h)
  ·exact Zk4 r _ p h
theorem Zlg{env:Env}:∀(names:List (Str×Bc)) (acc:List (Str×Addr)) (n:Str),(n,QS)∈names->∃c,(n,c)∈Zjk env names acc
 | [],_,_,h=>nomatch h
 | (m,k) :: r,acc,n,h=>by
  rcases Xw.mp h with z|z
  ·cases z
   exact⟨_,by
    simp only[Zjk,beq_self_eq_true,if_true]
    exact Zk4 _ _ _ (.head _)⟩
  ·unfold Zjk
   split
   ·exact Zlg r _ n z
   ·exact Zlg r _ n z
theorem Zgt{env:Env}(inj:∀x y c,env.cells.lookup x=some c->env.cells.lookup y=some c->x=y):∀(names:List (Str×Bc)) (acc:List (Str×Addr)),
  (∀ y∈names,y.2= .free->∃c,env.cells.lookup y.1=some c)->(names.map (·.1)).Nodup->(∀p∈acc,env.cells.lookup p.1=some p.2)->(∀p∈acc,p.1∉names.map (·.1))->(acc.Pairwise λx y=>x.2≠y.2) ->
  (Zjk env names acc).Pairwise λx y=>x.2≠y.2
 | [],_,_,_,_,_,h=>h
 | (m,k) :: r,acc,hf,hn,ha,hd,hp=>by
  rw[Qs,QT]at hn
  have hf':∀y∈r,y.2= .free->∃c,env.cells.lookup y.1=some c:=λy hy=>hf y (.tail _ hy)
  have hd':∀p∈acc,p.1∉r.map (·.1):=λp hp z=>hd p hp (by rw[Qs];exact .tail _ z)
  by_cases hk:k= .free
  ·subst hk
   obtain⟨d,hd0⟩:=hf (m,.free) (.head _) rfl
   have hd1:env.cells.lookup m=some d:=hd0
   simp only[Zjk,beq_self_eq_true,if_true,hd1,Option.getD_some]
   refine Zgt inj r _ hf' hn.2 (λp hp'=>?_) (λp hp'=>?_) (List.pairwise_cons.mpr ⟨λp hp' z=>?_,hp⟩)
   ·rcases Xw.mp hp' with rfl|hp'
    ·exact hd1
    ·exact ha p hp'
   ·rcases Xw.mp hp' with rfl|hp'
    ·exact hn.1
    ·exact hd' p hp'
   ·have e:m=p.1:=inj m p.1 d hd1 (by rw[ha p hp',←z])
    exact hd p hp' (by rw[Qs,←e];exact .head _)
  ·have hb:(k==QS)=false:=by simpa using hk
   simp only[Zjk,hb,Bq,if_false]
   exact Zgt inj r _ hf' hn.2 ha hd' hp
structure Zqd(h:Heap)(lo:Nat)(names:List (Str×Bc))(acc cs:List (Str×Addr)):Prop where
 mem:∀n c,(n,c)∈cs->(n,c)∈acc∨(h.IsCell c none∧lo≤c∧(n,JR)∈names)
 has:∀n,(n,JR)∈names->∃c,(n,c)∈cs
 old:∀p∈acc,p∈cs
theorem Zgj:∀(names:List (Str×Bc)) (h:Heap) (lo:Nat) (acc:List (Str×Addr)),lo≤h.objs.size->Zqd (Bu h names) lo names acc (JQ h.objs.size names acc)
 | [],_,_,_,_=>⟨λ_ _ m=>.inl m,(λ_ m=>nomatch m),λ_ m=>m⟩
 | (name,kind) :: r,h,lo,acc,hlo=>by
  by_cases hk:(kind==JR)=true
  ·have ek:kind= .cell:=by simpa using hk
   subst ek
   have ih:=Zgj r (h.push { cls:=.type "cell",data:=.cell none }) lo ((name,h.objs.size) :: acc) (by rw[JB];omega)
   rw[JB]at ih
   have e1:JQ h.objs.size ((name,.cell) :: r) acc=JQ (h.objs.size+1) r ((name,h.objs.size) :: acc):=by
    rw[JQ,if_pos hk]
   have e2:Bu h ((name,.cell) :: r)=Bu (h.push { cls:=.type "cell",data:=.cell none }) r:=by
    rw[Bu,if_pos hk]
   rw[e1,e2]
   refine⟨λn c m=>?_,λn m=>?_,λp m=>ih.old p (.tail _ m)⟩
   ·rcases ih.mem n c m with z|⟨z1,z2,z3⟩
    ·rcases Xw.mp z with z|z
     ·cases z
      exact .inr ⟨⟨_,Uv _ _ _ _ (Qa _ rfl),rfl⟩,hlo,.head _⟩
     ·exact .inl z
    ·exact .inr ⟨z1,z2,.tail _ z3⟩
   ·rcases Xw.mp m with z|z
    ·cases z
     exact⟨_,ih.old _ (.head _)⟩
    ·exact ih.has n z
  ·have ih:=Zgj r h lo acc hlo
   have e1:JQ h.objs.size ((name,kind) :: r) acc=JQ h.objs.size r acc:=by
    rw[JQ,if_neg hk]
   have e2:Bu h ((name,kind) :: r)=Bu h r:=by
    rw[Bu,if_neg hk]
   rw[e1,e2]
   refine⟨λn c m=>(ih.mem n c m).imp id λ⟨z1,z2,z3⟩=>⟨z1,z2,.tail _ z3⟩,λn m=>?_,ih.old⟩
   rcases Xw.mp m with z|z
   ·cases z
    exact absurd rfl hk
   ·exact ih.has n z
theorem Zjg(names:List (Str×Bc)):∀(h:Heap) (acc:List (Str×Addr)),(acc.Pairwise λx y=>x.2≠y.2)->(∀p∈acc,p.2<h.objs.size)->(JQ h.objs.size names acc).Pairwise λx y=>x.2≠y.2:=by
 induction names with
 | nil=>intro h acc ha _;exact ha
 | cons y r ih=>
  intro h acc ha hb
  obtain⟨name,kind⟩:=y
  unfold JQ
  split
  ·have:=ih (h.push { cls:=.type "cell",data:=.cell none }) ((name,h.objs.size) :: acc) (List.pairwise_cons.mpr ⟨λp hp=>XJ (hb p hp),ha⟩) (λp hp=>by
    rw[JB]
    rcases Xw.mp hp with rfl|hp
    ·exact V1 _
    ·exact Nat.lt_succ_of_lt (hb p hp))
   rwa[JB]at this
  ·exact ih h acc ha hb
theorem Zjs{M:Model}{A:Ql}{E:Xc->Xd->Prop}{s:Xd}{scope:V7}{globals:Addr}{cl:List (Str×Addr)}{qual:Str}{env:Env}{Q:Env->Xd->Prop}
  (hQ:Q (newEnv scope s.heap.objs.size globals (JQ (s.heap.objs.size+1) scope.names cl) qual none .none (some env) builtinsNs)
   { s with heap:=Bu (s.heap.push { cls:=.type "dict",data:=.dict #[] }) scope.names }) :
  XN M A (newFunctionEnv scope globals cl [] qual none .none (some env)) Q E s:=by
 simp only[newFunctionEnv,Option.isSome_some,if_true]
 refine Xe (wpAny_alloc ?_)
 refine Xe (wpAny_layCells _ (λname kind cells=>by cases hkc:kind==JR<;>simp[hkc]) _ _ _ _ ?_)
 rw[show({ s with heap:=s.heap.push { cls:=.type "dict",data:=.dict #[] } }:Xd).heap.objs.size=s.heap.objs.size+1 from JB ..]
 rw[VB]
 exact Xe (X5 (X5 hQ))
noncomputable def Wj(X:Cx)(N':List Str)(sc:V7)(C:Addr)(cells:List (Str×Addr))(s₂:Xd)(H₂:Hp)(fp:List Addr):Cx :=
 { X with N:=N',s₀:=s₂,H₀:=H₂,env:=compEnvC sc cells C X.env,outer:=X.stack,stack:=X.stack,ex:=fp,fn:=λx=>sc.names.lookup x==some .cell,pn:=[],xe:=λ_ _=>False }
theorem Zep{env:Env}:∀{names:List (Str×Bc)} {x:Str} {k:Bc},names.lookup x=some k ->
  (names.map λ(n,k)=>if(k==QS&&env.scope.kind== .function&&env.kindOf n==some .cell)then(n,JR)else(n,k)).lookup x=
   some (if(k==QS&&env.scope.kind== .function&&env.kindOf x==some .cell)then JR else k)
 | [],_,_,h=>by simp at h
 | (n,k') :: r,x,k,h=>by
  have ih:=@Zep env r x k
  show List.lookup x ((if(k'==QS&&env.scope.kind== .function&&env.kindOf n==some .cell)=true then(n,JR)else(n,k')) :: _)=_
  cases hx:x==n with
  | true=>
   simp only[QW,hx]at h
   cases h
   have e:=beq_iff_eq.mp hx
   subst e
   split<;>simp[QW]
  | false=>
   simp only[QW,hx]at h
   split
   ·simp only[QW,hx];exact ih h
   ·simp only[QW,hx];exact ih h
theorem Zhh{env:Env}:∀{names:List (Str×Bc)} {x:Str},names.lookup x=none ->
  (names.map λ(n,k)=>if(k==QS&&env.scope.kind== .function&&env.kindOf n==some .cell)then(n,JR)else(n,k)).lookup x=none
 | [],_,_=>rfl
 | (n,k') :: r,x,h=>by
  have ih:=@Zhh env r x
  show List.lookup x ((if(k'==QS&&env.scope.kind== .function&&env.kindOf n==some .cell)=true then(n,JR)else(n,k')) :: _)=_
  cases hx:x==n with
  | true=>
   simp only[QW,hx]at h
   cases h
  | false=>
   simp only[QW,hx]at h
   split
   ·simp only[QW,hx];exact ih h
   ·simp only[QW,hx];exact ih h
theorem Zfi{α:Type}:∀{l:List (Str×α)} {n:Str} {c:α},(l.map (·.1)).Nodup->(n,c)∈l->l.lookup n=some c
 | (k,v) :: r,n,c,hd,h=>by
  rw[Qs,QT]at hd
  rcases Xw.mp h with e|hr
  ·cases e
   simp[QW]
  ·have hne:(n==k)=false:=by
    refine U7.mpr λz=>hd.1 ?_
    have e:n=k:=beq_iff_eq.mp z
    rw[←e]
    exact XQ.mpr ⟨(n,c),hr,rfl⟩
   rw[QW,hne]
   exact Zfi hd.2 hr
theorem Y7{α:Type}:∀{l:List (Str×α)} {n:Str} {c:α},(n,c)∈l->∃d,l.lookup n=some d∧(n,d)∈l
 | (k,v) :: r,n,c,h=>by
  by_cases e:n=k
  ·subst e
   exact⟨v,by simp[QW],Ut⟩
  ·have hne:(n==k)=false:=by simpa using e
   rcases Xw.mp h with z|z
   ·cases z;exact absurd rfl e
   ·obtain⟨d,h1,h2⟩:=Y7 z
    exact⟨d,by rw[QW,hne];exact h1,.tail _ h2⟩
structure CompScope(X:Cx)(own:List Str)(caps:List Nat)(N':List Str)(sc:V7):Prop where
 kind:sc.kind= .function
 nd:N'.Nodup
 names:N'=own ++ caps.map λi=>X.N.getD i Str.empty
 nn:(sc.names.map (·.1)).Nodup
 free:(sc.names.all λy=>y.2 != .free||(X.env.kindOf y.1==some .cell||X.env.kindOf y.1==some .free))=true
 caps:(caps.all λi=>sc.names.lookup (X.N.getD i Str.empty)==some .free)=true
noncomputable def Zap(own:List Str)(caps:List Nat)(σ:St):St:=own.map (λ_=>none) ++ caps.map λi=>(σ[i]?).getD none
section
variable {X:Cx}{own:List Str}{caps:List Nat}{N':List Str}{sc:V7}
theorem CompScope.lk(S:CompScope X own caps N' sc){n:Str}{k:Bc}(h:(n,k)∈sc.names):sc.names.lookup n=some k:=Zfi S.nn h
theorem CompScope.fr(S:CompScope X own caps N' sc){n:Str}(h:(n,QS)∈sc.names):X.env.kindOf n=some .cell∨X.env.kindOf n=some .free:=by
 have:=Bo.mp S.free _ h
 simpa using this
theorem Zqh{pins:List (Addr×Obj)}{σ:St}{H:Hp}{s:Xd}{fp:List Addr}{cl:List (Str×Addr)}(S:CompScope X own caps N' sc)(I:Inv X pins σ H s)
  (f:∀b∈fp,Zk1 X pins H b) (fo:∀b∈fp,∃o,s.heap.get? b=some o)
  (hcl:∀n c,(n,c)∈cl->(n,QS)∈sc.names∧X.env.cells.lookup n=some c) (hcl2:∀n,(n,QS)∈sc.names->∃c,(n,c)∈cl) (hapart:cl.Pairwise λx y=>x.2≠y.2) :
  Inv (Wj X N' sc (s.heap.objs.size+1) (JQ (s.heap.objs.size+2) sc.names cl) s H fp) [] (Zap own caps σ) (upd H s.heap.objs.size (.lst []))
   { s with heap:=Bu ((s.heap.push { cls:=.type "list",data:=.seq #[] }).push { cls:=.type "dict",data:=.dict #[] }) sc.names }:=by
 generalize hh1:s.heap.push { cls:=.type "list",data:=.seq #[] }=h1
 have z1:h1.objs.size=s.heap.objs.size+1:=by rw[←hh1,JB]
 generalize hh2:h1.push { cls:=.type "dict",data:=.dict #[] }=h2
 have z2:h2.objs.size=s.heap.objs.size+2:=by rw[←hh2,JB,z1]
 have BC:=Zgj sc.names h2 (s.heap.objs.size+2) cl (by omega)
 have AP:=Zjg sc.names h2 cl hapart (λp hp=>by
  obtain⟨v,hv⟩:=I.cell p.1 p.2 (hcl p.1 p.2 hp).2
  exact Qd hv.lt (by omega))
 rw[z2]at BC AP
 have keep:∀b o,s.heap.get? b=some o->(Bu h2 sc.names).get? b=some o:=λb o e=>Uv _ _ _ _ (by
  rw[←hh2]
  refine Xj _ ?_
  rw[←hh1]
  exact Xj _ e)
 have hD:(Bu h2 sc.names).get? s.heap.objs.size=some { cls:=.type "list",data:=.seq #[] }:=Uv _ _ _ _ (by
  rw[←hh2]
  refine Xj _ ?_
  rw[←hh1]
  exact Qa _ rfl)
 have hC:(Bu h2 sc.names).Ns (s.heap.objs.size+1) (λ_=>none):=by
  refine Heap.Ns.keeps ?_ (Uv _ _)
  have:=Heap.Ns.new h1 (.type "dict")
  rw[hh2,z1]at this
  exact this
 have cellOld:∀n c,X.env.cells.lookup n=some c->c<s.heap.objs.size:=λn c e=>by
  obtain⟨v,hv⟩:=I.cell n c e
  exact hv.lt
 have lk':∀n c,(JQ (s.heap.objs.size+2) sc.names cl).lookup n=some c->(n,c)∈JQ (s.heap.objs.size+2) sc.names cl:=λn c e=>JM e
 have hnD:H s.heap.objs.size=none:=I.fresh
 have fresh:∀c,s.heap.objs.size<c->upd H s.heap.objs.size (.lst []) c=none:=λc hc=>by
  rw[Z9 (XJ hc)]
  exact I.hok.fresh (Nat.le_of_lt hc)
 have isc:∀n c,(n,c)∈JQ (s.heap.objs.size+2) sc.names cl->∃v,(Bu h2 sc.names).IsCell c v:=λn c m=>by
  rcases BC.mem n c m with z|⟨z,_⟩
  ·obtain⟨v,hv⟩:=I.cell n c (hcl n c z).2
   exact⟨v,hv.keeps keep⟩
  ·exact⟨none,z⟩
 have okH:HOk X.prog X.w (upd H s.heap.objs.size (.lst [])) (Bu h2 sc.names):=by
  refine I.hok.laid keep (Qi _) ?_
  exact⟨Q6 _,[],0,.nil,hD⟩
 have kinds:∀x k,sc.names.lookup x=some k->(relabel sc X.env).names.lookup x=some (if(k==QS&&X.env.scope.kind== .function&&X.env.kindOf x==some .cell)then JR else k):=λx k e=>Zep e
 have kindsR:∀x k,(relabel sc X.env).names.lookup x=some k->∃k',(x,k')∈sc.names∧k=(if(k'==QS&&X.env.scope.kind== .function&&X.env.kindOf x==some .cell)then JR else k'):=λx k e=>by
  cases q:sc.names.lookup x with
  | none=>
   have:=Zhh (env:=X.env) q
   rw[show(relabel sc X.env).names.lookup x=_ from this]at e
   cases e
  | some k'=>
   refine⟨k',JM q,?_⟩
   rw[kinds x k' q]at e
   exact(QG e).symm
 refine⟨⟨I.ok.mod,S.kind,I.ok.glob,I.ok.blt,?_,?_,?_,?_,I.ok.hd,I.ok.frames,.inl rfl,?_,?_,?_,?_,?_,?_,?_⟩,rfl,I.bare,?_,?_,?_,?_,?_,(λp hp=>nomatch hp),okH,?_⟩
 ·show s.heap.objs.size≤s.heap.objs.size+1;omega
 ·intro x y c e1 e2
  exact name_of_addr AP (lk' x c e1) (lk' y c e2)
 ·intro x hx
  rcases hx with hx|hx
  ·obtain⟨k',hm,hk'⟩:=kindsR x _ hx
   cases k' with
   | cell=>
    obtain⟨c,hc⟩:=BC.has x hm
    obtain⟨d,h1,_⟩:=Y7 hc
    exact⟨d,h1⟩
   | free=>
    obtain⟨c,hc⟩:=hcl2 _ hm
    obtain⟨d,h1,_⟩:=Y7 (BC.old _ hc)
    exact⟨d,h1⟩
   | _=>simp at hk'
  ·obtain⟨k',hm,hk'⟩:=kindsR x _ hx
   cases k' with
   | free=>
    obtain⟨c,hc⟩:=hcl2 _ hm
    obtain⟨d,h1,_⟩:=Y7 (BC.old _ hc)
    exact⟨d,h1⟩
   | _=>simp at hk'
 ·intro x c hf e
  have hf':sc.names.lookup x=some .cell:=by simpa [Wj]using hf
  rcases BC.mem x c (lk' x c e)with z|⟨_,z,_⟩
  ·-- a free one and a cell at once: the name stands once
   exfalso
   have q:=S.lk (hcl x c z).1
   rw[hf']at q
   cases q
  ·show s.heap.objs.size≤c;omega
 ·intro b hb
  obtain⟨o,ho⟩:=fo b hb
  have hlt:=Xz ho
  refine⟨Xp (Va hlt (V1 _)),λx c e z=>?_⟩
  rcases BC.mem x c (lk' x c e)with q|⟨_,q,_⟩
  ·exact(f b hb).2.2.2.2.1 x c (hcl x c q).2 z
  ·subst z
   exact absurd hlt (Nat.not_lt.mpr (QM (Vp _ 2) q))
 ·exact I.bs
 ·exact QM I.ok.bsz I.sz
 ·intro b o e hb
  rcases(f b hb).2.2.2.1 with z|z
  ·exact I.ok.noex b o e z
  ·exact absurd (Qd (Xz e) I.ok.bsz) (Nat.not_lt.mpr z)
 ·intro b hb z
  rcases Xw.mp (I.stkSub b z)with q|q
  ·exact(f b hb).2.1 q
  ·exact(f b hb).2.2.1 q
 ·exact I.stack
 ·exact I.stkFree
 ·exact Un.laid keep (Qi _) hnD
 ·refine⟨_,hC,λi x v e1 e2 e3=>?_⟩
  have e1':(own ++ caps.map λi=>X.N.getD i Str.empty)[i]? =some x:=by rw[←S.names];exact e1
  have e2':(own.map (λ_=>(none:Option V)) ++ caps.map λi=>(σ[i]?).getD none)[i]? =some (some v):=e2
  by_cases hi:i<own.length
  ·rw[UV (by simpa using hi),Xl]at e2'
   cases q:own[i]? with
   | none=>rw[q]at e2';cases e2'
   | some y=>rw[q]at e2';cases e2'
  ·rw[JN (by simpa using hi),Xl]at e2'
   rw[JN (by omega),Xl]at e1'
   rw[Xf]at e2'
   cases q:caps[i-own.length]? with
   | none=>rw[q]at e2';cases e2'
   | some j=>
    rw[q]at e1' e2'
    have e1:X.N.getD j Str.empty=x:=QG e1'
    have e2:(σ[j]?).getD none=some v:=QG e2'
    have e4:σ[j]? =some (some v):=by
     cases r:σ[j]? with
     | none=>rw[r]at e2;cases e2
     | some o=>rw[r]at e2;exact congrArg some e2
    have hj:j<X.N.length:=by rw[←I.len];exact(Xm.mp e4).1
    have e5:X.N[j]? =some x:=by rw[←e1];simp[Xh,hj]
    have hc:=Bo.mp S.caps j (Qc q)
    have e6:sc.names.lookup x=some .free:=by rw[←e1];simpa using hc
    have hm:=JM e6
    have kx:=S.fr hm
    obtain⟨m,hn,hl⟩:=I.loc
    obtain⟨u,ru,lo⟩:=hl j x v e5 e4 (by rcases kx with z|z;exact .inr (.inl z);exact .inr (.inr z))
    refine⟨u,ru,.inr ⟨?_,?_⟩⟩
    ·have:=kinds x _ e6
     show(relabel sc X.env).names.lookup x=_∨(relabel sc X.env).names.lookup x=_
     rw[this]
     split
     ·exact .inl rfl
     ·exact .inr rfl
    ·rcases lo with⟨z,_⟩|⟨_,c,hc1,hc2⟩
     ·rcases kx with w|w<;>(rw[w]at z;cases z)
     ·obtain⟨d,hd⟩:=hcl2 x hm
      obtain⟨d',h1,h2⟩:=Y7 (BC.old _ hd)
      refine⟨d',h1,?_⟩
      rcases BC.mem x d' h2 with w|⟨_,_,w⟩
      ·have w':=(hcl x d' w).2
       rw[hc1]at w'
       cases w'
       exact hc2.keeps keep
      ·have:=S.lk w
       rw[e6]at this
       cases this
 ·intro x c e
  exact isc x c (lk' x c e)
 ·exact fresh _ (V1 _)
 ·intro x c e
  rcases BC.mem x c (lk' x c e)with z|⟨_,z,_⟩
  ·have e':=(hcl x c z).2
   have hlt:=cellOld x c e'
   rw[Z9 (Xp hlt)]
   exact I.freeC x c e'
  ·exact fresh c (by omega)
 ·show(Zap own caps σ).length=N'.length
  rw[S.names]
  unfold Zap
  simp
end
noncomputable def Zz7(J:It)(g:TG)(tt:TT)(te:TE)(σ0:St)(D:Addr)(Q:Hp->Prop)(H1:Hp):Prop :=
 ∃W:Nat->Nat->St->Hp->Prop,(∃m,W 0 m σ0 (upd H1 D (.lst [])))∧∀i m σ' H',W i m σ' H' ->
  (J.stop i H'∧Q H')∨(J.go i H'∧∀x H2,J.yld i H' x H2->g x σ' H2 λσ2 H3=>tt σ2 H3 λb H4=>
   if b=true then te σ2 H4 λy H5=>∃ys,H5 D=some (.lst ys)∧ys.length<Xq∧∃m',m'<m∧W (i+1) m' σ2 (upd H5 D (.lst (ys ++ [y])))
   else∃m',m'<m∧W (i+1) m' σ2 H4)
noncomputable def Z0j(own:List Str)(caps:List Nat)(wi:TI)(g:TG)(tt:TT)(te:TE):TE:=λσ H Q=>wi σ H λJ H1=>∀D,H1 D=none->Zz7 J g tt te (Zap own caps σ) D (Q (.ref D)) H1
noncomputable def Z89:TT:=λ_ H Q=>Q true H
noncomputable def Zzg(X:Cx)(ifs:List Expr)(t:TT):Prop :=
 ∀(pins:List (Addr×Obj)) (s:Xd) (σ:St) (H:Hp) (Q:Bool->Hp->Prop),Inv X pins σ H s->t σ H Q ->
  XN (X7 X.prog X.w) X.A (forIn ifs true λc r=>if r=true then do let ok←isTrue c X.env (eval c X.env);pure (JK ok)else pure (JK r)) (TP X pins σ Q) X.xe s
theorem Zym{X:Cx}:Zzg X [] Z89:=λpins s σ H Q I h=>by
 rw[VB]
 exact X5 ⟨H,I,h⟩
theorem Zzs{X:Cx}{c:Expr}{t:TT}(h:PT X c t):Zzg X [c] t:=λpins s σ H Q I q=>wpAny_tests_one (h pins s σ H Q I q)
theorem Zz5{M:Model}{A:Ql}{α:Type}{t:Sem α}{Q Q':α->Xd->Prop}{E:Xc->Xd->Prop}{s:Xd}(h:XN M A t Q (λ_ _=>False) s)(hQ:∀a s,Q a s->Q' a s):XN M A t Q' E s :=
 Bk h hQ λ_ _ z=>z.elim
section
variable {X:Cx}{own:List Str}{caps:List Nat}{N':List Str}{sc:V7}{tg elt iter:Expr}{ifs:List Expr}{pos:Pos}{wi:TI}{g:TG}{tt:TT}{te:TE}
theorem Zoe{pins p':List (Addr×Obj)}{σ σ':St}{H H':Hp}{s s':Xd}{fp:List Addr}{C:Addr}{cells:List (Str×Addr)}{h':Heap}(I:Inv X pins σ H s)(f:∀b∈fp,Zk1 X pins H b)
  (I':Inv (Wj X N' sc C cells s H fp) p' σ' H' s') (hs:Vo C s'.heap h'):Inv X pins σ H' { s' with heap:=h' }:=by
 have hC:s.heap.objs.size≤C:=I'.ok.above
 have B:=I'.base
 have ne:∀b o,s.heap.get? b=some o->b≠C:=λb o e=>Xp (Qd (Xz e) hC)
 obtain⟨m,⟨oC,_,_,hoC,_⟩,_⟩:=I'.loc
 refine I.call' (ch:=fp) (s':={ s' with heap:=h' }) I'.os ⟨λb o e n hb hx=>?_,λb o e n hb hx=>?_,B.free,λb o e hx=>?_,B.tups,B.frzs,B.tbls⟩ (λb ob e=>?_) I'.bare λb hb=>?_
 ·exact(hs.2 b (ne b o e)).trans (B.keep b o e n hb hx)
 ·obtain⟨sl,q⟩:=B.slot b o e n hb hx
  exact⟨sl,(hs.2 b (ne b o e)).trans q⟩
 ·obtain⟨o',q⟩:=B.there b o e hx
  exact⟨o',(hs.2 b (ne b o e)).trans q⟩
 ·have hfree:H' C=none:=I'.free
  refine(I'.hok b ob e).stay (λc w' hc q=>(hs.2 c ?_).trans q) (λ_ q=>q) λ_ _ q=>q
  rintro rfl
  rcases hc with rfl|hc
  ·rw[hfree]at e;cases e
  ·rw[hfree]at hc;cases hc
 ·obtain⟨_,f1,_,f3,f4,f5⟩:=f b hb
  exact⟨f3,f1,f4,f5⟩
theorem Zkj{Qf:Result->Xd->Prop}(S:CompScope X own caps N' sc)(hc:X.calm=true)
  (hg:∀C cells s₂ H₂ fp,PG (Wj X N' sc C cells s₂ H₂ fp) tg g) (ht:∀C cells s₂ H₂ fp,Zzg (Wj X N' sc C cells s₂ H₂ fp) ifs tt) (he:∀C cells s₂ H₂ fp,PE (Wj X N' sc C cells s₂ H₂ fp) elt te)
  {pins:List (Addr×Obj)} {σ:St} {H:Hp} {s:Xd} {fp:List Addr} {it:Addr} {tn:Nat->Heap->Prop} {J:It} {Q:Hp->Prop} (I:Inv X pins σ H s) (T:Turn X.prog X.w X.K tg J fp it tn) (st:tn 0 s.heap) (f:∀b∈fp,Zk1 X pins H b)
  (h:Zz7 J g tt te (Zap own caps σ) s.heap.objs.size Q H)
  (fin:∀s' σ' H' p' C cells,Inv (Wj X N' sc C cells s H fp) p' σ' H' s'->C=s.heap.objs.size+1->Q H'->Qf (.ok .next) s') :
  XN (X7 X.prog X.w) X.A (newFunctionEnv sc X.env.globals (Zjk X.env sc.names []) [] X.env.qual none .none (some X.env)) (λcenv s₄=>
   cenv.locals=s.heap.objs.size+1∧codeAny (X7 X.prog X.w) X.A (.compStart (.ListComp elt [⟨tg,iter,ifs,0⟩] sc pos) 0 (.ref it) (.ref s.heap.objs.size) { cenv with scope:=relabel sc X.env }) Qf s₄) X.xe
    { s with heap:=s.heap.push { cls:=.type "list",data:=.seq #[] } }:=by
 have hf:∀y∈sc.names,y.2= .free->∃c,X.env.cells.lookup y.1=some c:=λy hy e=>by
  obtain⟨n,k⟩:=y
  have e':k= .free:=e
  subst e'
  exact I.ok.has n (S.fr hy)
 have hcl:∀n c,(n,c)∈Zjk X.env sc.names []->(n,QS)∈sc.names∧X.env.cells.lookup n=some c:=λn c m=>(Zku sc.names [] hf n c m).elim (λz=>nomatch z) id
 have hap:=Zgt I.ok.inj sc.names [] hf S.nn (λ_ z=>nomatch z) (λ_ z=>nomatch z) .nil
 have I0:=Zqh (cl:=Zjk X.env sc.names []) S I f (λb hb=>let⟨o,e,_⟩:=T.obj _ _ st b hb;⟨o,e⟩) hcl (λn m=>Zlg sc.names [] n m) hap
 refine Zjs ?_
 rw[show({ s with heap:=s.heap.push { cls:=.type "list",data:=.seq #[] } }:Xd).heap.objs.size=s.heap.objs.size+1 from JB ..]
 refine⟨rfl,?_⟩
 dsimp only
 generalize hs0:({ s with heap:=Bu ((s.heap.push { cls:=.type "list",data:=.seq #[] }).push { cls:=.type "dict",data:=.dict #[] }) sc.names }:Xd)=s0 at I0⊢
 have st0:tn 0 s0.heap:=T.keep _ _ _ st λb hb o e=>by
  rw[←hs0]
  exact Uv _ _ _ _ (Xj _ (Xj _ e))
 generalize hcells:JQ (s.heap.objs.size+1+1) sc.names (Zjk X.env sc.names [])=cells at I0⊢
 -- the loop
 obtain⟨W,⟨m0,w0⟩,turn⟩:=h
 have loop:codeAny (X7 X.prog X.w) X.A (.compLoop (.ListComp elt [⟨tg,iter,ifs,0⟩] sc pos) 0 (.ref it) (.ref s.heap.objs.size) (Wj X N' sc (s.heap.objs.size+1) cells s H fp).env) Qf s0:=by
  generalize hX':Wj X N' sc (s.heap.objs.size+1) cells s H fp=X' at I0⊢
  have hg':=hg (s.heap.objs.size+1) cells s H fp
  have ht':=ht (s.heap.objs.size+1) cells s H fp
  have he':=he (s.heap.objs.size+1) cells s H fp
  have fin':=λs' σ' H' p' (z:Inv (Wj X N' sc (s.heap.objs.size+1) cells s H fp) p' σ' H' s')=>fin s' σ' H' p' _ _ z rfl
  rw[hX']at hg' ht' he' fin'
  have hxe:X'.xe= λ_ _=>False:=by rw[←hX'];rfl
  have hpr:X'.prog=X.prog:=by rw[←hX'];rfl
  have hw:X'.w=X.w:=by rw[←hX'];rfl
  have hK:X'.K=X.K:=by rw[←hX'];rfl
  have hA:X'.A=X.A:=by rw[←hX'];rfl
  have hcm:X'.calm=true:=by rw[←hX'];exact hc
  have hex:X'.ex=fp:=by rw[←hX'];rfl
  have hpn:X'.pn=[]:=by rw[←hX'];rfl
  have stat:∀{H':Hp},(∀b∈fp,H' b=none)->∀b∈fp,Zk1 X' [] H' b:=λhn b hb=>by
   have e1:=I0.ok.exf b (by rw[hex];exact hb)
   have e2:=I0.ok.exfs b (by rw[hex];exact hb)
   exact⟨hn b hb,e1.1,e2,.inl (by rw[hex];exact hb),e1.2,λp hp=>by rw[hpn]at hp;exact nomatch hp⟩
  have frD:∀b∈fp,(upd H s.heap.objs.size (.lst [])) b=none:=λb hb=>by
   obtain⟨o,e,_⟩:=T.obj _ _ st b hb
   rw[Z9 (Xp (Xz e))]
   exact(f b hb).1
  have T':Turn X'.prog X'.w X'.K tg J fp it tn:=by rw[hpr,hw,hK];exact T
  rw[←hpr,←hw,←hA]
  refine Zm2 (λn s'=>∃i σ' H',Inv X' [] σ' H' s'∧tn i s'.heap∧(∀b∈fp,H' b=none)∧W i n σ' H') ?_ m0 ⟨0,_,_,I0,st0,frD,w0⟩
  rintro n s3 ⟨i,σ3,H3,I3,st3,fr3,w3⟩
  rcases turn i n σ3 H3 w3 with⟨stop,qn⟩|⟨go,step⟩
  ·refine Zz5 (T'.done X' rfl rfl rfl hcm i [] s3 σ3 H3 _ I3 (stat fr3) st3 stop) λr s4 qz9=>?_
   obtain⟨hr,I4⟩:=qz9
   subst hr
   exact fin' s4 σ3 H3 [] I4 qn
  ·refine Zz5 (T'.item X' rfl rfl rfl hcm i [] s3 σ3 H3 _ I3 (stat fr3) st3 go) λr s4 qz9=>?_
   obtain⟨u,hr,h4⟩:=qz9
   subst hr
   refine Zz5 h4 λ_ s5 qz9=>?_
   obtain⟨x,H5,I5,r5,y5,st5,fr5⟩:=qz9
   have I5':=I5.pinned (stat fr5) (T.obj _ _ st5)
   have hgg:=hg' _ s5 σ3 H5 x u _ I5' r5 (step x H5 y5)
   rw[hxe]at hgg
   refine Zz5 hgg λ_ s6 qz9=>?_
   obtain⟨σ6,H6,I6,q6⟩:=qz9
   have htt:=ht' _ s6 σ6 H6 _ I6 q6
   rw[hxe]at htt
   refine Zz5 htt λok s7 qz9=>?_
   obtain⟨H7,I7,q7⟩:=qz9
   have again:∀{σ7:St} {H7:Hp} {s7:Xd} {m:Nat},Inv X' ([] ++ Zmb fp s5.heap) σ7 H7 s7->W (i+1) m σ7 H7->m<n->∃m,m<n∧∃i σ' H',Inv X' [] σ' H' s7∧tn i s7.heap∧(∀b∈fp,H' b=none)∧W i m σ' H':=fun{σ7 H7 s7 m} I7 w7 hm=>by
    refine⟨m,hm,i+1,σ7,H7,I7.unpinned,T.keep _ _ _ st5 λb hb o e=>(I7.pin (b,o) (Qw _ (Qw _ (Zeh hb e)))).1,λb hb=>?_,w7⟩
    obtain⟨o,e,d⟩:=T.obj _ _ st5 b hb
    exact(I7.pin (b,o) (Qw _ (Qw _ (Zeh hb e)))).2.1
   cases ok with
   | false=>
    obtain⟨m',hm,w7⟩:=q7
    rw[if_neg Xu]
    exact again I7 w7 hm
   | true=>
    rw[if_pos rfl]
    have hee:=he' _ s7 σ6 H7 _ I7 q7
    rw[hxe]at hee
    refine Zz5 hee λy s8 qz9=>?_
    obtain⟨vy,H8,I8,r8,ys,hD,hlen,m',hm,w8⟩:=qz9
    have hap:=Zlz (X:=X') _ s8 σ6 H8 (.ref s.heap.objs.size) [vy] (.ref s.heap.objs.size) [y] (λ_ H'=>W (i+1) m' σ6 H') I8 rfl (.cons r8 .nil) ⟨_,ys,vy,rfl,rfl,hD,hlen,w8⟩
    rw[hxe]at hap
    refine Zz5 hap λz s9 qz9=>?_
    obtain⟨_,H9,I9,_,w9⟩:=qz9
    exact again I9 w9 hm
 exact codeAny_compStart_list loop (T.self _ 0 _ _ _ st0 loop)
theorem Zyl(S:CompScope X own caps N' sc)(hc:X.calm=true)(hi:PI X tg iter wi)
  (hg:∀C cells s₂ H₂ fp,PG (Wj X N' sc C cells s₂ H₂ fp) tg g) (ht:∀C cells s₂ H₂ fp,Zzg (Wj X N' sc C cells s₂ H₂ fp) ifs tt) (he:∀C cells s₂ H₂ fp,PE (Wj X N' sc C cells s₂ H₂ fp) elt te)
  (hs:∀x,Bh iter X.env x=pure x:=by intro _;rfl):PE X (.ListComp elt [⟨tg,iter,ifs,0⟩] sc pos) (Z0j own caps wi g tt te):=by
 intro pins s σ H Q I h
 rw[eval_ListComp]
 have hf:∀y∈sc.names,y.2= .free->∃c,X.env.cells.lookup y.1=some c:=λy hy e=>by
  obtain⟨n,k⟩:=y
  have e':k= .free:=e
  subst e'
  exact I.ok.has n (S.fr hy)
 refine wpAny_comprehension_free (use:=none) rfl hs (Zeq hf) S.kind (λy hy e=>by obtain⟨n,k⟩:=y;have e':k= .local:=e;subst e';exact S.lk hy) ?_
 refine thn (hi pins s σ H _ I h) λv s1 h1=>thn h1 λitv s2 h2=>?_
 obtain⟨it,fp,tn,J,H2,e,I2,T,st2,f2,q⟩:=h2
 subst e
 refine wpAny_newObj_type ?_
 refine thn (Zkj (iter:=iter) (pos:=pos) (Qf:=compPost (X7 X.prog X.w) X.A X.xe none (EP X pins σ Q) (.ref s2.heap.objs.size) (s2.heap.objs.size+1)) S hc hg ht he I2 T st2 f2 (q s2.heap.objs.size I2.fresh) ?_) λcenv s4 ⟨hl,hr⟩=>?_
 ·intro s' σ' H' p' C cells I' eC q'
  subst eC
  obtain⟨m,hn,_⟩:=id I'.loc
  exact⟨m,hn,λh' hs'=>⟨.ref s2.heap.objs.size,H',Zoe I2 f2 I' hs',rfl,q'⟩⟩
 ·rw[←hl]at hr
  exact hr
end
section
variable {X:Cx}{own:List Str}{caps:List Nat}{N':List Str}{sc:V7}{tg elt iter:Expr}{ifs:List Expr}{pos:Pos}{wi:TI}{g:TG}{tt:TT}{te:TE}
theorem Zpq{i:Nat}{y:Str}{py spos:Pos}(hN:X.N.Nodup)(hy:X.N[i]? =some y)(hx:Loc X.env.scope y)(S:CompScope X own caps N' sc)(hc:X.calm=true)(hi:PI X tg iter wi)
  (hg:∀C cells s₂ H₂ fp,PG (Wj X N' sc C cells s₂ H₂ fp) tg g) (ht:∀C cells s₂ H₂ fp,Zzg (Wj X N' sc C cells s₂ H₂ fp) ifs tt) (he:∀C cells s₂ H₂ fp,PE (Wj X N' sc C cells s₂ H₂ fp) elt te)
  (hsw:Uc (.ListComp elt [⟨tg,iter,ifs,0⟩] sc pos) (some (.Name y py)) spos.line X.env=pure true:=by rfl)
  (hs:∀x,Bh iter X.env x=pure x:=by intro _;rfl) (hf:X.fn y=true∨X.env.scope.names.lookup y=some .local:=by first|exact .inl rfl|exact .inr rfl|assumption) :
  PS X (.Assign [.Name y py] (.ListComp elt [⟨tg,iter,ifs,0⟩] sc pos) spos) (Z3w (Z0j own caps wi g tt te) (Zrf i)):=by
 intro pins s σ H D I h
 have hfr:∀y∈sc.names,y.2= .free->∃c,X.env.cells.lookup y.1=some c:=λy hy e=>by
  obtain⟨n,k⟩:=y
  have e':k= .free:=e
  subst e'
  exact I.ok.has n (S.fr hy)
 rw[exec_Assign_Name_used _ _ _ _ hsw]
 refine Xe (wpAny_standAt (Xe ?_))
 show XN _ X.A (do let _←comprehension (.ListComp elt [⟨tg,iter,ifs,0⟩] sc pos) sc X.env _ (newList []) false (eval iter X.env) (some (Ud (.Name y py) X.env))) _ _ s
 refine Xe (Bk (wpAny_comprehension_free (use:=some (Ud (.Name y py) X.env)) (Q:=λ_ s'=>SP X pins D .next s') rfl hs (Zeq hfr) S.kind (λy hy e=>by obtain⟨n,k⟩:=y;have e':k= .local:=e;subst e';exact S.lk hy) ?_) (λ_ s' hq=>X5 (X5 hq)) λ_ _ e=>e)
 refine thn (hi pins s σ H _ I h) λv s1 h1=>thn h1 λitv s2 h2=>?_
 obtain⟨it,fp,tn,J,H2,e,I2,T,st2,f2,q⟩:=h2
 subst e
 refine wpAny_newObj_type ?_
 refine thn (Zkj (iter:=iter) (pos:=pos) (Qf:=compPost (X7 X.prog X.w) X.A X.xe (some (Ud (.Name y py) X.env)) (λ_ s'=>SP X pins D .next s') (.ref s2.heap.objs.size) (s2.heap.objs.size+1)) S hc hg ht he I2 T st2 f2 (q s2.heap.objs.size I2.fresh) ?_) λcenv s4 ⟨hl,hr⟩=>?_
 ·intro s' σ' H' p' C cells I' eC q'
  subst eC
  obtain⟨m,hn,_⟩:=id I'.loc
  have I3:Inv X pins σ H' s':=Zoe I2 f2 I' (.refl ..)
  show XN _ X.A (Ud (.Name y py) X.env (.ref s2.heap.objs.size)) _ _ s'
  refine wpAny_assign_Name (Zmd (v:=.ref s2.heap.objs.size) I3 hN hy hx rfl (λs5 I5 hsb=>?_) hf)
  have hC:s2.heap.objs.size<s2.heap.objs.size+1:=V1 _
  have ltL:X.env.locals<s2.heap.objs.size:=I2.lt
  have ltC:∀x c,X.env.cells.lookup x=some c->c<s2.heap.objs.size:=λx c e=>by
   obtain⟨w',z⟩:=I2.cell x c e
   exact z.lt
  refine⟨m,?_,λh' hs'=>⟨σ.set i (some (.ref s2.heap.objs.size)),H',?_,q'⟩⟩
  ·obtain⟨a,hsa,ha⟩:=hsb
   refine hn.sameBut hsa ?_
   rcases ha with ha|ha
   ·rw[ha];exact XJ (Va ltL hC)
   ·exact XJ (Va (ltC _ _ ha) hC)
  ·refine I5.turned (t':=s5.toks) (it:=s2.heap.objs.size+1) (λb o hb e=>(hs'.2 b hb).trans e) I'.free (XJ (Va ltL hC)) (.inr (QM I2.sz (Nat.le_of_lt hC))) (λx c e=>Xp (Va (ltC x c e) hC)) λp hp=>?_
   obtain⟨e,_⟩:=I2.pin p hp
   exact Xp (Va (Xz e) hC)
 ·rw[←hl]at hr
  exact hr
end
section
variable (n:Nat)(D:Addr)(Pv:Nat->List V->St->Hp->Prop)
variable {n D Pv}
end
mutual
inductive Is(H:Hp)(L:Addr->Prop):V->Xa->Prop where
 | non:Is H L .non .none
 | bl (b:Bool):Is H L (.bl b) (.bool b)
 | int (i:Int):Is H L (.int i) (.int i)
 | str (x:Str):Is H L (.str x) (.str x)
 | lst {a:Addr} {xs:List V} {ds:List Xa}:L a->H a=some (.lst xs)->IsAll H L xs ds->Is H L (.ref a) (.list ds)
 | tup {a:Addr} {xs:List V} {ds:List Xa}:H a=some (.tup xs)->IsAll H L xs ds->Is H L (.ref a) (.tuple ds)
inductive IsAll(H:Hp)(L:Addr->Prop):List V->List Xa->Prop where
 | nil:IsAll H L [] []
 | cons {x:V} {xs:List V} {d:Xa} {ds:List Xa}:Is H L x d->IsAll H L xs ds->IsAll H L (x :: xs) (d :: ds)
end
section
variable {H H':Hp}{L L':Addr->Prop}
theorem IsAll.ind{Q:List V->List Xa->Prop}(n:Q [] [])(c:∀{x:V} {xs:List V} {d:Xa} {ds:List Xa},Is H L x d->IsAll H L xs ds->Q xs ds->Q (x :: xs) (d :: ds)):∀{xs ds},IsAll H L xs ds->Q xs ds:=λh=>
 IsAll.rec (motive_1:=λ_ _ _=>True) (motive_2:=λxs ds _=>Q xs ds) trivial (λ_=>trivial) (λ_=>trivial) (λ_=>trivial) (λ_ _ _ _=>trivial) (λ_ _ _=>trivial) n (λp q _ r=>c p q r) h
theorem IsAll.length{xs:List V}{ds:List Xa}(h:IsAll H L xs ds):xs.length=ds.length:=IsAll.ind (Q:=λxs ds=>xs.length=ds.length) rfl (λ_ _ r=>congrArg (·+1) r) h
theorem IsAll.append{xs ys:List V}{ds es:List Xa}(h:IsAll H L xs ds)(k:IsAll H L ys es):IsAll H L (xs ++ ys) (ds ++ es):=IsAll.ind (Q:=λxs ds=>IsAll H L (xs ++ ys) (ds ++ es)) k (λh _ r=>.cons h r) h
theorem IsAll.snoc{xs:List V}{ds:List Xa}{x:V}{d:Xa}(h:IsAll H L xs ds)(k:Is H L x d):IsAll H L (xs ++ [x]) (ds ++ [d]):=h.append (.cons k .nil)
theorem IsAll.set{xs:List V}{ds:List Xa}{x:V}{d:Xa}(i:Nat)(h:IsAll H L xs ds)(k:Is H L x d):IsAll H L (xs.set i x) (ds.set i d) :=
 IsAll.ind (Q:=λxs ds=>∀i,IsAll H L (xs.set i x) (ds.set i d)) (λ_=>.nil) (λh q r i=>Nat.casesOn i (.cons k q) λi=>.cons h (r i)) h i
end
section
variable {X:Cx}{pins:List (Addr×Obj)}{σ:St}{H:Hp}{s:Xd}{L L':Addr->Prop}
end
noncomputable abbrev Shp(d:Xa):Prop:=Be d=true
section
variable {X:Cx}
end
mutual
noncomputable def Yr:Xa->Bool
 | .none=>true
 | .int _=>true
 | .str _=>true
 | .list ds=>Zbt ds
 | .tuple ds=>Zbt ds
 | _=>false
noncomputable def Zbt:List Xa->Bool
 | []=>true
 | d :: ds=>Yr d&&Zbt ds
end
mutual
theorem Zlf:∀(d e:Xa),Yr d=true->Yr e=true->(Qy d e=true↔d=e)
 | .none,e,_,he=>by cases e<;>simp_all [Qy,Yr]
 | .int i,e,_,he=>by cases e<;>simp_all [Qy,Yr]
 | .str i,e,_,he=>by cases e<;>simp_all [Qy,Yr]
 | .list ds,e,hd,he=>by
  cases e with
  | list es=>
   rw[Yr]at hd he
   rw[Qy,JW.injEq]
   exact Zgu ds es hd he
  | _=>simp_all [Qy,Yr]
 | .tuple ds,e,hd,he=>by
  cases e with
  | tuple es=>
   rw[Yr]at hd he
   rw[Qy,Xa.tuple.injEq]
   exact Zgu ds es hd he
  | _=>simp_all [Qy,Yr]
 | .bool b,e,hd,_=>by simp[Yr]at hd
 | .dict b,e,hd,_=>by simp[Yr]at hd
theorem Zgu:∀(ds es:List Xa),Zbt ds=true->Zbt es=true->(UJ ds es=true↔ds=es)
 | [],[],_,_=>by simp[UJ]
 | [],_ :: _,_,_=>by simp[UJ]
 | _ :: _,[],_,_=>by simp[UJ]
 | d :: ds,e :: es,hd,he=>by
  rw[Zbt,Xo]at hd he
  rw[UJ,Xo,Zlf d e hd.1 he.1,Zgu ds es hd.2 he.2,List.cons.injEq]
end
theorem Zta{d e:Xa}(h:Yr d=true)(k:Yr e=true)(q:d=e):Qy d e=true:=(Zlf d e h k).mpr q
theorem Zrd{d e:Xa}(h:Yr d=true)(k:Yr e=true)(q:d≠e):Qy d e=false:=U7.mpr λz=>q ((Zlf d e h k).mp z)
noncomputable def fr(a b:Int):Xa:=.tuple [.int a,.int b]
theorem Zhy(a b:Int):Yr (fr a b)=true:=rfl
theorem Z2s{a b c d:Int}:fr a b=fr c d↔a=c∧b=d:=by
 unfold fr
 simp
theorem Zfe{t b:Int}(hb:b≠0):0<(JG t b:Int):=by
 have:=Int.gcd_pos_of_ne_zero_right t hb
 omega
theorem Zaf{t g:Int}(hg:0<g):t.fdiv g=t/g:=Uy t (by omega)
theorem Zde{t g:Int}(hg:0<g)(h:g∣t):t.fdiv (-g)= -(t/g):=by
 obtain⟨k,rfl⟩:=h
 rw[Int.mul_ediv_cancel_left _ (by omega)]
 have e:g*k=(-k)*(-g):=by rw[Int.neg_mul_neg,Int.mul_comm]
 rw[e,Int.mul_fdiv_cancel _ (by omega)]
noncomputable def shr(t b:Int):Int:=if b<0 then -(JG t b:Int)else(JG t b:Int)
theorem Z0w{t b:Int}(hb:b≠0):t.fdiv (shr t b)=(QZ t b).num:=by
 have hg:=Zfe (t:=t) hb
 have hd:(JG t b:Int)∣t:=Int.gcd_dvd_left ..
 rw[Rat.num_divInt,Int.gcd_comm b t]
 unfold shr
 by_cases h:b<0
 ·rw[if_pos h,Zde hg hd,Int.sign_eq_neg_one_of_neg h,Int.neg_one_mul,Int.neg_ediv_of_dvd hd]
 ·rw[if_neg h,Zaf hg,Int.sign_eq_one_of_pos (by omega),Int.one_mul]
theorem Zzb{t b:Int}(hb:b≠0):b.fdiv (shr t b)=((QZ t b).den:Int):=by
 have hg:=Zfe (t:=t) hb
 have hd:(JG t b:Int)∣b:=Int.gcd_dvd_right ..
 rw[Rat.den_divInt,if_neg hb,Int.gcd_comm b t]
 unfold shr
 by_cases h:b<0
 ·have e:(b.natAbs:Int)= -b:=by omega
  rw[if_pos h,Zde hg hd,Int.natCast_ediv,e,Int.neg_ediv_of_dvd hd]
 ·have e:(b.natAbs:Int)=b:=by omega
  rw[if_neg h,Zaf hg,Int.natCast_ediv,e]
theorem Zwz{t b:Int}(hb:b≠0):shr t b≠0:=by
 have hg:=Zfe (t:=t) hb
 unfold shr
 split<;>omega
theorem Zxd{n:Nat}{t b:Int}(hb:b≠0)(h:Bt n b):Bt n (shr t b):=by
 have h1:Bt n (JG t b:Int):=by
  refine Bt.of_le h ?_
  have:=Int.gcd_le_natAbs_right t hb
  omega
 unfold shr
 split
 ·exact h1.neg
 ·exact h1
theorem Zxq{n:Nat}{t b:Int}(hb:b≠0)(h:Bt n t):Bt n (QZ t b).num:=by
 rw[Rat.num_divInt]
 refine Bt.of_le h ?_
 refine QM (Bw _ _) ?_
 rw[Int.natAbs_mul]
 have:b.sign.natAbs≤1:=by
  rw[Int.natAbs_sign]
  split<;>omega
 calc b.sign.natAbs*t.natAbs≤1*t.natAbs:=Nat.mul_le_mul_right _ this
  _=t.natAbs:=Nat.one_mul _
theorem Zxo{n:Nat}{t b:Int}(hb:b≠0)(h:Bt n b):Bt n ((QZ t b).den:Int):=by
 rw[Rat.den_divInt,if_neg hb]
 refine Bt.of_le h ?_
 show((b.natAbs/b.gcd t:Nat):Int).natAbs≤_
 rw[Vv]
 exact Nat.div_le_self _ _
theorem Zrj(q:Rat):(q.den:Int)≠0:=by
 have:=q.den_pos
 omega
theorem Wz(q:Rat):(0:Int)<(q.den:Int):=by
 have:=q.den_pos
 omega
theorem Zug(q r:Rat):QZ (q.num*(r.den:Int)+r.num*(q.den:Int)) ((q.den:Int)*(r.den:Int))=q+r:=by
 rw[Rat.add_def',←Ue,Rat.divInt_ofNat]
theorem Zl8(q r:Rat):QZ (q.num*r.num) ((q.den:Int)*(r.den:Int))=q*r:=by
 rw[Rat.mul_def',←Ue,Rat.divInt_ofNat]
noncomputable def frD(q:Rat):Xa:=fr q.num (q.den:Int)
theorem Zrt{q r:Rat}:frD q=frD r↔q=r:=by
 unfold frD
 rw[Z2s]
 constructor
 ·rintro⟨h1,h2⟩
  exact Rat.ext h1 (by omega)
 ·rintro rfl
  exact⟨rfl,rfl⟩
theorem Z3b(q r:Rat):Qy (frD q) (frD r)=decide (q=r):=by
 by_cases h:q=r
 ·rw[decide_eq_true h]
  exact Zta (Zhy _ _) (Zhy _ _) (Zrt.mpr h)
 ·rw[decide_eq_false h]
  exact Zrd (Zhy _ _) (Zhy _ _) λz=>h (Zrt.mp z)
noncomputable def BQ(n:Nat)(q:Rat):Prop:=Bt n q.num∧Bt n (q.den:Int)
theorem BQ.mono{m n:Nat}{q:Rat}(h:BQ m q)(k:m≤n):BQ n q:=⟨h.1.mono k,h.2.mono k⟩
theorem BQ.zero:BQ 1 0:=⟨by unfold Bt;decide,by unfold Bt;decide⟩
section
variable {X:Cx}{K:Xb}{a b o e:Expr}{ta tb tl to:TE}{pos:Pos}
theorem Zwf(hK:X.K=K):IxR X (Z84 K):=hK▸Zsv
theorem Z09(hK:X.K=K):IxR X (rIx K):=hK▸Z1z
theorem Zt2(hK:X.K=K):SlR X (Ya4 K):=hK▸Zyi
noncomputable def Yag(K:Xb):List V->Hp->VK->Prop:=λxs H Q=>∃p ys,xs=[.ref p]∧(SqL K H p ys∨SqT K H p ys)∧Q (.int ys.length) H
theorem Ztb(hK:X.K=K):Zcl X (.builtin "len") (Yag K):=by subst hK;exact Zmt
noncomputable def Ztj(K:Xb):List V->Hp->VK->Prop:=λxs H Q=>∃p ys,xs=[.ref p]∧(SqL K H p ys∨SqT K H p ys)∧∀l,H l=none->Q (.ref l) (upd H l (.lst ys))
theorem Zj3(hK:X.K=K):Zcl X (.type "list") (Ztj K):=by subst hK;exact Zmn
noncomputable def Ycm(K:Xb)(ta:TE):TT:=λσ H Q=>ta σ H λx H'=>∃k,Z9n K x H' k∧Q k H'
theorem Zyt(hK:X.K=K)(ha:PE X a ta)(he:∀whole,isTrue a X.env whole=(do let v←whole;standAt a.pos;holding [v] (truthy v))):PT X a (Ycm K ta):=by subst hK;exact Zuh ha he
theorem Zvy{tg l:Expr}(hK:X.K=K)(hl:PE X l tl):PI X tg l (Z4s K tl):=by subst hK;exact Zz8 hl
theorem Zy4{tg l:Expr}(hK:X.K=K)(hl:PE X l tl):PI X tg l (Ybv K tl):=by subst hK;exact Z1w hl
theorem Zso(hK:X.K=K):OpR X (Bj .In) (rIn K false):=by subst hK;exact Zri
theorem Zss(hK:X.K=K):OpR X (Bj .NotIn) (rIn K true):=by subst hK;exact Zmv
end
theorem Yu{H:Hp}{p:Addr}(h:H p=none)(o:HO):Same H (upd H p o):=λb u q=>by rw[Z9 (Wc q h)];exact q
noncomputable def But(p:Addr)(H H':Hp):Prop:=∀b o,b≠p->H b=some o->H' b=some o
theorem But.trans{p:Addr}{H H1 H2:Hp}(a:But p H H1)(b:But p H1 H2):But p H H2:=λc o n e=>b c o n (a c o n e)
theorem But.upd(p:Addr)(H:Hp)(o:HO):But p H (upd H p o):=λb u n e=>by rw[Z9 n];exact e
noncomputable def Pl(H:Hp)(p:Addr)(n:Nat):Prop:=∃a b c:Int,H p=some (.lst [.int a,.int b,.int c])∧0≤c∧c≤n
theorem Pl.mono{H:Hp}{p:Addr}{m n:Nat}(h:Pl H p m)(k:m≤n):Pl H p n:=by
 obtain⟨a,b,c,e,h1,h2⟩:=h
 exact⟨a,b,c,e,h1,by omega⟩
theorem Pl.at{H:Hp}{p:Addr}{n:Nat}(h:Pl H p n):∃xs,H p=some (.lst xs):=by
 obtain⟨a,b,c,e,h1,h2⟩:=h
 exact⟨_,e⟩
namespace B
theorem boot_abs:Qk "abs"=some (.builtin "abs"):=by decide +kernel
theorem boot_len:Qk "len"=some (.builtin "len"):=by decide +kernel
theorem boot_max:Qk "max"=some (.builtin "max"):=by decide +kernel
theorem boot_min:Qk "min"=some (.builtin "min"):=by decide +kernel
theorem boot_isinstance:Qk "isinstance"=some (.builtin "isinstance"):=by decide +kernel
theorem boot_sum:Qk "sum"=some (.builtin "sum"):=by decide +kernel
theorem boot_sorted:Qk "sorted"=some (.builtin "sorted"):=by decide +kernel
theorem boot_int:Qk "int"=some (.type "int"):=by decide +kernel
theorem boot_bool:Qk "bool"=some (.type "bool"):=by decide +kernel
theorem boot_list:Qk "list"=some (.type "list"):=by decide +kernel
theorem boot_tuple:Qk "tuple"=some (.type "tuple"):=by decide +kernel
theorem boot_range:Qk "range"=some (.type "range"):=by decide +kernel
theorem boot_zip:Qk "zip"=some (.type "zip"):=by decide +kernel
end B
theorem Zh1{a b:Int}(hb:0<b):a.fmod b=a%b:=Int.fmod_eq_emod_of_nonneg a (by omega)
theorem Zu0{x y:Int}(hx:0≤x)(hy:0<y):JG y (x.fmod y)=JG x y:=by
 rw[Zh1 hy,Int.gcd_comm x y]
 have e:=Int.emod_add_mul_ediv x y
 conv=>rhs;rw[←e]
 rw[Int.gcd_add_mul_left_right]
theorem Z4t:(2:Nat)≤Xq:=by decide
theorem Zu9(q:Rat):QZ q.num (q.den:Int)=q:=Ux q
theorem BQ.n{n:Nat}{q:Rat}(h:BQ n q):Bt n q.num:=h.1
theorem BQ.d{n:Nat}{q:Rat}(h:BQ n q):Bt n (q.den:Int):=h.2
theorem Yc7(q:Rat):(((q.den:Int)):Rat)≠0:=by
 intro z
 exact Zrj q (Rat.intCast_eq_zero_iff.mp z)
theorem Yco(q:Rat):((q.num:Int):Rat)=q*(((q.den:Int)):Rat):=by
 have h:=Zu9 q
 rw[VH]at h
 have d:=Yc7 q
 conv=>rhs;lhs;rw[←h]
 grind
variable {G:Xb}
noncomputable def KS(G:Xb)(a:Addr)(ns:List Int):Prop:=∃(o:Obj) (its:Array Xc) (n:Nat),G.lookup a=some o∧o.cls= .type "list"∧o.dict=none∧o.data= .seq its n∧its.size≤Xq∧Vals (ns.map V.int) its.toList
theorem KS.sq{G:Xb}{H:Hp}{a:Addr}{ns:List Int}(h:KS G a ns):SqL G H a (ns.map V.int):=.inr h
noncomputable def exD(x:Str):Xa:=.dict [(.str x,.none)]
noncomputable def fnD(x:Str):Xa:=.dict [(.str x,.bool true)]
noncomputable def Zj0:Xa->Bool| .dict ((_,.bool _) :: _)=>true|_=>false
noncomputable def ClsAt(G:Xb)(x:Str)(C:Addr):Prop:=Q3 G Qg x=some (some (.ref C))
structure Zir(G:Xb)(C:Addr):Prop where
 ga:BL G (.ref C) "__getattribute__"=some (some (.builtin "BaseException.__getattribute__"))
 gt:BL G (.ref C) "__getattr__"=some none
 cl:BL G (.ref C) "__class__"=some (some (.builtin "object.__class__"))
 isB:PySem.W.subIn G (.ref C) (.type "BaseException")=some true
 isO:PySem.W.subIn G (.ref C) (.type "object")=some true
 isC:(PySem.W.clsIn G C).isSome=true
 k1:BK G (.ref C) (.type "int")=some false
 k2:BK G (.ref C) (.type "bool")=some false
 k3:BK G (.ref C) (.type "str")=some false
 k4:BK G (.ref C) (.type "list")=some false
 k5:BK G (.ref C) (.type "tuple")=some false
noncomputable def ExO(C a:Addr)(h:Heap):Prop:=∃o vs,h.get? a=some o∧o.cls= .ref C∧o.data= .fields vs
inductive ImO where
 | tup (xs:List V)
 | ext (φ:Heap->Prop)
noncomputable def ImO.ho:ImO->HO
 | .tup xs=>.tup xs
 | .ext φ=>.ext φ
inductive MuO where
 | lst (xs:List V)
 | dK (kvs:List (Key×V))
 | dT (kvs:List (List Key×V))
noncomputable def MuO.ho:MuO->HO
 | .lst xs=>.lst xs
 | .dK kvs=>.dK kvs
 | .dT kvs=>.dT kvs
noncomputable def Ya9:Key->Xa
 | .inl i=>.int i
 | .inr x=>.str x
noncomputable def Yb8(ks:List Key):Xa:=.tuple (ks.map Ya9)
noncomputable abbrev KY:=Sum Key (List Key)
noncomputable def kyD:KY->Xa
 | .inl k=>Ya9 k
 | .inr ks=>Yb8 ks
noncomputable def MuO.dic(t:Bool)(ks:List KY)(xs:List V):MuO->Prop
 | .lst _=>False
 | .dK kvs=>t=false∧ks=kvs.map (λp=>.inl p.1)∧xs=kvs.map (·.2)
 | .dT kvs=>t=true∧ks=kvs.map (λp=>.inr p.1)∧xs=kvs.map (·.2)
noncomputable def dcD(t:Bool)(ks:List KY)(ds:List Xa):Xa:=.dict ((.none,.bool t) :: (ks.map kyD).zip ds)
theorem ImO.nm{H:Hp}{a:Addr}{x:ImO}{y:MuO}(h:H a=some x.ho)(h':H a=some y.ho):False:=by
 rw[h]at h'
 cases x<;>cases y<;>cases h'
theorem ImO.nl{H:Hp}{a:Addr}{x:ImO}{ys:List V}(h:H a=some x.ho)(h':H a=some (.lst ys)):False:=by
 rw[h]at h'
 cases x<;>cases h'
mutual
inductive Da(G:Xb)(H:Hp)(L:Addr->Prop):V->Xa->Prop where
 | non:Da G H L .non .none
 | bl (b:Bool):Da G H L (.bl b) (.bool b)
 | int (i:Int):Da G H L (.int i) (.int i)
 | str (x:Str):Da G H L (.str x) (.str x)
 | lst {a:Addr} {xs:List V} {ds:List Xa}:L a->Rd H a (.lst xs)->Das G H L xs ds->Da G H L (.ref a) (.list ds)
 | tup {a:Addr} {xs:List V} {ds:List Xa}:H a=some (.tup xs)->Das G H L xs ds->Da G H L (.ref a) (.tuple ds)
 | scr {a:Addr} {ns:List Int}:KS G a ns->Da G H L (.ref a) (.list (ns.map Xk))
 | exc {a C:Addr} {x:Str}:Zir G C->ClsAt G x C->H a=some (.ext (ExO C a))->Da G H L (.ref a) (exD x)
 | fn {a:Addr} {x:Str}:ClsAt G x a->Da G H L (.ref a) (fnD x)
 | dic {a:Addr} {o:MuO} {t:Bool} {ks:List KY} {xs:List V} {ds:List Xa}:L a->Rd H a o.ho->o.dic t ks xs->Das G H L xs ds->Da G H L (.ref a) (dcD t ks ds)
inductive Das(G:Xb)(H:Hp)(L:Addr->Prop):List V->List Xa->Prop where
 | nil:Das G H L [] []
 | cons {x:V} {xs:List V} {d:Xa} {ds:List Xa}:Da G H L x d->Das G H L xs ds->Das G H L (x :: xs) (d :: ds)
end
section
variable {H H':Hp}{L L':Addr->Prop}
theorem Da.both{P:V->Xa->Prop}{Q:List V->List Xa->Prop}(c1:P .non .none)(c2:∀b,P (.bl b) (.bool b))(c3:∀i,P (.int i) (.int i))(c4:∀x,P (.str x) (.str x))
  (c5:∀{a:Addr} {xs:List V} {ds:List Xa},L a->Rd H a (.lst xs)->Q xs ds->P (.ref a) (.list ds)) (c6:∀{a:Addr} {xs:List V} {ds:List Xa},H a=some (.tup xs)->Q xs ds->P (.ref a) (.tuple ds))
  (c7:∀{a:Addr} {ns:List Int},KS G a ns->P (.ref a) (.list (ns.map Xk))) (c8:∀{a C:Addr} {x:Str},Zir G C->ClsAt G x C->H a=some (.ext (ExO C a))->P (.ref a) (exD x)) (c9:∀{a:Addr} {x:Str},ClsAt G x a->P (.ref a) (fnD x))
  (c10:∀{a:Addr} {o:MuO} {t:Bool} {ks:List KY} {xs:List V} {ds:List Xa},L a->Rd H a o.ho->o.dic t ks xs->Q xs ds->P (.ref a) (dcD t ks ds)) (n:Q [] []) (c:∀{x:V} {xs:List V} {d:Xa} {ds:List Xa},P x d->Q xs ds->Q (x :: xs) (d :: ds)):(∀{v d},Da G H L v d->P v d)∧∀{xs ds},Das G H L xs ds->Q xs ds :=
 ⟨λh=>Da.rec (motive_1:=λv d _=>P v d) (motive_2:=λxs ds _=>Q xs ds) c1 c2 c3 c4 (λp e _ r=>c5 p e r) (λe _ r=>c6 e r) (λk=>c7 k) (λk l m=>c8 k l m) (λk=>c9 k) (λp e k _ r=>c10 p e k r) n (λ_ _ p q=>c p q) h,
   λh=>Das.rec (motive_1:=λv d _=>P v d) (motive_2:=λxs ds _=>Q xs ds) c1 c2 c3 c4 (λp e _ r=>c5 p e r) (λe _ r=>c6 e r) (λk=>c7 k) (λk l m=>c8 k l m) (λk=>c9 k) (λp e k _ r=>c10 p e k r) n (λ_ _ p q=>c p q) h⟩
theorem Das.ind{Q:List V->List Xa->Prop}(n:Q [] [])(c:∀{x:V} {xs:List V} {d:Xa} {ds:List Xa},Da G H L x d->Das G H L xs ds->Q xs ds->Q (x :: xs) (d :: ds)):∀{xs ds},Das G H L xs ds->Q xs ds:=λh=>
 Das.rec (motive_1:=λ_ _ _=>True) (motive_2:=λxs ds _=>Q xs ds) trivial (λ_=>trivial) (λ_=>trivial) (λ_=>trivial) (λ_ _ _ _=>trivial) (λ_ _ _=>trivial) (λ_=>trivial) (λ_ _ _=>trivial) (λ_=>trivial) (λ_ _ _ _ _=>trivial) n (λp q _ r=>c p q r) h
theorem Da.frame2(hl:∀a (xs:MuO),L a->Rd H a xs.ho->L' a∧Rd H' a xs.ho)(ht:∀a (xs:ImO),H a=some xs.ho->H' a=some xs.ho):(∀{v:V} {d:Xa},Da G H L v d->Da G H' L' v d)∧∀{xs:List V} {ds:List Xa},Das G H L xs ds->Das G H' L' xs ds :=
 Da.both .non .bl .int .str (fun{_ xs _} p e r=>.lst (hl _ (.lst xs) p e).1 (hl _ (.lst xs) p e).2 r) (fun{_ xs _} e r=>.tup (ht _ (.tup xs) e) r) .scr (λc n e=>.exc c n (ht _ (.ext _) e)) .fn (λp e k r=>.dic (hl _ _ p e).1 (hl _ _ p e).2 k r) .nil .cons
theorem Da.frame(hl:∀a (xs:MuO),L a->Rd H a xs.ho->L' a∧Rd H' a xs.ho)(ht:∀a (xs:ImO),H a=some xs.ho->H' a=some xs.ho){v:V}{d:Xa}(h:Da G H L v d):Da G H' L' v d:=(Da.frame2 hl ht).1 h
theorem Das.frame(hl:∀a (xs:MuO),L a->Rd H a xs.ho->L' a∧Rd H' a xs.ho)(ht:∀a (xs:ImO),H a=some xs.ho->H' a=some xs.ho){xs:List V}{ds:List Xa}(h:Das G H L xs ds):Das G H' L' xs ds:=(Da.frame2 hl ht).2 h
theorem Rd.same{a:Addr}{u:HO}(s:Same H H')(h:Rd H a u):Rd H' a u:=h.imp (s _ _) λ⟨o,h⟩=>⟨o,s _ _ h⟩
theorem Rd.some{a:Addr}{u:HO}(h:Rd H a u):H a≠Option.none:=by
 rcases h with h|⟨o,h⟩<;>rw[h]<;>intro z<;>cases z
theorem Da.same(h:Same H H'){v:V}{d:Xa}(x:Da G H L v d):Da G H' L v d:=x.frame (λa xs p e=>⟨p,e.same h⟩) λa xs e=>h _ _ e
theorem Das.same(h:Same H H'){v:List V}{d:List Xa}(x:Das G H L v d):Das G H' L v d:=x.frame (λa xs p e=>⟨p,e.same h⟩) λa xs e=>h _ _ e
theorem Da.wide(h:∀a,L a->H a≠none->L' a){v:V}{d:Xa}(x:Da G H L v d):Da G H L' v d:=x.frame (λa xs p e=>⟨h a p e.some,e⟩) λa xs e=>e
theorem Das.wide(h:∀a,L a->H a≠none->L' a){v:List V}{d:List Xa}(x:Das G H L v d):Das G H L' v d:=x.frame (λa xs p e=>⟨h a p e.some,e⟩) λa xs e=>e
theorem Das.length{xs:List V}{ds:List Xa}(h:Das G H L xs ds):xs.length=ds.length:=Das.ind (Q:=λxs ds=>xs.length=ds.length) rfl (λ_ _ r=>congrArg (·+1) r) h
theorem Das.append{xs ys:List V}{ds es:List Xa}(h:Das G H L xs ds)(k:Das G H L ys es):Das G H L (xs ++ ys) (ds ++ es):=Das.ind (Q:=λxs ds=>Das G H L (xs ++ ys) (ds ++ es)) k (λh _ r=>.cons h r) h
theorem Das.snoc{xs:List V}{ds:List Xa}{x:V}{d:Xa}(h:Das G H L xs ds)(k:Da G H L x d):Das G H L (xs ++ [x]) (ds ++ [d]):=h.append (.cons k .nil)
theorem Das.get{xs:List V}{ds:List Xa}{i:Nat}{d:Xa}(h:Das G H L xs ds):ds[i]? =some d->∃x,xs[i]? =some x∧Da G H L x d :=
 Das.ind (Q:=λxs ds=>∀i,ds[i]? =some d->∃x,xs[i]? =some x∧Da G H L x d) (λ_ e=>(Option.some_ne_none _ (e.symm.trans U3)).elim) (fun{x _ _ _} h _ r i=>Nat.casesOn i (λe=>⟨x,rfl,QG e▸h⟩) λi e=>r i e) h i
theorem Das.get'{xs:List V}{ds:List Xa}{i:Nat}{x:V}(h:Das G H L xs ds):xs[i]? =some x->∃d,ds[i]? =some d∧Da G H L x d :=
 Das.ind (Q:=λxs ds=>∀i,xs[i]? =some x->∃d,ds[i]? =some d∧Da G H L x d) (λ_ e=>(Option.some_ne_none _ (e.symm.trans U3)).elim) (fun{_ _ d _} h _ r i=>Nat.casesOn i (λe=>⟨d,rfl,QG e▸h⟩) λi e=>r i e) h i
theorem Das.take{xs:List V}{ds:List Xa}(n:Nat)(h:Das G H L xs ds):Das G H L (xs.take n) (ds.take n) :=
 Das.ind (Q:=λxs ds=>∀n,Das G H L (xs.take n) (ds.take n)) (λn=>by rw[V2,V2];exact .nil) (λh _ r n=>Nat.casesOn n .nil λn=>.cons h (r n)) h n
theorem Das.drop{xs:List V}{ds:List Xa}(n:Nat)(h:Das G H L xs ds):Das G H L (xs.drop n) (ds.drop n) :=
 Das.ind (Q:=λxs ds=>∀n,Das G H L (xs.drop n) (ds.drop n)) (λn=>by rw[V3,V3];exact .nil) (λh q r n=>Nat.casesOn n (.cons h q) λn=>r n) h n
theorem Das.ints(ns:List Int):Das G H L (ns.map V.int) (ns.map Xk):=by
 induction ns with
 | nil=>exact .nil
 | cons n ns ih=>exact .cons (.int n) ih
theorem Das.int_inv{xs:List V}{ns:List Int}(h:Das G H L xs (ns.map Xk)):xs=ns.map V.int:=by
 induction ns generalizing xs with
 | nil=>cases h;rfl
 | cons n ns ih=>
  rw[Qs]at h
  cases h with
  | cons h r=>cases h;rw[ih r];rfl
end
theorem Zqj{h:Heap}(ns:List Int){us:List Xc}(v:Vals (ns.map V.int) us):∃as,ReadsAll h us (ns.map Xk) as:=by
 induction ns generalizing us with
 | nil=>cases v;exact⟨_,.nil⟩
 | cons n ns ih=>
  rw[Qs]at v
  cases v with
  | cons r rs=>
   obtain⟨t,e⟩:=(show∃t,_=Value.int n t from r)
   subst e
   obtain⟨bs,k'⟩:=ih rs
   exact⟨_,.cons (.int n t) k'⟩
section
variable {X:Cx}{pins:List (Addr×Obj)}{σ:St}{H:Hp}{s:Xd}{L L':Addr->Prop}
theorem Da.reads2(hG:X.K=G)(I:Inv X pins σ H s):(∀{v:V} {d:Xa},Da G H L v d->∀u,RelV v u->d.canLay0=true->∃as,Reads s.heap u d as)∧∀{xs:List V} {ds:List Xa},Das G H L xs ds->∀us,Vals xs us->JH ds=true->∃as,ReadsAll s.heap us ds as:=by
 refine Da.both ?_ ?_ ?_ ?_ ?_ ?_ ?_ ?_ ?_ ?_ ?_ ?_
 ·intro u r _
  cases(show _=QH from r)
  exact⟨_,.none⟩
 ·intro b u r _
  cases(show _=Ul b from r)
  exact⟨_,.bool b⟩
 ·intro i u r _
  obtain⟨t,e⟩:=(show∃t,_=Value.int i t from r)
  subst e
  exact⟨_,.int i t⟩
 ·intro x u r _
  obtain⟨t,e⟩:=(show∃t,_=Value.str x t from r)
  subst e
  exact⟨_,.str x t⟩
 ·intro a xs ds _ e q u r hcl
  cases(show _=Q4 a from r)
  obtain⟨_,its,n,vs,h1⟩:=(show ObjOk X.prog X.w H s.heap a (.lst xs)from e.ok I.hok)
  rw[JX]at hcl
  obtain⟨as,k⟩:=q _ vs hcl
  exact⟨_,Reads.list h1 rfl rfl k⟩
 ·intro a xs ds e q u r hcl
  cases(show _=Q4 a from r)
  obtain⟨_,its,vs,o,ho,hc,n,hd⟩:=(show ObjOk X.prog X.w H s.heap a (.tup xs)from I.hok a _ e)
  rw[JX]at hcl
  obtain⟨as,k⟩:=q _ vs hcl
  exact⟨_,Reads.tuple ho hc hd k⟩
 ·intro a ns k u r _
  cases(show _=Q4 a from r)
  subst hG
  obtain⟨its,vs,⟨o,n,ho,hc,hd,hs⟩,_⟩:=I.list (k.sq (H:=H))
  obtain⟨as,q⟩:=Zqj ns vs
  exact⟨_,Reads.list ho hc hs q⟩
 ·intro a C x _ _ e u r hc
  rw[exD,JX]at hc
  cases hc
 ·intro a x _ u r hc
  rw[fnD,JX]at hc
  cases hc
 ·intro a o t ks xs ds _ _ _ _ u r hc
  rw[dcD,JX]at hc
  cases hc
 ·intro us v _
  cases v
  exact⟨_,.nil⟩
 ·intro x xs d ds h q us v hc
  cases v with
  | cons r rs=>
   rw[JH,Xo]at hc
   obtain⟨as,k⟩:=h _ r hc.1
   obtain⟨bs,k'⟩:=q _ rs hc.2
   exact⟨_,.cons k k'⟩
theorem Da.reads(hG:X.K=G)(I:Inv X pins σ H s){v:V}{d:Xa}{u:Xc}(h:Da G H L v d)(r:RelV v u)(c:d.canLay0=true):∃as,Reads s.heap u d as:=(Da.reads2 hG I).1 h u r c
theorem Das.reads(hG:X.K=G)(I:Inv X pins σ H s){xs:List V}{ds:List Xa}{us:List Xc}(h:Das G H L xs ds)(r:Vals xs us)(c:JH ds=true):∃as,ReadsAll s.heap us ds as:=(Da.reads2 hG I).2 h us r c
end
inductive OT where
 | fz (d:Xa)
 | nd (ts:List OT)
 | tp (ts:List OT)
 | dc (t:Bool) (ks:List KY) (ds:List Xa)
mutual
noncomputable def OT.data:OT->Xa
 | .fz d=>d
 | .nd ts=>.list (OT.datas ts)
 | .tp ts=>.tuple (OT.datas ts)
 | .dc t ks ds=>dcD t ks ds
noncomputable def OT.datas:List OT->List Xa
 | []=>[]
 | t :: ts=>t.data :: OT.datas ts
end
theorem OT.datas_map:∀(ts:List OT),OT.datas ts=ts.map OT.data
 | []=>rfl
 | t :: ts=>by rw[OT.datas,OT.datas_map ts];rfl
@[simp] theorem OT.data_fz(d:Xa):(OT.fz d).data=d:=by rw[OT.data]
@[simp] theorem OT.data_nd(ts:List OT):(OT.nd ts).data= .list (ts.map OT.data):=by rw[OT.data,OT.datas_map]
@[simp] theorem OT.data_tp(ts:List OT):(OT.tp ts).data= .tuple (ts.map OT.data):=by rw[OT.data,OT.datas_map]
theorem OT.data_dc(t:Bool)(ks:List KY)(ds:List Xa):(OT.dc t ks ds).data=dcD t ks ds:=by rw[OT.data]
@[simp] theorem OT.map_fz(ds:List Xa):(ds.map OT.fz).map OT.data=ds:=by
 rw[Qh]
 exact(X8 λd _=>OT.data_fz d).trans (List.map_id _)
mutual
inductive Own(G:Xb)(H:Hp)(L:Addr->Prop):V->OT->List Addr->Prop where
 | fz {v:V} {d:Xa}:Da G H L v d->Own G H L v (.fz d) []
 | nd {a:Addr} {xs:List V} {ts:List OT} {bs:List Addr}:H a=some (.lst xs)->Owns G H L xs ts bs->Own G H L (.ref a) (.nd ts) (a :: bs)
 | tp {a:Addr} {xs:List V} {ts:List OT} {bs:List Addr}:H a=some (.tup xs)->Owns G H L xs ts bs->Own G H L (.ref a) (.tp ts) bs
 | dc {a:Addr} {o:MuO} {t:Bool} {ks:List KY} {xs:List V} {ds:List Xa}:H a=some o.ho->o.dic t ks xs->Das G H L xs ds->Own G H L (.ref a) (.dc t ks ds) [a]
inductive Owns(G:Xb)(H:Hp)(L:Addr->Prop):List V->List OT->List Addr->Prop where
 | nil:Owns G H L [] [] []
 | cons {x:V} {xs:List V} {t:OT} {ts:List OT} {as bs:List Addr}:Own G H L x t as->Owns G H L xs ts bs->Owns G H L (x :: xs) (t :: ts) (as ++ bs)
end
section
variable {H H':Hp}{L L':Addr->Prop}
theorem Own.both{P:V->OT->List Addr->Prop}{Q:List V->List OT->List Addr->Prop}(c1:∀{v:V} {d:Xa},Da G H L v d->P v (.fz d) [])(c2:∀{a:Addr} {xs:List V} {ts:List OT} {bs:List Addr},H a=some (.lst xs)->Q xs ts bs->P (.ref a) (.nd ts) (a :: bs))
  (c3:∀{a:Addr} {xs:List V} {ts:List OT} {bs:List Addr},H a=some (.tup xs)->Q xs ts bs->P (.ref a) (.tp ts) bs) (c4:∀{a:Addr} {o:MuO} {t:Bool} {ks:List KY} {xs:List V} {ds:List Xa},H a=some o.ho->o.dic t ks xs->Das G H L xs ds->P (.ref a) (.dc t ks ds) [a]) (n:Q [] [] []) (c:∀{x:V} {xs:List V} {t:OT} {ts:List OT} {as bs:List Addr},P x t as->Q xs ts bs->Q (x :: xs) (t :: ts) (as ++ bs)) :
  (∀ {v t as},Own G H L v t as->P v t as)∧∀{xs ts as},Owns G H L xs ts as->Q xs ts as :=
 ⟨λh=>Own.rec (motive_1:=λv t as _=>P v t as) (motive_2:=λxs ts as _=>Q xs ts as) c1 (λe _ r=>c2 e r) (λe _ r=>c3 e r) (λe k r=>c4 e k r) n (λ_ _ p q=>c p q) h,
   λh=>Owns.rec (motive_1:=λv t as _=>P v t as) (motive_2:=λxs ts as _=>Q xs ts as) c1 (λe _ r=>c2 e r) (λe _ r=>c3 e r) (λe k r=>c4 e k r) n (λ_ _ p q=>c p q) h⟩
theorem Own.frame2(hl:∀a (xs:MuO),L a->Rd H a xs.ho->L' a∧Rd H' a xs.ho)(ht:∀a (xs:ImO),H a=some xs.ho->H' a=some xs.ho) :
  (∀ {v:V} {t:OT} {as:List Addr},Own G H L v t as->(∀a∈as,∀xs:MuO,H a=some xs.ho->H' a=some xs.ho)->Own G H' L' v t as)∧∀{xs:List V} {ts:List OT} {as:List Addr},Owns G H L xs ts as->(∀a∈as,∀xs:MuO,H a=some xs.ho->H' a=some xs.ho)->Owns G H' L' xs ts as :=
 Own.both (λh _=>.fz (h.frame hl ht)) (fun{_ xs _ _} e r ha=>.nd (ha _ (.head _) (.lst xs) e) (r λa m=>ha a (.tail _ m))) (fun{_ xs _ _} e r ha=>.tp (ht _ (.tup xs) e) (r ha)) (λe k r ha=>.dc (ha _ (.head _) _ e) k (r.frame hl ht)) (λ_=>.nil) (λh r ha=>.cons (h λa m=>ha a (Vl _ m)) (r λa m=>ha a (Qw _ m)))
theorem Own.frame(hl:∀a (xs:MuO),L a->Rd H a xs.ho->L' a∧Rd H' a xs.ho)(ht:∀a (xs:ImO),H a=some xs.ho->H' a=some xs.ho){v:V}{t:OT}{as:List Addr}(ha:∀a∈as,∀xs:MuO,H a=some xs.ho->H' a=some xs.ho)(h:Own G H L v t as):Own G H' L' v t as:=(Own.frame2 hl ht).1 h ha
theorem Owns.frame(hl:∀a (xs:MuO),L a->Rd H a xs.ho->L' a∧Rd H' a xs.ho)(ht:∀a (xs:ImO),H a=some xs.ho->H' a=some xs.ho){xs:List V}{ts:List OT}{as:List Addr}(ha:∀a∈as,∀xs:MuO,H a=some xs.ho->H' a=some xs.ho)(h:Owns G H L xs ts as):Owns G H' L' xs ts as:=(Own.frame2 hl ht).2 h ha
theorem Own.same(h:Same H H'){v:V}{t:OT}{as:List Addr}(x:Own G H L v t as):Own G H' L v t as:=x.frame (λa xs p e=>⟨p,e.same h⟩) (λa xs e=>h _ _ e) λa _ xs e=>h _ _ e
theorem Own.wide(h:∀a,L a->H a≠none->L' a){v:V}{t:OT}{as:List Addr}(x:Own G H L v t as):Own G H L' v t as:=x.frame (λa xs p e=>⟨h a p e.some,e⟩) (λa xs e=>e) λa _ xs e=>e
theorem Owns.wide(h:∀a,L a->H a≠none->L' a){v:List V}{t:List OT}{as:List Addr}(x:Owns G H L v t as):Owns G H L' v t as:=x.frame (λa xs p e=>⟨h a p e.some,e⟩) (λa xs e=>e) λa _ xs e=>e
theorem Owns.same(h:Same H H'){v:List V}{t:List OT}{as:List Addr}(x:Owns G H L v t as):Owns G H' L v t as:=x.frame (λa xs p e=>⟨p,e.same h⟩) (λa xs e=>h _ _ e) λa _ xs e=>h _ _ e
theorem Own.da2(h:∀a,L a->H a≠none->L' a):(∀{v:V} {t:OT} {as:List Addr},Own G H L v t as->(∀a∈as,L' a)->Da G H L' v t.data)∧∀{v:List V} {t:List OT} {as:List Addr},Owns G H L v t as->(∀a∈as,L' a)->Das G H L' v (OT.datas t) :=
 Own.both (λk _=>by rw[OT.data_fz];exact k.wide h) (λe r ha=>by rw[OT.data];exact .lst (ha _ (.head _)) (.inl e) (r λa m=>ha a (.tail _ m))) (λe r ha=>by rw[OT.data];exact .tup e (r ha)) (λe k r ha=>by rw[OT.data];exact .dic (ha _ (.head _)) (.inl e) k (r.wide h)) (λ_=>.nil) (λk r ha=>.cons (k λa m=>ha a (Vl _ m)) (r λa m=>ha a (Qw _ m)))
theorem Own.da(h:∀a,L a->H a≠none->L' a){v:V}{t:OT}{as:List Addr}(ha:∀a∈as,L' a)(k:Own G H L v t as):Da G H L' v t.data:=(Own.da2 h).1 k ha
theorem Owns.das(h:∀a,L a->H a≠none->L' a){v:List V}{t:List OT}{as:List Addr}(ha:∀a∈as,L' a)(k:Owns G H L v t as):Das G H L' v (OT.datas t):=(Own.da2 h).2 k ha
theorem Own.some2:(∀{v:V} {t:OT} {as:List Addr},Own G H L v t as->∀a∈as,∃xs:MuO,H a=some xs.ho)∧∀{v:List V} {t:List OT} {as:List Addr},Owns G H L v t as->∀a∈as,∃xs:MuO,H a=some xs.ho :=
 Own.both (λ_ _ m=>nomatch m) (fun{_ xs _ _} e r a m=>(Xw.mp m).elim (λq=>⟨.lst xs,q▸e⟩) (r a)) (λ_ r=>r) (fun{_ o _ _ _ _} e _ _ a m=>⟨o,Qj.mp m▸e⟩) (λ_ m=>nomatch m) (λk r a m=>(QV.mp m).elim (k a) (r a))
theorem Own.some{v:V}{t:OT}{as:List Addr}(h:Own G H L v t as):∀a∈as,∃xs:MuO,H a=some xs.ho:=Own.some2.1 h
theorem Owns.some{v:List V}{t:List OT}{as:List Addr}(h:Owns G H L v t as):∀a∈as,∃xs:MuO,H a=some xs.ho:=Own.some2.2 h
theorem Owns.length{xs:List V}{ts:List OT}{as:List Addr}(h:Owns G H L xs ts as):xs.length=ts.length:=(Own.both (P:=λ_ _ _=>True) (Q:=λxs ts _=>xs.length=ts.length) (λ_=>trivial) (λ_ _=>trivial) (λ_ _=>trivial) (λ_ _ _=>trivial) rfl (λ_ r=>congrArg (·+1) r)).2 h
theorem Das.owns{xs:List V}{ds:List Xa}(h:Das G H L xs ds):Owns G H L xs (ds.map OT.fz) []:=Das.ind (Q:=λxs ds=>Owns G H L xs (ds.map OT.fz) []) .nil (λh _ r=>.cons (.fz h) r) h
end
variable {G:Xb}
noncomputable abbrev Zm:=List (Option OT)
noncomputable abbrev Fp:=Nat->List Addr
set_option genInjectivity false in
structure MC(G:Xb) where
 H₀:Hp
 as₀:Addr->Prop
 L:Addr->Prop
 σ₀:St
noncomputable def Foot(fp:Fp)(a:Addr):Prop:=∃i,a∈fp i
noncomputable def Lf(C:MC G)(fp:Fp)(ex:Addr->Prop)(a:Addr):Prop:=¬Foot fp a∧¬ex a∧(C.L a∨C.H₀ a=none)
structure Rel(C:MC G)(io:List Nat)(H:Hp)(σ:St)(δ:Zm)(fp:Fp)(ex:Addr->Prop):Prop where
 len:σ.length=δ.length
 own:∀(i:Nat) (t:OT),δ[i]? =some (some t)->∃v,σ[i]? =some (some v)∧Own G H (Lf C fp ex) v t (fp i)
 emp:∀i:Nat,(∀t,δ[i]? ≠some (some t))->fp i=[]
 nd:∀i,(fp i).Nodup
 dj:∀i j a,a∈fp i->a∈fp j->i=j
 dx:∀i a,a∈fp i->¬ex a
 xa:∀a,ex a->H a≠none
 fr:∀b o,C.H₀ b=some o->¬C.as₀ b->H b=some o
 al:∀b,H b=none->C.H₀ b=none
 new:∀i a,a∈fp i->(i∈io∧C.as₀ a)∨C.H₀ a=none
 io:∀i∈io,σ[i]? =C.σ₀[i]?
structure Stp(p:Bool)(H:Hp)(δ:Zm)(fp:Fp)(H':Hp)(δ':Zm)(fp':Fp):Prop where
 keep:∀b o,H b=some o->(p=true∨¬Foot fp b)->H' b=some o
 env:p=true->δ'=δ∧fp'=fp
 grow:∀a,Foot fp' a->Foot fp a∨H a=none
 al:∀b,H' b=none->H b=none
section
variable {C:MC G}{io:List Nat}{H H' H'':Hp}{σ:St}{δ δ' δ'':Zm}{fp fp' fp'':Fp}{ex ex':Addr->Prop}{p p' c:Bool}{v:V}{d:Xa}{r:OT}{new:List Addr}
theorem Rel.foot(R:Rel C io H σ δ fp ex){a:Addr}(h:Foot fp a):∃xs:MuO,H a=some xs.ho:=by
 obtain⟨i,h⟩:=h
 by_cases q:∃t,δ[i]? =some (some t)
 ·obtain⟨t,q⟩:=q
  obtain⟨v,_,o⟩:=R.own i t q
  exact o.some a h
 ·rw[R.emp i (λt z=>q ⟨t,z⟩)]at h
  exact nomatch h
theorem Rel.footSome(R:Rel C io H σ δ fp ex){a:Addr}(h:H a=none):¬Foot fp a:=λz=>by
 obtain⟨xs,e⟩:=R.foot z
 rw[h]at e
 cases e
theorem Stp.refl(p:Bool)(H:Hp)(δ:Zm)(fp:Fp):Stp p H δ fp H δ fp:=⟨λ_ _ h _=>h,λ_=>⟨rfl,rfl⟩,λ_ h=>.inl h,λ_ h=>h⟩
theorem Stp.same(h:Same H H')(hn:∀b,H' b=none->H b=none):Stp p H δ fp H' δ fp:=⟨λ_ _ q _=>h _ _ q,λ_=>⟨rfl,rfl⟩,λ_ h=>.inl h,hn⟩
theorem Same.al(h:Same H H'):∀b,H' b=none->H b=none:=λ_ q=>h.free q
theorem Stp.trans(a:Stp p H δ fp H' δ' fp')(b:Stp p' H' δ' fp' H'' δ'' fp''):Stp (p&&p') H δ fp H'' δ'' fp'' where
 keep:=λx o e h=>by
  rcases h with h|h
  ·rw[Xo]at h
   exact b.keep x o (a.keep x o e (.inl h.1)) (.inl h.2)
  ·refine b.keep x o (a.keep x o e (.inr h)) (.inr λz=>?_)
   rcases a.grow x z with z|z
   ·exact h z
   ·rw[e]at z;cases z
 env:=λh=>by
  rw[Xo]at h
  obtain⟨e1,e2⟩:=a.env h.1
  obtain⟨e3,e4⟩:=b.env h.2
  exact⟨e3.trans e1,e4.trans e2⟩
 grow:=λx h=>by
  rcases b.grow x h with h|h
  ·exact a.grow x h
  ·exact .inr (a.al x h)
 al:=λx h=>a.al x (b.al x h)
theorem Rel.frameL(R:Rel C io H σ δ fp ex)(S:Stp p H δ fp H' δ' fp')(hc:p=true∨c=true)(hx:∀a,ex' a->ex a∨H a=none) :
  (∀ a (xs:MuO),(c=true->Lf C fp ex a)->Rd H a xs.ho->(c=true->Lf C fp' ex' a)∧Rd H' a xs.ho)∧(∀a (xs:ImO),H a=some xs.ho->H' a=some xs.ho):=by
 have nf:∀a,Foot fp a->∃xs:MuO,H a=some xs.ho:=λa h=>R.foot h
 refine⟨λa xs l q=>⟨λhc'=>?_,?_⟩,λa xs q=>S.keep a _ q (.inr λz=>?_)⟩
 ·obtain⟨l1,l2,l3⟩:=l hc'
  refine⟨λz=>?_,λz=>?_,l3⟩
  ·rcases S.grow a z with z|z
   ·exact l1 z
   ·exact q.some z
  ·rcases hx a z with z|z
   ·exact l2 z
   ·exact q.some z
 ·have hk:p=true∨¬Foot fp a:=by
   rcases hc with h|h
   ·exact .inl h
   ·exact .inr (l h).1
  rcases q with q|⟨o,q⟩
  ·exact .inl (S.keep a _ q hk)
  ·exact .inr ⟨o,S.keep a _ q hk⟩
 ·obtain⟨ys,e⟩:=nf a z
  exact ImO.nm q e
theorem Rel.own_step(R:Rel C io H σ δ fp ex)(S:Stp p H δ fp H' δ' fp')(hc:p=true∨c=true)(hx:∀a,ex' a->ex a∨H a=none)(hn:∀a∈new,ex a)
  (x:Own G H (λa=>c=true->Lf C fp ex a) v r new):Own G H' (λa=>c=true->Lf C fp' ex' a) v r new :=
 x.frame (R.frameL S hc hx).1 (R.frameL S hc hx).2 λa m xs e=>S.keep a _ e (.inr λ⟨i,z⟩=>R.dx i a z (hn a m))
theorem Rel.owns_step(R:Rel C io H σ δ fp ex)(S:Stp p H δ fp H' δ' fp')(hc:p=true∨c=true)(hx:∀a,ex' a->ex a∨H a=none)(hn:∀a∈new,ex a){vs:List V}{rs:List OT}
  (x:Owns G H (λa=>c=true->Lf C fp ex a) vs rs new):Owns G H' (λa=>c=true->Lf C fp' ex' a) vs rs new :=
 x.frame (R.frameL S hc hx).1 (R.frameL S hc hx).2 λa m xs e=>S.keep a _ e (.inr λ⟨i,z⟩=>R.dx i a z (hn a m))
theorem Rel.drop(R:Rel C io H σ δ fp ex)(h:∀a,ex' a->ex a):Rel C io H σ δ fp ex' :=
 ⟨R.len,λi t e=>by
  obtain⟨v,e1,o⟩:=R.own i t e
  exact⟨v,e1,o.wide λa l _=>⟨l.1,λz=>l.2.1 (h a z),l.2.2⟩⟩,R.emp,R.nd,R.dj,λi a m z=>R.dx i a m (h a z),λa z=>R.xa a (h a z),R.fr,R.al,R.new,R.io⟩
theorem Rel.made(R:Rel C io H σ δ fp ex)(s:Same H H')(hn:∀a∈new,H a=none∧H' a≠none):Rel C io H' σ δ fp (λa=>ex a∨a∈new) :=
 ⟨R.len,λi t e=>by
  obtain⟨v,e1,o⟩:=R.own i t e
  refine⟨v,e1,(o.wide λa l q=>⟨l.1,λz=>?_,l.2.2⟩).same s⟩
  rcases z with z|z
  ·exact l.2.1 z
  ·exact q (hn a z).1,R.emp,R.nd,R.dj,λi a m z=>by
   rcases z with z|z
   ·exact R.dx i a m z
   ·exact R.footSome (hn a z).1 ⟨i,m⟩,λa z=>by
   rcases z with z|z
   ·intro q;exact R.xa a z (s.free q)
   ·exact(hn a z).2,λb o e n=>s _ _ (R.fr b o e n),λb q=>R.al b (s.free q),R.new,R.io⟩
end
noncomputable abbrev MEt:=Zm->(OT->Zm->Prop)->Prop
noncomputable abbrev MAt:=Zm->(List OT->Zm->Prop)->Prop
noncomputable abbrev MTt:=Zm->(Bool->Zm->Prop)->Prop
noncomputable abbrev exu(ex:Addr->Prop)(new:List Addr):Addr->Prop:=λa=>ex a∨a∈new
structure RE(C:MC G)(io:List Nat)(p c:Bool)(H:Hp)(σ:St)(δ:Zm)(fp:Fp)(ex:Addr->Prop)(H':Hp)(v:V)(r:OT)(δ':Zm)(fp':Fp)(new:List Addr):Prop where
 rel:Rel C io H' σ δ' fp' (exu ex new)
 stp:Stp p H δ fp H' δ' fp'
 own:Own G H' (λa=>c=true->Lf C fp' (exu ex new) a) v r new
 nd:new.Nodup
 fresh:∀a∈new,H a=none
structure RA(C:MC G)(io:List Nat)(p c:Bool)(H:Hp)(σ:St)(δ:Zm)(fp:Fp)(ex:Addr->Prop)(H':Hp)(v:List V)(r:List OT)(δ':Zm)(fp':Fp)(new:List Addr):Prop where
 rel:Rel C io H' σ δ' fp' (exu ex new)
 stp:Stp p H δ fp H' δ' fp'
 own:Owns G H' (λa=>c=true->Lf C fp' (exu ex new) a) v r new
 nd:new.Nodup
 fresh:∀a∈new,H a=none
noncomputable def SE(G:Xb)(io:List Nat)(p c:Bool)(t:TE)(m:MEt):Prop:=∀(C:MC G) (H:Hp) (σ:St) (δ:Zm) (fp:Fp) (ex:Addr->Prop) (K:OT->Zm->Prop) (Q:VK),Rel C io H σ δ fp ex->m δ K ->
 (∀ H' v r δ' fp' new,RE C io p c H σ δ fp ex H' v r δ' fp' new->K r δ'->Q v H')->t σ H Q
noncomputable def SA(G:Xb)(io:List Nat)(p c:Bool)(t:TA)(m:MAt):Prop:=∀(C:MC G) (H:Hp) (σ:St) (δ:Zm) (fp:Fp) (ex:Addr->Prop) (K:List OT->Zm->Prop) (Q:List V->Hp->Prop),Rel C io H σ δ fp ex->m δ K ->
 (∀ H' v r δ' fp' new,RA C io p c H σ δ fp ex H' v r δ' fp' new->K r δ'->Q v H')->t σ H Q
noncomputable def STt(G:Xb)(io:List Nat)(p:Bool)(t:TT)(m:MTt):Prop:=∀(C:MC G) (H:Hp) (σ:St) (δ:Zm) (fp:Fp) (ex:Addr->Prop) (K:Bool->Zm->Prop) (Q:Bool->Hp->Prop),Rel C io H σ δ fp ex->m δ K ->
 (∀ H' b δ' fp',Rel C io H' σ δ' fp' ex->Stp p H δ fp H' δ' fp'->K b δ'->Q b H')->t σ H Q
noncomputable def ME(X:Cx)(io:List Nat)(p c:Bool)(e:Expr)(m:MEt):Prop:=∃t,PE X e t∧SE X.K io p c t m
noncomputable def MA(X:Cx)(io:List Nat)(p c:Bool)(e:List Expr)(m:MAt):Prop:=∃t,PA X e t∧SA X.K io p c t m
noncomputable def MT(X:Cx)(io:List Nat)(p:Bool)(e:Expr)(m:MTt):Prop:=∃t,PT X e t∧STt X.K io p t m
noncomputable def MW(X:Cx)(io:List Nat)(p:Bool)(e:Expr)(m:MTt):Prop:=∃t,PW X e t∧STt X.K io p t m
section
variable {C:MC G}{io:List Nat}{H H' H'':Hp}{σ:St}{δ δ' δ'':Zm}{fp fp' fp'':Fp}{ex ex':Addr->Prop}{p p' c:Bool}{v:V}{d:Xa}{r:OT}{vs:List V}{rs:List OT}{new:List Addr}
theorem Rel.newOk(R:Rel C io H σ δ fp ex){a:Addr}(h:H a=none):¬Foot fp a∧¬ex a∧C.H₀ a=none:=⟨R.footSome h,λz=>R.xa a z h,R.al a h⟩
theorem RE.da(R:RE C io p c H σ δ fp ex H' v r δ' fp' new)(R0:Rel C io H σ δ fp ex):Da G H' (λa=>c=true->Lf C fp' ex a) v r.data:=by
 refine R.own.da (λa l _ h=>?_) (λa m _=>?_)
 ·exact⟨(l h).1,λz=>(l h).2.1 (.inl z),(l h).2.2⟩
 ·refine⟨λqz9=>?_,(R0.newOk (R.fresh a m)).2.1,.inr (R0.newOk (R.fresh a m)).2.2⟩
  obtain⟨i,z⟩:=qz9
  exact R.rel.dx i a z (.inr m)
theorem RA.das(R:RA C io p c H σ δ fp ex H' vs rs δ' fp' new)(R0:Rel C io H σ δ fp ex):Das G H' (λa=>c=true->Lf C fp' ex a) vs (OT.datas rs):=by
 refine R.own.das (λa l _ h=>?_) (λa m _=>?_)
 ·exact⟨(l h).1,λz=>(l h).2.1 (.inl z),(l h).2.2⟩
 ·refine⟨λqz9=>?_,(R0.newOk (R.fresh a m)).2.1,.inr (R0.newOk (R.fresh a m)).2.2⟩
  obtain⟨i,z⟩:=qz9
  exact R.rel.dx i a z (.inr m)
theorem RE.base(R:RE C io p c H σ δ fp ex H' v r δ' fp' new):Rel C io H' σ δ' fp' ex:=R.rel.drop λa z=>.inl z
theorem RA.base(R:RA C io p c H σ δ fp ex H' vs rs δ' fp' new):Rel C io H' σ δ' fp' ex:=R.rel.drop λa z=>.inl z
theorem Zdz{a:Addr}:exu ex [] a↔ex a:=by simp[exu]
theorem RE.fz(R:Rel C io H' σ δ' fp' ex)(S:Stp p H δ fp H' δ' fp')(h:Da G H' (λa=>c=true->Lf C fp' ex a) v d):RE C io p c H σ δ fp ex H' v (.fz d) δ' fp' [] :=
 ⟨R.drop λa z=>Zdz.mp z,S,.fz (h.wide λa l _ hc=>⟨(l hc).1,λz=>(l hc).2.1 (Zdz.mp z),(l hc).2.2⟩),.nil,λa m=>nomatch m⟩
theorem RE.tree{H1:Hp}(R0:Rel C io H σ δ fp ex)(R:Rel C io H1 σ δ' fp' ex)(S:Stp p H δ fp H1 δ' fp')(s:Same H1 H')(hn:∀a∈new,H1 a=none)(nd:new.Nodup)
  (o:Own G H' (λa=>((c=true->Lf C fp' ex a)∨H1 a=none)∧a∉new) v r new):RE C io p c H σ δ fp ex H' v r δ' fp' new:=by
 refine⟨R.made s λa m=>⟨hn a m,λz=>?_⟩,?_,o.wide λa l q hc=>?_,nd,λa m=>S.al a (hn a m)⟩
 ·obtain⟨xs,e⟩:=o.some a m
  rw[z]at e;cases e
 ·have:=S.trans (p':=true) (Stp.same (p:=true) (δ:=δ') (fp:=fp') s s.al)
  rwa[Bool.and_true]at this
 ·rcases l.1 with l1|l1
  ·exact⟨(l1 hc).1,λz=>z.elim (l1 hc).2.1 l.2,(l1 hc).2.2⟩
  ·exact⟨R.footSome l1,λz=>z.elim (λz=>R.xa a z l1) l.2,.inr (R.al a l1)⟩
end
inductive ScD:V->Xa->Prop where
 | non:ScD .non .none
 | bl (b:Bool):ScD (.bl b) (.bool b)
 | int (i:Int):ScD (.int i) (.int i)
 | str (x:Str):ScD (.str x) (.str x)
theorem ScD.da{H:Hp}{L:Addr->Prop}{v:V}{d:Xa}(h:ScD v d):Da G H L v d:=by
 cases h
 ·exact .non
 ·exact .bl _
 ·exact .int _
 ·exact .str _
section
variable {X:Cx}{io:List Nat}{p p' c c':Bool}{e a b:Expr}{m ma mb:MEt}{es:List Expr}
noncomputable def Z6u(i:Nat):MEt:=λδ K=>match δ[i]? with|some (some (.fz d))=>K (.fz d) δ|_=>False
noncomputable def Z6p(i:Nat):MEt:=λδ K=>match δ[i]? with|some (some t)=>K (.fz t.data) δ|_=>False
noncomputable def mC(d:Xa):MEt:=λδ K=>K (.fz d) δ
theorem mv(i:Nat){x:Str}{pos:Pos}(hN:X.N[i]? =some x:=by rfl)(hv:Vis X.env.scope x:=by first|exact QQ rfl|exact Qx (QQ rfl)|exact Qx (Qx rfl))(hd:(x==("__debug__" : Str))=false:=by decide)
  (hcd:(x==("__classdict__" : Str))=false:=by decide):ME X io true true (.Name x pos) (Z6u i):=by
 refine⟨_,pv i hN hv hd hcd,λC H σ δ fp ex K Q R h k=>?_⟩
 unfold Z6u at h
 split at h
 ·rename_i d hd
  obtain⟨v,e,o⟩:=R.own i _ hd
  refine⟨v,e,k H v _ δ fp [] (.fz R (.refl _ _ _ _) ?_) h⟩
  generalize fp i=as at o
  cases o with
  | fz q=>exact q.wide λa l _ _=>l
 ·exact h.elim
theorem mo(i:Nat){x:Str}{pos:Pos}(hN:X.N[i]? =some x:=by rfl)(hv:Vis X.env.scope x:=by first|exact QQ rfl|exact Qx (QQ rfl)|exact Qx (Qx rfl))(hd:(x==("__debug__" : Str))=false:=by decide)
  (hcd:(x==("__classdict__" : Str))=false:=by decide):ME X io true false (.Name x pos) (Z6p i):=by
 refine⟨_,pv i hN hv hd hcd,λC H σ δ fp ex K Q R h k=>?_⟩
 unfold Z6p at h
 split at h
 ·rename_i d hd
  obtain⟨v,e,o⟩:=R.own i _ hd
  exact⟨v,e,k H v _ δ fp [] (.fz R (.refl _ _ _ _) (o.da (λa _ _ z=>(nomatch z)) λa _ z=>(nomatch z))) h⟩
 ·exact h.elim
theorem Znw{t:V}{d:Xa}(h:PE X e (tC t))(s:ScD t d):ME X io true true e (mC d) :=
 ⟨_,h,λC H σ δ fp ex K Q R h k=>k H t _ δ fp [] (.fz R (.refl _ _ _ _) s.da) h⟩
theorem Z19{i j pos}:ME X io true true (.Constant (.int i) j pos) (mC (.int i)):=Znw Z2w (.int i)
theorem Zbc{b j pos}:ME X io true true (.Constant (.bool b) j pos) (mC (.bool b)):=Znw Z7n (.bl b)
theorem Zlt{x j pos}:ME X io true true (.Constant (.str x) j pos) (mC (.str x)):=Znw Z43 (.str x)
theorem SE.two{ta tb:TE}(ha:SE G io p c ta ma)(hb:SE G io p' c' tb mb)(hc:p'=true∨c=true){C:MC G}{H:Hp}{σ:St}{δ:Zm}{fp:Fp}{ex:Addr->Prop}{K:OT->OT->Zm->Prop}{Q:V->V->Hp->Prop}
  (R:Rel C io H σ δ fp ex) (h:ma δ λx δ1=>mb δ1 λy δ2=>K x y δ2)
  (k:∀H' x y u v δ' fp',Rel C io H' σ δ' fp' ex->Stp (p&&p') H δ fp H' δ' fp'->Da G H' (λa=>(c&&c')=true->Lf C fp' ex a) x u.data->Da G H' (λa=>(c&&c')=true->Lf C fp' ex a) y v.data->K u v δ'->Q x y H') :
  ta σ H λx H1=>tb σ H1 λy H2=>Q x y H2:=by
 refine ha C H σ δ fp ex _ _ R h λH1 x u δ1 fp1 new1 r1 h1=>?_
 refine hb C H1 σ δ1 fp1 (exu ex new1) _ _ r1.rel h1 λH2 y v δ2 fp2 new2 r2 h2=>?_
 have o1:=r1.rel.own_step (ex':=exu (exu ex new1) new2) r2.stp (c:=c) hc (λa z=>z.imp id λz=>r2.fresh a z) (λa m=>.inr m) r1.own
 have R2:Rel C io H2 σ δ2 fp2 ex:=r2.rel.drop λa z=>.inl (.inl z)
 have q1:Da G H2 (λa=>c=true->Lf C fp2 ex a) x u.data:=by
  refine o1.da (λa l _ z=>?_) (λa m z=>?_)
  ·exact⟨(l z).1,λw=>(l z).2.1 (.inl (.inl w)),(l z).2.2⟩
  ·have:=R.newOk (r1.fresh a m)
   refine⟨λqz9=>?_,this.2.1,.inr this.2.2⟩
   obtain⟨i,w⟩:=qz9
   exact r2.rel.dx i a w (.inl (.inr m))
 have q2:=r2.da r1.rel
 refine k H2 x y u v δ2 fp2 R2 (r1.stp.trans r2.stp) (q1.wide λa l _ z=>l (by rw[Xo]at z;exact z.1)) (q2.wide λa l _ z=>?_) h2
 have l:=l (by rw[Xo]at z;exact z.2)
 exact⟨l.1,λw=>l.2.1 (.inl w),l.2.2⟩
noncomputable def P2s(G:Xb)(r:R2)(rp:Xa->Xa->(Xa->Prop)->Prop):Prop:=∀(H:Hp) (L:Addr->Prop) (x y:V) (d e:Xa) (k:Xa->Prop) (Q:VK),Da G H L x d->Da G H L y e->rp d e k->(∀v d',ScD v d'->k d'->Q v H)->r x y H Q
noncomputable def P2(G:Xb)(r:R2)(rp:Xa->Xa->(OT->Prop)->Prop):Prop:=∀(H:Hp) (L:Addr->Prop) (x y:V) (d e:Xa) (k:OT->Prop) (Q:VK),Da G H L x d->Da G H L y e->rp d e k ->
 (∀ H' v o new,Same H H'->Own G H' (λa=>(L a∨H a=none)∧a∉new) v o new->new.Nodup->(∀a∈new,H a=none)->k o->Q v H')->r x y H Q
noncomputable def Zni(rp:Xa->Xa->(Xa->Prop)->Prop)(ma mb:MEt):MEt:=λδ K=>ma δ λx δ1=>mb δ1 λy δ2=>rp x.data y.data λd=>K (.fz d) δ2
noncomputable def Z6d(rp:Xa->Xa->(OT->Prop)->Prop)(ma mb:MEt):MEt:=λδ K=>ma δ λx δ1=>mb δ1 λy δ2=>rp x.data y.data λd=>K d δ2
theorem Zyu{r:R2}{rp}{ta tb:TE}(P:P2s G r rp)(ha:SE G io p c ta ma)(hb:SE G io p' c' tb mb)(hc:p'=true∨c=true):SE G io (p&&p') true (tOp r ta tb) (Zni rp ma mb):=by
 intro C H σ δ fp ex K Q R h k
 refine SE.two (K:=λx y δ2=>rp x.data y.data λd=>K (.fz d) δ2) (Q:=λx y H2=>r x y H2 Q) ha hb hc R h λH' x y u v δ' fp' R' S q1 q2 h'=>?_
 exact P H' _ x y _ _ _ _ q1 q2 h' λw d' sc h''=>k H' w _ δ' fp' [] (.fz R' S sc.da) h''
theorem Ybl{r:R2}{rp}{ta tb:TE}(P:P2 G r rp)(ha:SE G io p c ta ma)(hb:SE G io p' c' tb mb)(hc:p'=true∨c=true):SE G io (p&&p') (c&&c') (tOp r ta tb) (Z6d rp ma mb):=by
 intro C H σ δ fp ex K Q R h k
 refine SE.two (K:=λx y δ2=>rp x.data y.data λd=>K d δ2) (Q:=λx y H2=>r x y H2 Q) ha hb hc R h λH' x y u v δ' fp' R' S q1 q2 h'=>?_
 exact P H' _ x y _ _ _ _ q1 q2 h' λH2 w o new s ow nd hn h''=>k H2 w o δ' fp' new (RE.tree R R' S s hn nd ow) h''
theorem Zpy{op:Operator}{r:R2}{rp}{pos:Pos}(ho:OpR X (Vx op) r)(P:P2s X.K r rp)(ha:ME X io p c a ma)(hb:ME X io p' c' b mb)(hc:p'=true∨c=true:=by first|exact QQ rfl|exact Qx rfl):ME X io (p&&p') true (.BinOp a op b pos) (Zni rp ma mb):=by
 obtain⟨_,A,sa⟩:=ha
 obtain⟨_,B,sb⟩:=hb
 exact⟨_,Zx8 ho A B,Zyu P sa sb hc⟩
theorem Zqm{op:Operator}{r:R2}{rp}{pos:Pos}(ho:OpR X (Vx op) r)(P:P2 X.K r rp)(ha:ME X io p c a ma)(hb:ME X io p' c' b mb)(hc:p'=true∨c=true:=by first|exact QQ rfl|exact Qx rfl):ME X io (p&&p') (c&&c') (.BinOp a op b pos) (Z6d rp ma mb):=by
 obtain⟨_,A,sa⟩:=ha
 obtain⟨_,B,sb⟩:=hb
 exact⟨_,Zx8 ho A B,Ybl P sa sb hc⟩
theorem Zda{op:CmpOp}{r:R2}{rp}{pos:Pos}(ho:OpR X (Bj op) r)(P:P2s X.K r rp)(ha:ME X io p c a ma)(hb:ME X io p' c' b mb)(hc:p'=true∨c=true:=by first|exact QQ rfl|exact Qx rfl)(hm:Uh op b=false):ME X io (p&&p') true (.Compare a [op] [b] pos) (Zni rp ma mb):=by
 obtain⟨_,A,sa⟩:=ha
 obtain⟨_,B,sb⟩:=hb
 exact⟨_,Z0i ho A B hm,Zyu P sa sb hc⟩
theorem Ycc{r:R2}{rp}{pos:Pos}(ho:IxR X r)(P:P2 X.K r rp)(ha:ME X io p c a ma)(hb:ME X io p' c' b mb)(hc:p'=true∨c=true:=by first|exact QQ rfl|exact Qx rfl)(hs:Zk0 b):ME X io (p&&p') (c&&c') (.Subscript a b pos) (Z6d rp ma mb):=by
 obtain⟨_,A,sa⟩:=ha
 obtain⟨_,B,sb⟩:=hb
 exact⟨_,Z4y ho A B hs,Ybl P sa sb hc⟩
noncomputable def kB(K:Bool->Zm->Prop):OT->Zm->Prop:=λo δ=>match o with| .fz (.bool b)=>K b δ|_=>False
theorem Z8z{t:TE}(h:SE G io p c t m):STt G io p (Z3h t) (λδ K=>m δ (kB K)):=by
 intro C H σ δ fp ex K Q R h' k
 refine h C H σ δ fp ex _ _ R h' λH' v r δ' fp' new r1 h1=>?_
 cases r with
 | nd ts=>exact h1.elim
 | tp ts=>exact h1.elim
 | dc _ _ _=>exact h1.elim
 | fz d=>
  cases d with
  | bool b=>
   cases r1.own with
   | fz q=>
    cases q
    exact⟨b,rfl,k H' b δ' fp' r1.base r1.stp h1⟩
  | _=>exact h1.elim
theorem Zg9{op:CmpOp}{r:R2}{rp}{pos:Pos}(ho:OpR X (Bj op) r)(P:P2s X.K r rp)(ha:ME X io p c a ma)(hb:ME X io p' c' b mb)(hc:p'=true∨c=true:=by first|exact QQ rfl|exact Qx rfl)(hm:Uh op b=false) :
  MT X io (p&&p') (.Compare a [op] [b] pos) (λδ K=>Zni rp ma mb δ (kB K)):=by
 obtain⟨_,A,sa⟩:=ha
 obtain⟨_,B,sb⟩:=hb
 exact⟨_,Z08 ho A B hm,Z8z (Zyu P sa sb hc)⟩
end
variable {G:Xb}
section
variable {X:Cx}{io:List Nat}{p p' p'' c c':Bool}{e a b:Expr}{m ma mb:MEt}{es rest:List Expr}{ta tb:MTt}{pos:Pos}
noncomputable def Z9z(t:MTt):MTt:=λδ K=>t δ λb δ'=>K (!b) δ'
noncomputable def Yal(t u:MTt):MTt:=λδ K=>t δ λb δ'=>if b=true then u δ' K else K false δ'
noncomputable def mOr(t u:MTt):MTt:=λδ K=>t δ λb δ'=>if b=true then K true δ' else u δ' K
theorem Z4i(h:MT X io p a ta):MT X io p (.UnaryOp .Not a pos) (Z9z ta):=by
 obtain⟨_,A,sa⟩:=h
 exact⟨_,Z4p A,λC H σ δ fp ex K Q R h k=>sa C H σ δ fp ex _ _ R h λH' b δ' fp' R' S h'=>k H' (!b) δ' fp' R' S h'⟩
theorem Zns(h:MT X io p a ta):MW X io p (.BoolOp .And [a] pos) ta:=by
 obtain⟨_,A,sa⟩:=h
 exact⟨_,Z06 A,sa⟩
theorem Zc1(h:MT X io p a ta):MW X io p (.BoolOp .Or [a] pos) ta:=by
 obtain⟨_,A,sa⟩:=h
 exact⟨_,Z40 A,sa⟩
theorem Stp.andL{H H':Hp}{δ δ':Zm}{fp fp':Fp}(S:Stp p H δ fp H' δ' fp'):Stp (p&&p') H δ fp H' δ' fp':=by
 have:=S.trans (Stp.refl p' H' δ' fp')
 exact this
theorem Zra(h:MT X io p a ta)(g:MW X io p' (.BoolOp .And (b :: rest) pos) tb):MW X io (p&&p') (.BoolOp .And (a :: b :: rest) pos) (Yal ta tb):=by
 obtain⟨_,A,sa⟩:=h
 obtain⟨_,B,sb⟩:=g
 exact⟨_,Z2v A B,λC H σ δ fp ex K Q R h k=>sa C H σ δ fp ex _ _ R h λH' b δ' fp' R' S h'=>by
  cases b with
  | true=>
   rw[if_pos rfl]at h'⊢
   exact sb C H' σ δ' fp' ex _ _ R' h' λH2 b2 δ2 fp2 R2 S2 h2=>k H2 b2 δ2 fp2 R2 (S.trans S2) h2
  | false=>
   rw[if_neg Xu]at h'⊢
   exact k H' false δ' fp' R' S.andL h'⟩
theorem Zfy(h:MT X io p a ta)(g:MW X io p' (.BoolOp .Or (b :: rest) pos) tb):MW X io (p&&p') (.BoolOp .Or (a :: b :: rest) pos) (mOr ta tb):=by
 obtain⟨_,A,sa⟩:=h
 obtain⟨_,B,sb⟩:=g
 exact⟨_,Z9f A B,λC H σ δ fp ex K Q R h k=>sa C H σ δ fp ex _ _ R h λH' b δ' fp' R' S h'=>by
  cases b with
  | true=>
   rw[if_pos rfl]at h'⊢
   exact k H' true δ' fp' R' S.andL h'
  | false=>
   rw[if_neg Xu]at h'⊢
   exact sb C H' σ δ' fp' ex _ _ R' h' λH2 b2 δ2 fp2 R2 S2 h2=>k H2 b2 δ2 fp2 R2 (S.trans S2) h2⟩
theorem MW.mt(h:MW X io p e ta):MT X io p e ta:=by
 obtain⟨_,A,sa⟩:=h
 exact⟨_,A.pt,sa⟩
noncomputable def Zuy:Xa->Option Bool
 | .none=>some false
 | .bool b=>some b
 | .int i=>some (i !=0)
 | .list ds=>some (!ds.isEmpty)
 | .tuple ds=>some (!ds.isEmpty)
 | _=>none
noncomputable def Ybm(m:MEt):MTt:=λδ K=>m δ λr δ'=>match Zuy r.data with|some b=>K b δ'|none=>False
theorem Das.isEmpty{H:Hp}{L:Addr->Prop}{xs:List V}{ds:List Xa}(h:Das G H L xs ds):xs.isEmpty=ds.isEmpty:=by cases h<;>rfl
theorem Jj(ha:ME X io p c a ma)(he:∀whole,isTrue a X.env whole=(do let v←whole;standAt a.pos;holding [v] (truthy v))):MT X io p a (Ybm ma):=by
 obtain⟨_,A,sa⟩:=ha
 exact⟨_,Zyt rfl A he,λC H σ δ fp ex K' Q R h k=>sa C H σ δ fp ex _ _ R h λH' v r δ' fp' new r1 h1=>by
  have q:=r1.da R
  generalize r.data=d at q h1
  cases q with
  | non=>exact⟨_,rfl,k H' _ δ' fp' r1.base r1.stp h1⟩
  | bl b=>exact⟨_,rfl,k H' _ δ' fp' r1.base r1.stp h1⟩
  | int b=>exact⟨_,rfl,k H' _ δ' fp' r1.base r1.stp h1⟩
  | str x=>exact h1.elim
  | lst _ e q=>exact⟨_,.inl ⟨_,.inl e,rfl⟩,k H' _ δ' fp' r1.base r1.stp (by rw[q.isEmpty];exact h1)⟩
  | tup e q=>exact⟨_,.inr (.inl ⟨_,.inl (.inl e),rfl⟩),k H' _ δ' fp' r1.base r1.stp (by rw[q.isEmpty];exact h1)⟩
  | scr q=>exact⟨_,.inl ⟨_,q.sq,rfl⟩,k H' _ δ' fp' r1.base r1.stp (by simpa [Zuy]using h1)⟩
  | exc _ _ _=>exact h1.elim
  | fn _=>exact h1.elim
  | dic _ _ _ _=>exact h1.elim⟩
noncomputable def asB(d:Xa)(k:Bool->Prop):Prop:=match d with| .bool b=>k b|_=>False
noncomputable def Z2i(a b:MEt):MEt:=λδ K=>a δ λx δ1=>asB x.data λc=>if c=true then b δ1 K else K (.fz (.bool false)) δ1
noncomputable def Z4v(a:MEt):MEt:=λδ K=>a δ λx δ1=>asB x.data λc=>K (.fz (.bool (!c))) δ1
noncomputable def mIf(t:MTt)(a b:MEt):MEt:=λδ K=>t δ λc δ1=>if c=true then a δ1 K else b δ1 K
theorem Da.boolInv{H:Hp}{L:Addr->Prop}{v:V}{d:Xa}{k:Bool->Prop}(q:Da G H L v d)(h:asB d k):∃b,v= .bl b∧k b:=by
 cases q with
 | bl b=>exact⟨b,rfl,h⟩
 | _=>exact h.elim
theorem RE.step{C:MC G}{H H1 H2:Hp}{σ:St}{δ δ1 δ2:Zm}{fp fp1 fp2:Fp}{ex:Addr->Prop}{v:V}{r:OT}{new:List Addr}(S:Stp p H δ fp H1 δ1 fp1)(R:RE C io p' c H1 σ δ1 fp1 ex H2 v r δ2 fp2 new) :
  RE C io (p&&p') c H σ δ fp ex H2 v r δ2 fp2 new:=⟨R.rel,S.trans R.stp,R.own,R.nd,λa m=>S.al a (R.fresh a m)⟩
theorem Zl1{op}(h:ME X io p c a ma):ME X io p c (.BoolOp op [a] pos) ma:=by
 obtain⟨_,A,sa⟩:=h
 exact⟨_,Z4e A,sa⟩
theorem Zjn(ha:ME X io p c a ma)(hb:ME X io p' c' (.BoolOp .And (b :: rest) pos) mb):ME X io (p&&p') c' (.BoolOp .And (a :: b :: rest) pos) (Z2i ma mb):=by
 obtain⟨_,A,sa⟩:=ha
 obtain⟨_,B,sb⟩:=hb
 exact⟨_,Z24 A B,λC H σ δ fp ex K Q R h k=>sa C H σ δ fp ex _ _ R h λH' v r δ' fp' new r1 h1=>by
  obtain⟨b,rfl,h1⟩:=(r1.da R).boolInv h1
  refine⟨b,rfl,?_⟩
  cases b with
  | true=>
   rw[if_pos rfl]at h1⊢
   exact sb C H' σ δ' fp' ex _ _ r1.base h1 λH2 w r2 δ2 fp2 new2 R2 h2=>k H2 w r2 δ2 fp2 new2 (R2.step r1.stp) h2
  | false=>
   rw[if_neg Xu]at h1⊢
   exact k H' _ _ δ' fp' [] (RE.fz r1.base r1.stp.andL (.bl false)) h1⟩
theorem Z9m(ha:ME X io p c a ma):ME X io p true (.UnaryOp .Not a pos) (Z4v ma):=by
 obtain⟨_,A,sa⟩:=ha
 exact⟨_,Z1u A,λC H σ δ fp ex K Q R h k=>sa C H σ δ fp ex _ _ R h λH' v r δ' fp' new r1 h1=>by
  obtain⟨b,rfl,h1⟩:=(r1.da R).boolInv h1
  exact⟨b,rfl,k H' _ _ δ' fp' [] (RE.fz r1.base r1.stp (.bl _)) h1⟩⟩
theorem Stp.cast{p p':Bool}{H H':Hp}{δ δ':Zm}{fp fp':Fp}(h:p'=true->p=true)(S:Stp p H δ fp H' δ' fp'):Stp p' H δ fp H' δ' fp' :=
 ⟨λb o e q=>S.keep b o e (q.imp h id),λq=>S.env (h q),S.grow,S.al⟩
theorem RE.cast{C:MC G}{H H1:Hp}{σ:St}{δ δ1:Zm}{fp fp1:Fp}{ex:Addr->Prop}{v:V}{r:OT}{new:List Addr}(hp:p'=true->p=true)(hc:c'=true->c=true)(R:RE C io p c H σ δ fp ex H1 v r δ1 fp1 new) :
  RE C io p' c' H σ δ fp ex H1 v r δ1 fp1 new:=⟨R.rel,R.stp.cast hp,R.own.wide λa l _ z=>l (hc z),R.nd,R.fresh⟩
theorem Ycs{t:Expr}(ht:MT X io p t ta)(ha:ME X io p' c a ma)(hb:ME X io p'' c' b mb):ME X io (p&&(p'&&p'')) (c&&c') (.IfExp t a b pos) (mIf ta ma mb):=by
 obtain⟨_,T,st⟩:=ht
 obtain⟨_,A,sa⟩:=ha
 obtain⟨_,B,sb⟩:=hb
 exact⟨_,Zt9 T A B,λC H σ δ fp ex K Q R h k=>st C H σ δ fp ex _ _ R h λH' b δ' fp' R' S h'=>by
  cases b with
  | true=>
   rw[if_pos rfl]at h'⊢
   exact sa C H' σ δ' fp' ex _ _ R' h' λH2 w r2 δ2 fp2 new2 R2 h2=>k H2 w r2 δ2 fp2 new2 ((R2.step S).cast (λz=>by simp at z;simp[z]) (λz=>by simp at z;exact z.1)) h2
  | false=>
   rw[if_neg Xu]at h'⊢
   exact sb C H' σ δ' fp' ex _ _ R' h' λH2 w r2 δ2 fp2 new2 R2 h2=>k H2 w r2 δ2 fp2 new2 ((R2.step S).cast (λz=>by simp at z;simp[z]) (λz=>by simp at z;exact z.2)) h2⟩
end
section
variable {X:Cx}{io:List Nat}{p p' p'' c c':Bool}{e a b:Expr}{m ma mb:MEt}{es rest:List Expr}{mr:MAt}{pos:Pos}
noncomputable def Z9w:MAt:=λδ K=>K [] δ
noncomputable def Z3d(m:MEt)(mr:MAt):MAt:=λδ K=>m δ λr δ1=>mr δ1 λrs δ2=>K (r :: rs) δ2
theorem Z4u:MA X io true true [] Z9w:=⟨_,Zpm,λC H σ δ fp ex K Q R h k=>k H [] [] δ fp [] ⟨R.drop λa z=>Zdz.mp z,.refl _ _ _ _,.nil,.nil,λa m=>nomatch m⟩ h⟩
theorem Zyc(ha:ME X io p c e m)(hr:MA X io p' c' es mr)(hc:p'=true∨c=true)(hs:Xr (e :: es) X.env=(false,eval e X.env) :: Xr es X.env:=by rfl):MA X io (p&&p') (c&&c') (e :: es) (Z3d m mr):=by
 obtain⟨tA,A,sa⟩:=ha
 obtain⟨tB,B,sb⟩:=hr
 refine⟨_,Zjb A B hs,λC H σ δ fp ex K Q R h k=>?_⟩
 refine sa C H σ δ fp ex _ _ R h λH1 x u δ1 fp1 new1 r1 h1=>?_
 refine sb C H1 σ δ1 fp1 (exu ex new1) _ _ r1.rel h1 λH2 ys us δ2 fp2 new2 r2 h2=>?_
 have o1:=r1.rel.own_step (ex':=exu (exu ex new1) new2) r2.stp (c:=c) hc (λa z=>z.imp id λz=>r2.fresh a z) (λa m=>.inr m) r1.own
 have eqx:∀a,exu ex (new1 ++ new2) a->exu (exu ex new1) new2 a:=λa z=>by
  rcases z with z|z
  ·exact .inl (.inl z)
  ·rcases QV.mp z with z|z
   ·exact .inl (.inr z)
   ·exact .inr z
 refine k H2 (x :: ys) (u :: us) δ2 fp2 (new1 ++ new2) ⟨r2.rel.drop eqx,r1.stp.trans r2.stp,.cons (o1.wide λa l _ z=>?_) (r2.own.wide λa l _ z=>?_),?_,?_⟩ h2
 ·have l:=l (by rw[Xo]at z;exact z.1)
  exact⟨l.1,λw=>l.2.1 (eqx a w),l.2.2⟩
 ·have l:=l (by rw[Xo]at z;exact z.2)
  exact⟨l.1,λw=>l.2.1 (eqx a w),l.2.2⟩
 ·refine U0.mpr ⟨r1.nd,r2.nd,λa m b m' z=>?_⟩
  subst z
  obtain⟨xs,e⟩:=r1.own.some a m
  rw[r2.fresh a m']at e
  cases e
 ·intro a m
  rcases QV.mp m with m|m
  ·exact r1.fresh a m
  ·exact r1.stp.al a (r2.fresh a m)
noncomputable def Yax(m:MAt):MEt:=λδ K=>m δ λrs δ'=>rs.length≤Xq∧K (.fz (.tuple (OT.datas rs))) δ'
noncomputable def Yao(m:MAt):MEt:=λδ K=>m δ λrs δ'=>rs.length≤Xq∧K (.nd rs) δ'
theorem Z9h{x1}(h:MA X io p c es mr):ME X io p c (.Tuple es x1 pos) (Yax mr):=by
 obtain⟨tA,A,sa⟩:=h
 refine⟨_,Zwt A,λC H σ δ fp ex K Q R h k=>?_⟩
 refine sa C H σ δ fp ex _ _ R h λH1 vs rs δ1 fp1 new1 r1 h1=>⟨by rw[r1.own.length];exact h1.1,λq hq=>?_⟩
 have s:=Yu hq (.tup vs)
 have R1:=r1.base
 have S:=r1.stp.trans (p':=true) (Stp.same (p:=true) (δ:=δ1) (fp:=fp1) s s.al)
 rw[Bool.and_true]at S
 refine k _ _ _ δ1 fp1 [] (.fz ?_ S (.tup Yo ((r1.das R).same s))) h1.2
 exact(R1.made (new:=[]) s λa m=>nomatch m).drop λa z=>.inl z
theorem Z8x(h:MA X io p c es mr):ME X io p c (.List es pos) (Yao mr):=by
 obtain⟨tA,A,sa⟩:=h
 refine⟨_,Zw0 A,λC H σ δ fp ex K Q R h k=>?_⟩
 refine sa C H σ δ fp ex _ _ R h λH1 vs rs δ1 fp1 new1 r1 h1=>⟨by rw[r1.own.length];exact h1.1,λq hq=>?_⟩
 have s:=Yu hq (.lst vs)
 have S:=r1.stp.trans (p':=true) (Stp.same (p:=true) (δ:=δ1) (fp:=fp1) s s.al)
 rw[Bool.and_true]at S
 have hqn:q∉new1:=λm=>by
  obtain⟨xs,e⟩:=r1.own.some q m
  rw[hq]at e;cases e
 have R2:=(r1.rel.made (new:=[q]) s λa m=>by
  rcases Qj.mp m with rfl
  exact⟨hq,by rw[Yo];intro z;cases z⟩)
 have eqx:∀a,exu ex (q :: new1) a->exu (exu ex new1) [q] a:=λa z=>by
  rcases z with z|z
  ·exact .inl (.inl z)
  ·rcases Xw.mp z with z|z
   ·exact .inr (Qj.mpr z)
   ·exact .inl (.inr z)
 refine k _ _ _ δ1 fp1 (q :: new1) ⟨R2.drop eqx,S,.nd Yo ((r1.own.wide λa l w z=>?_).same s),QT.mpr ⟨hqn,r1.nd⟩,λa m=>?_⟩ h1.2
 ·have l:=l z
  refine⟨l.1,λy=>?_,l.2.2⟩
  rcases eqx a y with y|y
  ·exact l.2.1 y
  ·rcases Qj.mp y with rfl
   exact w hq
 ·rcases Xw.mp m with rfl|m
  ·exact r1.stp.al _ hq
  ·exact r1.fresh a m
end
variable {G:Xb}
noncomputable def spD(G:Xb)(S:List Xa->(OT->Prop)->Prop):Sp:=λvs H Q _=>∃L ds k,Das G H L vs ds∧S ds k∧
 ∀r v H' new,k r->Same H H'->Own G H' (λa=>(L a∨H a=none)∧a∉new) v r new->new.Nodup->(∀a∈new,H a=none)->Q v H'
section
variable {X:Cx}{io:List Nat}{p p' p'' c c':Bool}{e a b:Expr}{m ma mb:MEt}{es rest:List Expr}{mr:MAt}{pos:Pos}
variable {CX:CXT}{k:Nat}{f:Addr}{fd:Xv}{ps:List Str}{E:XK}{x:Str}{pp:Pos}
noncomputable def Zxy(S:List Xa->(OT->Prop)->Prop)(mr:MAt):MEt:=λδ K=>mr δ λrs δ1=>S (OT.datas rs) λr=>K r δ1
theorem Z87{S}{t:TA}(sa:SA G io p c t mr):SE G io p c (Z5m (spD G S) [] E t) (Zxy S mr):=by
 intro C H σ δ fp ex K Q R h kk
 refine sa C H σ δ fp ex _ _ R h λH1 vs rs δ1 fp1 new1 r1 h1=>?_
 rw[Bb]
 refine⟨_,_,_,r1.das R,h1,λr v H' new kr s o nd hn=>?_⟩
 exact kk H' v r δ1 fp1 new (RE.tree R r1.base r1.stp s hn nd o) kr
theorem Z4d{S}(F:FnOk X.prog X.w X.K X.mg X.base CX k f fd ps (spD X.K S))(hr:Room k X.A)(hg:Gl X x)(hm:X.mg x=some (.ref f))(hk:Vh X.K (.ref f)=true)(hb:Binds X.K fd ps [])(hx:Zo7 CX X E)
  (ha:MA X io p c (e :: es) mr) (hdb:(x==("__debug__" : Str))=false:=by decide) (he:Xr (e :: es) X.env=(false,eval e X.env) :: Xr es X.env:=by rfl) (hpl:(BJ pos (Xr es X.env)).any (·.1)=false:=by rfl) :
  ME X io p c (.Call (.Name x pp) (e :: es) [] pos) (Zxy S mr):=by
 obtain⟨_,A,sa⟩:=ha
 exact⟨_,Zyn F hr hg hm hk hb .nil hx A hdb he hpl,Z87 sa⟩
noncomputable def fpu(fp:Fp)(i:Nat)(as:List Addr):Fp:=λj=>if j=i then as else fp j
theorem Yp{fp:Fp}{i:Nat}{as:List Addr}:fpu fp i as i=as:=if_pos rfl
theorem Wl{fp:Fp}{i j:Nat}{as:List Addr}(h:j≠i):fpu fp i as j=fp j:=if_neg h
theorem Foot.of_u{fp:Fp}{i:Nat}{as:List Addr}{a:Addr}(h:Foot (fpu fp i as) a):a∈as∨∃j,j≠i∧a∈fp j:=by
 obtain⟨j,h⟩:=h
 by_cases e:j=i
 ·subst e;rw[Yp]at h;exact .inl h
 ·rw[Wl e]at h;exact .inr ⟨j,e,h⟩
theorem Rel.change{C:MC G}{H H':Hp}{σ:St}{δ:Zm}{fp:Fp}{ex:Addr->Prop}{i:Nat}{t t':OT}{v:V}{as' new:List Addr}(R:Rel C io H σ δ fp ex)(hi:δ[i]? =some (some t))(hv:σ[i]? =some (some v))
  (keep:∀b o,H b=some o->b∉fp i->H' b=some o) (al:∀b,H' b=none->H b=none) (o:Own G H' (Lf C (fpu fp i as') (exu ex new)) v t' as') (nd:as'.Nodup) (new':∀a∈as',a∈fp i∨H a=none)
  (hn:∀a∈new,H a=none∧H' a≠none∧a∉as') :
  Rel C io H' σ (δ.set i (some t')) (fpu fp i as') (exu ex new)∧Stp false H δ fp H' (δ.set i (some t')) (fpu fp i as'):=by
 have hil:i<δ.length:=(Xm.mp hi).1
 have apart:∀j a,j≠i->a∈fp j->a∉as':=λj a e m z=>by
  rcases new' a z with z|z
  ·exact e (R.dj j i a m z)
  ·exact R.footSome z ⟨j,m⟩
 constructor
 ·refine⟨by rw[JP];exact R.len,λj t'' e=>?_,λj h=>?_,λj=>?_,λj k a h1 h2=>?_,λj a h z=>?_,λa z w=>z.elim (λz=>R.xa a z (al a w)) (λz=>(hn a z).2.1 w),λb ob e n=>?_,λb z=>R.al b (al b z),λj a h=>?_,R.io⟩
  ·by_cases ej:j=i
   ·subst ej
    rw[QL hil]at e
    cases e
    exact⟨v,hv,by rw[Yp];exact o⟩
   ·rw[Qq (Vc ej)]at e
    obtain⟨w,e1,o1⟩:=R.own j t'' e
    refine⟨w,e1,?_⟩
    rw[Wl ej]
    refine o1.frame (λa xs l q=>?_) (λa xs q=>keep a _ q λz=>?_) λa m xs q=>keep a _ q λz=>ej (R.dj j i a m z)
    ·have na:a∉fp i:=λz=>l.1 ⟨i,z⟩
     refine⟨⟨λz=>?_,λz=>z.elim l.2.1 λz=>q.some (hn a z).1,l.2.2⟩,?_⟩
     ·rcases z.of_u with z|⟨k,_,z⟩
      ·rcases new' a z with z|z
       ·exact na z
       ·exact q.some z
      ·exact l.1 ⟨k,z⟩
     ·rcases q with q|⟨u,q⟩
      ·exact .inl (keep a _ q na)
      ·exact .inr ⟨u,keep a _ q na⟩
    ·obtain⟨ys,e⟩:=R.foot ⟨i,z⟩
     exact ImO.nm q e
  ·by_cases ej:j=i
   ·subst ej
    exact absurd (QL hil) (h t')
   ·rw[Wl ej]
    refine R.emp j λt'' z=>h t'' ?_
    rw[Qq (Vc ej)]
    exact z
  ·by_cases ej:j=i
   ·subst ej;rw[Yp];exact nd
   ·rw[Wl ej];exact R.nd j
  ·by_cases ej:j=i
   ·subst ej
    rw[Yp]at h1
    by_cases ek:k=j
    ·exact ek.symm
    ·rw[Wl ek]at h2
     exact absurd h1 (apart k a ek h2)
   ·rw[Wl ej]at h1
    by_cases ek:k=i
    ·subst ek
     rw[Yp]at h2
     exact absurd h2 (apart j a ej h1)
    ·rw[Wl ek]at h2
     exact R.dj j k a h1 h2
  ·by_cases ej:j=i
   ·subst ej
    rw[Yp]at h
    rcases z with z|z
    ·rcases new' a h with w|w
     ·exact R.dx _ a w z
     ·exact R.xa a z w
    ·exact(hn a z).2.2 h
   ·rw[Wl ej]at h
    rcases z with z|z
    ·exact R.dx j a h z
    ·exact R.footSome (hn a z).1 ⟨j,h⟩
  ·refine keep b ob (R.fr b ob e n) λz=>?_
   rcases R.new i b z with w|w
   ·exact n w.2
   ·rw[e]at w;cases w
  ·by_cases ej:j=i
   ·subst ej
    rw[Yp]at h
    rcases new' a h with w|w
    ·exact R.new _ a w
    ·exact .inr (R.al a w)
   ·rw[Wl ej]at h
    exact R.new j a h
 ·refine⟨λb ob e q=>keep b ob e λz=>(q.resolve_left (by decide)) ⟨i,z⟩,λz=>(nomatch z),λa z=>?_,al⟩
  rcases z.of_u with z|⟨j,_,z⟩
  ·exact(new' a z).imp (λw=>⟨i,w⟩) id
  ·exact .inl ⟨j,z⟩
noncomputable def PNs(G:Xb)(r:List V->Hp->VK->Prop)(rp:List Xa->(Xa->Prop)->Prop):Prop:=∀(H:Hp) (L:Addr->Prop) (xs:List V) (ds:List Xa) (k:Xa->Prop) (Q:VK),Das G H L xs ds->rp ds k->(∀v d',ScD v d'->k d'->Q v H)->r xs H Q
noncomputable def PN(G:Xb)(r:List V->Hp->VK->Prop)(rp:List Xa->(OT->Prop)->Prop):Prop:=∀(H:Hp) (L:Addr->Prop) (xs:List V) (ds:List Xa) (k:OT->Prop) (Q:VK),Das G H L xs ds->rp ds k ->
 (∀ H' v o new,Same H H'->Own G H' (λa=>(L a∨H a=none)∧a∉new) v o new->new.Nodup->(∀a∈new,H a=none)->k o->Q v H')->r xs H Q
noncomputable def Z6s(rp:List Xa->(Xa->Prop)->Prop)(mr:MAt):MEt:=λδ K=>mr δ λrs δ1=>rp (OT.datas rs) λd=>K (.fz d) δ1
noncomputable def mBl(rp:List Xa->(OT->Prop)->Prop)(mr:MAt):MEt:=λδ K=>mr δ λrs δ1=>rp (OT.datas rs) λo=>K o δ1
theorem Yaf{r rp}{t:TA}(P:PNs G r rp)(sa:SA G io p c t mr):SE G io p true (tCB r t) (Z6s rp mr):=λC H σ δ fp ex K Q R h kk=>
 sa C H σ δ fp ex _ _ R h λH1 vs rs δ1 fp1 new1 r1 h1=>P H1 _ vs _ _ _ (r1.das R) h1 λv d' sc h2=>kk H1 v _ δ1 fp1 [] (.fz r1.base r1.stp sc.da) h2
theorem sBl{r rp}{t:TA}(P:PN G r rp)(sa:SA G io p c t mr):SE G io p c (tCB r t) (mBl rp mr):=λC H σ δ fp ex K Q R h kk=>
 sa C H σ δ fp ex _ _ R h λH1 vs rs δ1 fp1 new1 r1 h1=>P H1 _ vs _ _ _ (r1.das R) h1 λH' v o new s ow nd hn h2=>kk H' v o δ1 fp1 new (RE.tree R r1.base r1.stp s hn nd ow) h2
variable {id T:String}{r:List V->Hp->VK->Prop}
theorem Zfv{rp}(P:PNs X.K r rp)(hc:Zcl X (.builtin id) r)(hg:Gl X x)(hm:X.mg x=none)(hv:Qk x=some (.builtin id))(ha:MA X io p c (e :: es) mr)(hn:x≠"__name__" :=by decide)(hdb:(x==("__debug__" : Str))=false:=by decide)
  (he:Xr (e :: es) X.env=(false,eval e X.env) :: Xr es X.env:=by rfl) (hpl:(BJ pos (Xr es X.env)).any (·.1)=false:=by rfl):ME X io p true (.Call (.Name x pp) (e :: es) [] pos) (Z6s rp mr):=by
 obtain⟨_,A,sa⟩:=ha
 exact⟨_,Zkm hc hg hm hv A hn hdb he hpl,Yaf P sa⟩
theorem Z8g{rp}(P:PN X.K r rp)(hc:Zcl X (.builtin id) r)(hg:Gl X x)(hm:X.mg x=none)(hv:Qk x=some (.builtin id))(ha:MA X io p c (e :: es) mr)(hn:x≠"__name__" :=by decide)(hdb:(x==("__debug__" : Str))=false:=by decide)
  (he:Xr (e :: es) X.env=(false,eval e X.env) :: Xr es X.env:=by rfl) (hpl:(BJ pos (Xr es X.env)).any (·.1)=false:=by rfl):ME X io p c (.Call (.Name x pp) (e :: es) [] pos) (mBl rp mr):=by
 obtain⟨_,A,sa⟩:=ha
 exact⟨_,Zkm hc hg hm hv A hn hdb he hpl,sBl P sa⟩
theorem Zt8{rp}(P:PNs X.K r rp)(hc:Zcl X (.type T) r)(hg:Gl X x)(hm:X.mg x=none)(hv:Qk x=some (.type T))(ha:MA X io p c (e :: es) mr)(hn:x≠"__name__" :=by decide)(hdb:(x==("__debug__" : Str))=false:=by decide)
  (he:Xr (e :: es) X.env=(false,eval e X.env) :: Xr es X.env:=by rfl) (hpl:(BJ pos (Xr es X.env)).any (·.1)=false:=by rfl):ME X io p true (.Call (.Name x pp) (e :: es) [] pos) (Z6s rp mr):=by
 obtain⟨_,A,sa⟩:=ha
 exact⟨_,Zmo hc hg hm hv A hn hdb he hpl,Yaf P sa⟩
theorem Yap{rp}(P:PN X.K r rp)(hc:Zcl X (.type T) r)(hg:Gl X x)(hm:X.mg x=none)(hv:Qk x=some (.type T))(ha:MA X io p c (e :: es) mr)(hn:x≠"__name__" :=by decide)(hdb:(x==("__debug__" : Str))=false:=by decide)
  (he:Xr (e :: es) X.env=(false,eval e X.env) :: Xr es X.env:=by rfl) (hpl:(BJ pos (Xr es X.env)).any (·.1)=false:=by rfl):ME X io p c (.Call (.Name x pp) (e :: es) [] pos) (mBl rp mr):=by
 obtain⟨_,A,sa⟩:=ha
 exact⟨_,Zmo hc hg hm hv A hn hdb he hpl,sBl P sa⟩
end
variable {G:Xb}
mutual
noncomputable def Zca:Xa->Bool
 | .none=>true
 | .bool _=>true
 | .int _=>true
 | .str _=>true
 | .tuple ds=>Zmf ds
 | .list _=>false
 | .dict _=>false
noncomputable def Zmf:List Xa->Bool
 | []=>true
 | d :: ds=>Zca d&&Zmf ds
end
theorem Da.flat2{H:Hp}{L L':Addr->Prop}:(∀{v:V} {d:Xa},Da G H L v d->Zca d=true->Da G H L' v d)∧∀{v:List V} {d:List Xa},Das G H L v d->Zmf d=true->Das G H L' v d :=
 Da.both (λ_=>.non) (λb _=>.bl b) (λi _=>.int i) (λx _=>.str x) (λ_ _ _ h=>by rw[Zca]at h;cases h) (λe r h=>.tup e (r (by rw[Zca]at h;exact h))) (λk _=>.scr k) (λc n e _=>.exc c n e) (λk _=>.fn k) (λ_ _ _ _ h=>by rw[dcD,Zca]at h;cases h) (λ_=>.nil)
  (λk r h=>by rw[Zmf,Xo]at h;exact .cons (k h.1) (r h.2))
theorem Da.flat{H:Hp}{L L':Addr->Prop}{v:V}{d:Xa}(h:Da G H L v d)(f:Zca d=true):Da G H L' v d:=Da.flat2.1 h f
set_option genInjectivity false in
structure Zic where
 nx:Zm->Prop
 rt:OT->Zm->Prop
 bk:Zm->Prop:=λ_=>False
 ct:Zm->Prop:=λ_=>False
noncomputable abbrev MSt:=Zic->Zm->Prop
noncomputable abbrev Kp(H:Hp)(fp:Fp)(H':Hp)(fp':Fp):Prop:=Stp false H [] fp H' [] fp'
theorem Stp.kp{p:Bool}{H H':Hp}{δ δ':Zm}{fp fp':Fp}(S:Stp p H δ fp H' δ' fp'):Kp H fp H' fp':=⟨λb o e q=>S.keep b o e (.inr (q.resolve_left (by decide))),λz=>(nomatch z),S.grow,S.al⟩
theorem Kp.trans{H H1 H2:Hp}{fp fp1 fp2:Fp}(a:Kp H fp H1 fp1)(b:Kp H1 fp1 H2 fp2):Kp H fp H2 fp2:=Stp.trans a b
theorem Kp.refl(H:Hp)(fp:Fp):Kp H fp H fp:=Stp.refl _ _ _ _
structure RelEnds(C:MC G)(io:List Nat)(ex:Addr->Prop)(H:Hp)(fp:Fp)(D:Zic)(D':Ends):Prop where
 nx:∀H' σ' δ' fp',Rel C io H' σ' δ' fp' ex->Kp H fp H' fp'->D.nx δ'->D'.nx σ' H'
 bk:∀H' σ' δ' fp',Rel C io H' σ' δ' fp' ex->Kp H fp H' fp'->D.bk δ'->D'.bk σ' H'
 ct:∀H' σ' δ' fp',Rel C io H' σ' δ' fp' ex->Kp H fp H' fp'->D.ct δ'->D'.ct σ' H'
 rt:∀H' σ' v r δ' fp' new,Rel C io H' σ' δ' fp' (exu ex new)->Own G H' (Lf C fp' (exu ex new)) v r new->new.Nodup->(∀a∈new,C.H₀ a=none)->D.rt r δ'->D'.rt v H'
theorem RelEnds.shift{C:MC G}{io:List Nat}{ex:Addr->Prop}{H H1:Hp}{fp fp1:Fp}{D:Zic}{D':Ends}(E:RelEnds C io ex H fp D D')(k:Kp H fp H1 fp1):RelEnds C io ex H1 fp1 D D' :=
 ⟨λH' σ' δ' fp' R q=>E.nx H' σ' δ' fp' R (k.trans q),λH' σ' δ' fp' R q=>E.bk H' σ' δ' fp' R (k.trans q),λH' σ' δ' fp' R q=>E.ct H' σ' δ' fp' R (k.trans q),E.rt⟩
noncomputable def SS(G:Xb)(io:List Nat)(t:TS)(m:MSt):Prop:=∀(C:MC G) (H:Hp) (σ:St) (δ:Zm) (fp:Fp) (ex:Addr->Prop) (D:Zic) (D':Ends),Rel C io H σ δ fp ex->m D δ->RelEnds C io ex H fp D D'->t D' σ H
noncomputable def MS(X:Cx)(io:List Nat)(st:Stmt)(m:MSt):Prop:=∃t,PS X st t∧SS X.K io t m
noncomputable def MSs(X:Cx)(io:List Nat)(st:List Stmt)(m:MSt):Prop:=∃t,PSs X st t∧SS X.K io t m
section
variable {X:Cx}{io:List Nat}{p p' p'' c c':Bool}{e a b:Expr}{m ma mb:MEt}{es rest:List Expr}{mr:MAt}{pos:Pos}{st:Stmt}{sts:List Stmt}{u w:MSt}{mt:MTt}
noncomputable def Z2z:MSt:=λD δ=>D.nx δ
noncomputable def Hold(w:MSt)(D:Zic)(δ:Zm):Prop:=w D δ
theorem Hold.go{w:MSt}{D:Zic}{δ:Zm}(h:w D δ):Hold w D δ:=h
noncomputable def Z68(u w:MSt):MSt:=λD δ=>u { D with nx:=Hold w D } δ
theorem Z1g:MSs X io [] Z2z:=⟨_,Zzt,λC H σ δ fp ex D D' R h E=>E.nx H σ δ fp R (.refl _ _) h⟩
theorem Zh(h:MS X io st u):MSs X io [st] u:=by
 obtain⟨_,A,s⟩:=h
 exact⟨_,Z03 A,s⟩
theorem Zut(h:MS X io st u)(g:MSs X io sts w):MSs X io (st :: sts) (Z68 u w):=by
 obtain⟨_,A,s⟩:=h
 obtain⟨tb,B,s'⟩:=g
 exact⟨_,Zue A B,λC H σ δ fp ex D D' R h E=>s C H σ δ fp ex _ _ R h ⟨λH1 σ1 δ1 fp1 R1 k1 h1=>s' C H1 σ1 δ1 fp1 ex D D' R1 h1 (E.shift k1),E.bk,E.ct,E.rt⟩⟩
noncomputable def Z31:MSt:=λ_ _=>False
theorem Zv9:MS X io st Z31:=⟨_,Zwg,λC H σ δ fp ex D D' R h E=>h.elim⟩
noncomputable def Yac(m:MEt):MSt:=λD δ=>m δ λr δ'=>D.rt r δ'
theorem Z23(he:ME X io p true e m):MS X io (.Return (some e) pos) (Yac m):=by
 obtain⟨_,A,s⟩:=he
 exact⟨_,Zxl A,λC H σ δ fp ex D D' R h E=>s C H σ δ fp ex _ _ R h λH' v r δ' fp' new r1 h1=>E.rt H' σ v r δ' fp' new r1.rel (r1.own.wide λa l _=>l rfl) r1.nd (λa m=>(R.newOk (r1.fresh a m)).2.2) h1⟩
noncomputable def Zvl(i:Nat):MSt:=λD δ=>match δ[i]? with|some (some t)=>D.rt t (δ.set i none)|_=>False
theorem Rel.take{C:MC G}{H:Hp}{σ:St}{δ:Zm}{fp:Fp}{ex:Addr->Prop}{i:Nat}{t:OT}(R:Rel C io H σ δ fp ex)(hi:δ[i]? =some (some t)):Rel C io H σ (δ.set i none) (fpu fp i []) (exu ex (fp i)):=by
 have hil:i<δ.length:=(Xm.mp hi).1
 have get:∀j (t':OT),(δ.set i none)[j]? =some (some t')->j≠i∧δ[j]? =some (some t'):=λj t' e=>by
  by_cases ej:j=i
  ·subst ej;rw[QL hil]at e;cases e
  ·rw[Qq (Vc ej)]at e;exact⟨ej,e⟩
 have sub:∀j a,a∈fpu fp i [] j->j≠i∧a∈fp j:=λj a m=>by
  by_cases ej:j=i
  ·subst ej;rw[Yp]at m;exact nomatch m
  ·rw[Wl ej]at m;exact⟨ej,m⟩
 have lw:∀a,Lf C fp ex a->Lf C (fpu fp i []) (exu ex (fp i)) a:=λa l=>⟨λ⟨j,z⟩=>l.1 ⟨j,(sub j a z).2⟩,λz=>z.elim l.2.1 λz=>l.1 ⟨i,z⟩,l.2.2⟩
 refine⟨by rw[JP];exact R.len,λj t' e=>?_,λj h=>?_,λj=>?_,λj k a h1 h2=>R.dj j k a (sub j a h1).2 (sub k a h2).2,λj a h z=>?_,λa z w=>?_,R.fr,R.al,λj a h=>R.new j a (sub j a h).2,R.io⟩
 ·obtain⟨ej,e⟩:=get j t' e
  obtain⟨w,e1,o⟩:=R.own j t' e
  exact⟨w,e1,by rw[Wl ej];exact o.wide λa l _=>lw a l⟩
 ·by_cases ej:j=i
  ·subst ej;rw[Yp]
  ·rw[Wl ej]
   exact R.emp j λt' z=>h t' (by rw[Qq (Vc ej)];exact z)
 ·by_cases ej:j=i
  ·subst ej;rw[Yp];exact .nil
  ·rw[Wl ej];exact R.nd j
 ·obtain⟨ej,h⟩:=sub j a h
  rcases z with z|z
  ·exact R.dx j a h z
  ·exact ej (R.dj j i a h z)
 ·rcases z with z|z
  ·exact R.xa a z w
  ·exact R.footSome w ⟨i,z⟩
theorem Zg1(i:Nat){x:Str}{px:Pos}(hio:i∉io:=by decide)(hN:X.N[i]? =some x:=by rfl)(hv:Vis X.env.scope x:=by first|exact QQ rfl|exact Qx (QQ rfl)|exact Qx (Qx rfl))(hd:(x==("__debug__" : Str))=false:=by decide)
  (hcd:(x==("__classdict__" : Str))=false:=by decide):MS X io (.Return (some (.Name x px)) pos) (Zvl i):=by
 refine⟨_,Zxl (pv i hN hv hd hcd),λC H σ δ fp ex D D' R h E=>?_⟩
 unfold Zvl at h
 split at h
 case h_2=>exact h.elim
 rename_i t hi
 obtain⟨v,e,o⟩:=R.own i t hi
 have lw:∀a,Lf C fp ex a->H a≠none->Lf C (fpu fp i []) (exu ex (fp i)) a:=λa l _=>⟨λz=>by
  rcases z.of_u with z|⟨j,_,z⟩
  ·exact nomatch z
  ·exact l.1 ⟨j,z⟩,λz=>z.elim l.2.1 λz=>l.1 ⟨i,z⟩,l.2.2⟩
 have hn:∀a∈fp i,C.H₀ a=none:=λa m=>by
  rcases R.new i a m with z|z
  ·exact absurd z.1 hio
  ·exact z
 exact⟨v,e,E.rt H σ v t _ _ (fp i) (R.take hi) (o.wide lw) (R.nd i) hn h⟩
noncomputable def Z9u(t:MTt)(u w:MSt):MSt:=λD δ=>t δ λb δ'=>if b=true then u D δ' else w D δ'
theorem Z8c{cnd:Expr}{ss ss':List Stmt}(hc:MT X io p cnd mt)(ha:MSs X io ss u)(hb:MSs X io ss' w):MS X io (.If cnd ss ss' pos) (Z9u mt u w):=by
 obtain⟨_,T,s⟩:=hc
 obtain⟨_,A,sa⟩:=ha
 obtain⟨_,B,sb⟩:=hb
 exact⟨_,Z9s T A B,λC H σ δ fp ex D D' R h E=>s C H σ δ fp ex _ _ R h λH' b δ' fp' R' S h'=>by
  cases b with
  | true=>
   rw[if_pos rfl]at h'⊢
   exact sa C H' σ δ' fp' ex D D' R' h' (E.shift S.kp)
  | false=>
   rw[if_neg Xu]at h'⊢
   exact sb C H' σ δ' fp' ex D D' R' h' (E.shift S.kp)⟩
theorem Rel.put{C:MC G}{H:Hp}{σ:St}{δ:Zm}{fp:Fp}{ex:Addr->Prop}{i:Nat}{v:V}{r:OT}{new:List Addr}(R:Rel C io H σ δ fp (exu ex new))(hio:i∉io)(o:Own G H (Lf C fp (exu ex new)) v r new)(nd:new.Nodup)
  (hn:∀a∈new,C.H₀ a=none∧¬ex a):∃fp',Rel C io H (σ.set i (some v)) (δ.set i (some r)) fp' ex∧∀a,Foot fp' a->Foot fp a∨a∈new:=by
 by_cases hil:i<δ.length
 case neg=>
  refine⟨fp,?_,λa h=>.inl h⟩
  have hl:=R.len
  rw[List.set_eq_of_length_le (show δ.length≤i by omega),List.set_eq_of_length_le (show σ.length≤i by omega)]
  exact R.drop λa z=>.inl z
 have hsl:i<σ.length:=by rw[R.len];exact hil
 have sub:∀a,Foot (fpu fp i new) a->Foot fp a∨a∈new:=λa z=>by
  rcases z.of_u with z|⟨j,_,z⟩
  ·exact .inr z
  ·exact .inl ⟨j,z⟩
 have lw:∀a,Lf C fp (exu ex new) a->Lf C (fpu fp i new) ex a:=λa l=>⟨λz=>(sub a z).elim l.1 λz=>l.2.1 (.inr z),λz=>l.2.1 (.inl z),l.2.2⟩
 refine⟨fpu fp i new,⟨by rw[JP,JP];exact R.len,λj t' e=>?_,λj h=>?_,λj=>?_,λj k a h1 h2=>?_,λj a h z=>?_,λa z=>R.xa a (.inl z),R.fr,R.al,λj a h=>?_,λj hj=>?_⟩,sub⟩
 ·by_cases ej:j=i
  ·subst ej
   rw[QL hil]at e
   cases e
   exact⟨v,QL hsl,by rw[Yp];exact o.wide λa l _=>lw a l⟩
  ·rw[Qq (Vc ej)]at e
   obtain⟨w,e1,o1⟩:=R.own j t' e
   exact⟨w,by rw[Qq (Vc ej)];exact e1,by rw[Wl ej];exact o1.wide λa l _=>lw a l⟩
 ·by_cases ej:j=i
  ·subst ej;exact absurd (QL hil) (h r)
  ·rw[Wl ej]
   exact R.emp j λt' z=>h t' (by rw[Qq (Vc ej)];exact z)
 ·by_cases ej:j=i
  ·subst ej;rw[Yp];exact nd
  ·rw[Wl ej];exact R.nd j
 ·by_cases ej:j=i
  ·subst ej
   rw[Yp]at h1
   by_cases ek:k=j
   ·exact ek.symm
   ·rw[Wl ek]at h2
    exact absurd (.inr h1) (R.dx k a h2)
  ·rw[Wl ej]at h1
   by_cases ek:k=i
   ·subst ek
    rw[Yp]at h2
    exact absurd (.inr h2) (R.dx j a h1)
   ·rw[Wl ek]at h2
    exact R.dj j k a h1 h2
 ·by_cases ej:j=i
  ·subst ej
   rw[Yp]at h
   exact(hn a h).2 z
  ·rw[Wl ej]at h
   exact R.dx j a h (.inl z)
 ·by_cases ej:j=i
  ·subst ej
   rw[Yp]at h
   exact .inr (hn a h).1
  ·rw[Wl ej]at h
   exact R.new j a h
 ·have ej:j≠i:=λz=>hio (z▸hj)
  rw[Qq (Vc ej)]
  exact R.io j hj
theorem RE.put{C:MC G}{H H':Hp}{σ:St}{δ δ':Zm}{fp fp':Fp}{ex:Addr->Prop}{i:Nat}{v:V}{r:OT}{new:List Addr}(R:RE C io p true H σ δ fp ex H' v r δ' fp' new)(R0:Rel C io H σ δ fp ex)(hio:i∉io) :
  ∃fp2,Rel C io H' (σ.set i (some v)) (δ'.set i (some r)) fp2 ex∧Kp H fp H' fp2:=by
 obtain⟨fp2,R2,g⟩:=R.rel.put hio (R.own.wide λa l _=>l rfl) R.nd λa m=>⟨(R0.newOk (R.fresh a m)).2.2,(R0.newOk (R.fresh a m)).2.1⟩
 refine⟨fp2,R2,λb o e q=>R.stp.keep b o e (.inr (q.resolve_left (by decide))),λz=>(nomatch z),λa z=>?_,R.stp.al⟩
 rcases g a z with z|z
 ·exact R.stp.grow a z
 ·exact .inr (R.fresh a z)
theorem RE.fzc{C:MC G}{H H':Hp}{σ:St}{δ δ':Zm}{fp fp':Fp}{ex:Addr->Prop}{v:V}{r:OT}{new:List Addr}(R:RE C io p c H σ δ fp ex H' v r δ' fp' new)(R0:Rel C io H σ δ fp ex) :
  RE C io p c H σ δ fp ex H' v (.fz r.data) δ' fp' []:=.fz R.base R.stp (R.da R0)
theorem RE.fzs{C:MC G}{H H':Hp}{σ:St}{δ δ':Zm}{fp fp':Fp}{ex:Addr->Prop}{v:V}{r:OT}{new:List Addr}(R:RE C io p c H σ δ fp ex H' v r δ' fp' new)(R0:Rel C io H σ δ fp ex)(h:Zca r.data=true) :
  RE C io p true H σ δ fp ex H' v (.fz r.data) δ' fp' []:=.fz R.base R.stp ((R.da R0).flat h)
noncomputable def Z1o(i:Nat)(m:MEt):MSt:=λD δ=>m δ λr δ'=>D.nx (δ'.set i (some (.fz r.data)))
noncomputable def Zql(i:Nat)(m:MEt):MSt:=λD δ=>m δ λr δ'=>D.nx (δ'.set i (some r))
section
variable {i:Nat}{x:Str}{px:Pos}
theorem Ybo{t:TE}(s:SE G io p true t m)(hio:i∉io):SS G io (Z3w t (Zrf i)) (Z1o i m):=λC H σ δ fp ex D D' R h E=>s C H σ δ fp ex _ _ R h λH' v r δ' fp' new r1 h1=>by
 obtain⟨fp2,R2,k2⟩:=(r1.fzc R).put R hio
 exact E.nx H' _ _ fp2 R2 k2 h1
theorem Z51{t:TE}(s:SE G io p true t m)(hio:i∉io):SS G io (Z3w t (Zrf i)) (Zql i m):=λC H σ δ fp ex D D' R h E=>s C H σ δ fp ex _ _ R h λH' v r δ' fp' new r1 h1=>by
 obtain⟨fp2,R2,k2⟩:=r1.put R hio
 exact E.nx H' _ _ fp2 R2 k2 h1
theorem Zji(hN:X.N.Nodup)(hi:X.N[i]? =some x)(hx:Loc X.env.scope x)(he:ME X io p true e m)(hio:i∉io:=by decide)(hs:Uc e (some (.Name x px)) pos.line X.env=pure false:=by rfl)(hf:X.fn x=true∨X.env.scope.names.lookup x=some .local:=by first|exact .inl rfl|exact .inr rfl|assumption) :
  MS X io (.Assign [.Name x px] e pos) (Z1o i m):=by
 obtain⟨_,A,s⟩:=he
 exact⟨_,Zww hN hi hx A hs hf,Ybo s hio⟩
theorem Zqx(hN:X.N.Nodup)(hi:X.N[i]? =some x)(hx:Loc X.env.scope x)(he:ME X io p true e m)(hio:i∉io:=by decide)(hs:Uc e (some (.Name x px)) pos.line X.env=pure false:=by rfl)(hf:X.fn x=true∨X.env.scope.names.lookup x=some .local:=by first|exact .inl rfl|exact .inr rfl|assumption) :
  MS X io (.Assign [.Name x px] e pos) (Zql i m):=by
 obtain⟨_,A,s⟩:=he
 exact⟨_,Zww hN hi hx A hs hf,Z51 s hio⟩
end
noncomputable def Zw3(t:MTt)(u:MSt):MSt:=λD δ=>∃W:Nat->Zm->Prop,(∃n,W n δ)∧∀n δ,W n δ->t δ λb δ'=>if b=true then∃N:Zm->Prop,(∀δ',N δ'->∃n',n'<n∧W n' δ')∧u { D with nx:=N,ct:=N,bk:=D.nx } δ' else D.nx δ'
theorem Zos{cnd:Expr}{ss:List Stmt}(hp:PassesOwn (X7 X.prog X.w) X.A X.env X.xe)(hc:MT X io p cnd mt)(ha:MSs X io ss u):MS X io (.While cnd ss [] pos) (Zw3 mt u):=by
 obtain⟨_,T,s⟩:=hc
 obtain⟨_,A,sa⟩:=ha
 refine⟨_,Zvx hp T A,λC H σ δ fp ex D D' R h E=>?_⟩
 obtain⟨W,⟨n0,w0⟩,turn⟩:=h
 refine⟨λn σ' H'=>∃δ' fp',Rel C io H' σ' δ' fp' ex∧Kp H fp H' fp'∧W n δ',⟨n0,δ,fp,R,.refl _ _,w0⟩,?_⟩
 rintro n σ1 H1 ⟨δ1,fp1,R1,k1,w1⟩
 refine s C H1 σ1 δ1 fp1 ex _ _ R1 (turn n δ1 w1) λH2 b δ2 fp2 R2 S2 h2=>?_
 have k2:=k1.trans S2.kp
 cases b with
 | true=>
  rw[if_pos rfl]at h2⊢
  obtain⟨N,hN,h2⟩:=h2
  refine⟨λσ' H'=>∃δ' fp',Rel C io H' σ' δ' fp' ex∧Kp H fp H' fp'∧N δ',λσ' H' ⟨δ',fp',R',k',n'⟩=>?_,?_⟩
  ·obtain⟨n1,hn1,w1⟩:=hN δ' n'
   exact⟨n1,hn1,δ',fp',R',k',w1⟩
  ·refine sa C H2 σ1 δ2 fp2 ex _ _ R2 h2 ⟨λH' σ' δ' fp' R' k' n'=>⟨δ',fp',R',k2.trans k',n'⟩,λH' σ' δ' fp' R' k' n'=>E.nx H' σ' δ' fp' R' (k2.trans k') n',λH' σ' δ' fp' R' k' n'=>⟨δ',fp',R',k2.trans k',n'⟩,E.rt⟩
 | false=>
  rw[if_neg Xu]at h2⊢
  exact E.nx H2 σ1 δ2 fp2 R2 k2 h2
end
variable {G:Xb}
noncomputable def Ztc(N:List Str)(ds:List Xa):Zm:=ds.map (λd=>some (.fz d)) ++ X4 (N.length-ds.length) none
section
variable {H:Hp}{L:Addr->Prop}{vs:List V}{ds:List Xa}{N:List Str}
theorem Zsz{i:Nat}{t:OT}{n:Nat}(h:(ds.map (λd=>some (.fz d)) ++ X4 n none:Zm)[i]? =some (some t)):∃d,ds[i]? =some d∧t= .fz d:=by
 rw[List.getElem?_append]at h
 split at h
 ·rw[Xl]at h
  cases e:ds[i]? with
  | none=>rw[e]at h;cases h
  | some d=>rw[e]at h;cases h;exact⟨d,rfl,rfl⟩
 ·rw[List.getElem?_replicate]at h
  split at h
  ·cases h
  ·cases h
theorem Rel.entry(h:Das G H L vs ds):Rel (G:=G) ⟨H,λ_=>False,L,start N vs⟩ [] H (start N vs) (Ztc N ds) (λ_=>[]) (λ_=>False):=by
 refine⟨?_,λi t e=>?_,λ_ _=>rfl,λ_=>.nil,λi j a m=>(nomatch m),λi a m=>(nomatch m),λa z=>z.elim,λb o e _=>e,λb e=>e,λi a m=>(nomatch m),λi m=>nomatch m⟩
 ·unfold start Ztc
  simp[h.length]
 ·obtain⟨d,e',rfl⟩:=Zsz e
  obtain⟨x,e1,q⟩:=h.get e'
  refine⟨x,?_,.fz (q.wide λa l _=>⟨λ⟨j,z⟩=>(nomatch z),λz=>z,.inl l⟩)⟩
  unfold L2.start
  rw[UV (by rw[Xf];exact(Xm.mp e1).1),Xl,e1]
  rfl
variable {P:XM}{w:Qo}{K:Xb}{mg:Str->Option Xc}{base:Heap}
noncomputable def Zzp(k:OT->Prop):Zic:={ nx:=λ_=>k (.fz .none),rt:=λr _=>k r }
theorem Fun.okD{x qual:Str}{st:Stmt}{f:Addr}{fd:Xv}{N ps:List Str}{n:Nat}{S:List Xa->(OT->Prop)->Prop}(F:Fun K x qual st f fd)(Sc:Zw N ps (Zo st))(len:∀ds k,S ds k->ds.length=ps.length)
  (hbody:∀(cdv:Xc) (A:Ql) (outer:List Env) (s:Xd) (H:Hp) (E:XK),Room n (A.deeper (envOfC qual (Zo st) s.heap.objs.size f cdv)) ->
   ∃m,MSs (Zxr CX0 P w K mg base N qual (Zo st) f cdv A outer s H E).nox [] (Zcd st) m∧∀ds k,S ds k->m (Zzp k) (Ztc N ds)):FnOk P w K mg base CX0 (n+1) f fd ps (spD K S):=by
 refine F.ok Sc (λvs H Q E h=>?_) (λcdv A outer s H vs Q E hr h=>?_)
 ·obtain⟨L,ds,k,h1,h2,_⟩:=h
  rw[h1.length]
  exact len ds k h2
 ·obtain⟨L,ds,k,h1,h2,h3⟩:=h
  obtain⟨m,⟨t,A1,s1⟩,q⟩:=hbody cdv A outer s H E hr
  refine⟨t,A1,s1 ⟨H,λ_=>False,L,start N vs⟩ H _ _ _ _ (Zzp k) _ (Rel.entry h1) (q ds k h2) ⟨λH' σ' δ' fp' R _ hk=>?_,λ_ _ _ _ _ _ z=>z.elim,λ_ _ _ _ _ _ z=>z.elim,λH' σ' v r δ' fp' new R o nd hn hk=>?_⟩⟩
  ·exact h3 _ .non H' [] hk (λb o e=>R.fr b o e id) (.fz .non) .nil λa m=>nomatch m
  ·refine h3 r v H' new hk (λb o e=>R.fr b o e id) (o.wide λa l _=>⟨?_,λz=>l.2.1 (.inr z)⟩) nd hn
   exact l.2.2
end
noncomputable abbrev MGt:=Xa->Zm->(Zm->Prop)->Prop
noncomputable abbrev Ztv:=List Xa->Zm->(Zm->Prop)->Prop
noncomputable def SG(G:Xb)(io:List Nat)(c:Bool)(t:TG)(g:MGt):Prop:=∀(C:MC G) (H:Hp) (σ:St) (δ:Zm) (fp:Fp) (ex:Addr->Prop) (v:V) (d:Xa) (k:Zm->Prop) (Q:St->Hp->Prop),Rel C io H σ δ fp ex->Da G H (λa=>c=true->Lf C fp ex a) v d->g d δ k ->
 (∀ σ' δ' fp',Rel C io H σ' δ' fp' ex->Kp H fp H fp'->k δ'->Q σ' H)->t v σ H Q
noncomputable def SGs(G:Xb)(io:List Nat)(c:Bool)(t:TGs)(g:Ztv):Prop:=∀(C:MC G) (H:Hp) (σ:St) (δ:Zm) (fp:Fp) (ex:Addr->Prop) (v:List V) (d:List Xa) (k:Zm->Prop) (Q:St->Hp->Prop),Rel C io H σ δ fp ex->Das G H (λa=>c=true->Lf C fp ex a) v d->g d δ k ->
 (∀ σ' δ' fp',Rel C io H σ' δ' fp' ex->Kp H fp H fp'->k δ'->Q σ' H)->t v σ H Q
noncomputable def MG(X:Cx)(io:List Nat)(c:Bool)(tg:Expr)(g:MGt):Prop:=∃t,PG X tg t∧SG X.K io c t g
noncomputable def MGs(X:Cx)(io:List Nat)(c:Bool)(tg:List Expr)(g:Ztv):Prop:=∃t,PGs X tg t∧SGs X.K io c t g
section
variable {X:Cx}{io:List Nat}{c:Bool}{pos:Pos}{i:Nat}{x:Str}
noncomputable def dName(i:Nat):MGt:=λd δ k=>k (δ.set i (some (.fz d)))
theorem Rel.putD{C:MC G}{H:Hp}{σ:St}{δ:Zm}{fp:Fp}{ex:Addr->Prop}{v:V}{d:Xa}(R:Rel C io H σ δ fp ex)(hio:i∉io)(q:Da G H (Lf C fp ex) v d) :
  ∃fp',Rel C io H (σ.set i (some v)) (δ.set i (some (.fz d))) fp' ex∧Kp H fp H fp':=by
 obtain⟨fp',R',g⟩:=(R.drop λa z=>Zdz.mp z).put (new:=[]) hio (.fz (q.wide λa l _=>⟨l.1,λz=>l.2.1 (Zdz.mp z),l.2.2⟩)) .nil (λa m=>nomatch m)
 exact⟨fp',R',λb o e _=>e,λz=>(nomatch z),λa z=>(g a z).imp id λz=>(nomatch z),λb e=>e⟩
theorem Zzn(hN:X.N.Nodup)(hi:X.N[i]? =some x:=by rfl)(hx:Loc X.env.scope x:=by first|exact QQ rfl|exact Qx rfl)(hio:i∉io:=by decide)(hf:X.fn x=true∨X.env.scope.names.lookup x=some .local:=by first|exact .inl rfl|exact .inr rfl|assumption):MG X io true (.Name x pos) (dName i) :=
 ⟨_,Zyj hN hi hx hf,λC H σ δ fp ex v d k Q R q h kk=>by
  obtain⟨fp',R',k'⟩:=R.putD hio (q.wide λa l _=>l rfl)
  exact kk _ _ fp' R' k' h⟩
noncomputable def Yah:Ztv:=λds δ k=>ds=[]∧k δ
noncomputable def Z29(g:MGt)(gs:Ztv):Ztv:=λds δ k=>match ds with|d :: r=>g d δ λδ'=>gs r δ' k|[]=>False
theorem Z01:MGs X io c [] Yah:=⟨_,Zy8,λC H σ δ fp ex v d k Q R q h kk=>by
 obtain⟨rfl,h⟩:=h
 cases q
 exact⟨rfl,kk σ δ fp R (.refl _ _) h⟩⟩
theorem Rel.kp_das{C:MC G}{H H':Hp}{σ:St}{δ:Zm}{fp fp':Fp}{ex:Addr->Prop}{vs:List V}{ds:List Xa}(R:Rel C io H σ δ fp ex)(S:Kp H fp H' fp')(h:Das G H (Lf C fp ex) vs ds):Das G H' (Lf C fp' ex) vs ds:=by
 have S':Stp false H δ fp H' δ fp':=⟨S.keep,λz=>(nomatch z),S.grow,S.al⟩
 obtain⟨f1,f2⟩:=R.frameL (c:=true) (ex':=ex) S' (.inr rfl) λa z=>.inl z
 exact h.frame (λa xs l q=>⟨(f1 a xs (λ_=>l) q).1 rfl,(f1 a xs (λ_=>l) q).2⟩) f2
theorem Zo2{e:Expr}{es:List Expr}{g:MGt}{gs:Ztv}(h1:MG X io true e g)(h2:MGs X io true es gs)
  (hs:(JC (e :: es) X.env).map (·.2)=Ud e X.env :: (JC es X.env).map (·.2):=by rfl):MGs X io true (e :: es) (Z29 g gs):=by
 obtain⟨_,A,s⟩:=h1
 obtain⟨_,B,s'⟩:=h2
 exact⟨_,Zuv A B hs,λC H σ δ fp ex v d k Q R q h kk=>by
  cases q with
  | nil=>exact h.elim
  | cons q qs=>
   refine⟨_,_,rfl,s C H σ δ fp ex _ _ _ _ R q h λσ1 δ1 fp1 R1 k1 h1=>?_⟩
   exact s' C H σ1 δ1 fp1 ex _ _ _ _ R1 ((R.kp_das k1 (qs.wide λa l _=>l rfl)).wide λa l _ _=>l) h1 λσ2 δ2 fp2 R2 k2 h2=>kk σ2 δ2 fp2 R2 (k1.trans k2) h2⟩
noncomputable def dTup(n:Nat)(gs:Ztv):MGt:=λd δ k=>match d with| .tuple ds=>ds.length=n∧gs ds δ k|_=>False
theorem Z5i{es:List Expr}{k:Nat}{gs:Ztv}{n:Nat}(hc:X.calm=true)(h:MGs X io c es gs)
  (hn:(JC es X.env).length=n:=by rfl) (hst:(JC es X.env).findIdx? (·.1)=none:=by rfl):MG X io c (.Tuple es k pos) (dTup n gs):=by
 obtain⟨_,A,s⟩:=h
 exact⟨_,Z3v hc A hn hst,λC H σ δ fp ex v d k Q R q h kk=>by
  cases q with
  | tup e qs=>exact⟨_,_,rfl,.inl (.inl e),by rw[qs.length];exact h.1,s C H σ δ fp ex _ _ _ _ R qs h.2 kk⟩
  | _=>exact h.elim⟩
end
variable {G:Xb}
noncomputable def IterOk(C:MC G)(fp:Fp)(ex:Addr->Prop)(H1:Hp)(c:Bool)(J:It)(ds:List Xa):Prop:=∀H':Hp,(∀b o,H1 b=some o->(c=false∨¬Foot fp b)->H' b=some o)->∀i:Nat,
 (∀ d,ds[i]? =some d->J.go i H'∧∀x H'',J.yld i H' x H''->Same H' H''∧Da G H'' (λa=>c=true->(Lf C fp ex a∧H1 a≠none)) x d)∧(ds[i]? =none->J.stop i H')
noncomputable abbrev MIt:=Zm->(List Xa->Zm->Prop)->Prop
noncomputable def SI(G:Xb)(io:List Nat)(p c:Bool)(t:TI)(m:MIt):Prop:=∀(C:MC G) (H:Hp) (σ:St) (δ:Zm) (fp:Fp) (ex:Addr->Prop) (K:List Xa->Zm->Prop) (Q:It->Hp->Prop),Rel C io H σ δ fp ex->m δ K ->
 (∀ J H1 ds δ1 fp1,Rel C io H1 σ δ1 fp1 ex->Stp p H δ fp H1 δ1 fp1->IterOk C fp1 ex H1 c J ds->K ds δ1->Q J H1)->t σ H Q
noncomputable def MI(X:Cx)(io:List Nat)(p c:Bool)(tg iter:Expr)(m:MIt):Prop:=∃t,PI X tg iter t∧SI X.K io p c t m
section
variable {X:Cx}{io:List Nat}{p c:Bool}{e a b tg:Expr}{m:MEt}{mr:MAt}{K:Xb}
noncomputable def iL(m:MEt):MIt:=λδ K=>m δ λr δ'=>match r.data with| .list ds=>K ds δ'|_=>False
noncomputable def iT(m:MEt):MIt:=λδ K=>m δ λr δ'=>match r.data with| .tuple ds=>K ds δ'|_=>False
theorem Rel.kept{C:MC G}{H H':Hp}{σ:St}{δ:Zm}{fp:Fp}{ex:Addr->Prop}(R:Rel C io H σ δ fp ex)(kp:∀b o,H b=some o->(c=false∨¬Foot fp b)->H' b=some o) :
  (∀ a (xs:MuO),(c=true->Lf C fp ex a)->Rd H a xs.ho->(c=true->(Lf C fp ex a∧H a≠none))∧Rd H' a xs.ho)∧(∀a (xs:ImO),H a=some xs.ho->H' a=some xs.ho):=by
 refine⟨λa xs l q=>⟨λhc=>⟨l hc,q.some⟩,?_⟩,λa xs q=>kp a _ q (.inr λz=>?_)⟩
 ·have hk:c=false∨¬Foot fp a:=by
   cases c with
   | false=>exact .inl rfl
   | true=>exact .inr (l rfl).1
  rcases q with q|⟨o,q⟩
  ·exact .inl (kp a _ q hk)
  ·exact .inr ⟨o,kp a _ q hk⟩
 ·obtain⟨ys,e⟩:=R.foot z
  exact ImO.nm q e
theorem Zz6(h:ME X io p c e m):MI X io p c tg e (iL m):=by
 obtain⟨_,A,s⟩:=h
 exact⟨_,Zvy rfl A,λC H σ δ fp ex K' Q R h kk=>s C H σ δ fp ex _ _ R h λH1 v r δ1 fp1 new r1 h1=>by
  have q:=r1.da R
  generalize r.data=d at q h1
  cases q with
  | lst l e qs=>
   refine⟨_,rfl,⟨_,.inl e⟩,kk _ H1 _ δ1 fp1 r1.base r1.stp (λH' kp i=>?_) h1⟩
   obtain⟨f1,f2⟩:=r1.base.kept kp
   have e':=(f1 _ (.lst _) l e).2
   have qs':=qs.frame f1 f2
   refine⟨λd hd=>?_,λhd=>?_⟩
   ·obtain⟨x,hx,qx⟩:=qs'.get hd
    refine⟨⟨_,x,.inl e',hx⟩,λy H'' hy=>?_⟩
    obtain⟨rfl,hy⟩:=hy
    have:=hy _ (.inl e')
    rw[hx]at this
    cases this
    exact⟨Same.refl _,qx⟩
   ·exact⟨_,.inl e',by rw[qs'.length];exact Qt.mp hd⟩
  | scr ks=>
   refine⟨_,rfl,⟨_,ks.sq⟩,kk _ H1 _ δ1 fp1 r1.base r1.stp (λH' kp i=>?_) h1⟩
   refine⟨λd hd=>?_,λhd=>?_⟩
   ·obtain⟨x,hx,qx⟩:=(Das.ints (G:=X.K) (H:=H') (L:=λa=>c=true->(Lf C fp1 ex a∧H1 a≠none)) _).get hd
    refine⟨⟨_,x,ks.sq,hx⟩,λy H'' hy=>?_⟩
    obtain⟨rfl,hy⟩:=hy
    have:=hy _ ks.sq
    rw[hx]at this
    cases this
    exact⟨Same.refl _,qx⟩
   ·refine⟨_,ks.sq,?_⟩
    have:=Qt.mp hd
    simpa using this
  | _=>exact h1.elim⟩
theorem Z3r(h:ME X io p c e m):MI X io p c tg e (iT m):=by
 obtain⟨_,A,s⟩:=h
 exact⟨_,Zy4 rfl A,λC H σ δ fp ex K' Q R h kk=>s C H σ δ fp ex _ _ R h λH1 v r δ1 fp1 new r1 h1=>by
  have q:=r1.da R
  generalize r.data=d at q h1
  cases q with
  | tup e qs=>
   refine⟨_,rfl,⟨_,.inl (.inl e)⟩,kk _ H1 _ δ1 fp1 r1.base r1.stp (λH' kp i=>?_) h1⟩
   obtain⟨f1,f2⟩:=r1.base.kept kp
   have e':=f2 _ (.tup _) e
   have qs':=qs.frame f1 f2
   refine⟨λd hd=>?_,λhd=>?_⟩
   ·obtain⟨x,hx,qx⟩:=qs'.get hd
    refine⟨⟨_,x,.inl (.inl e'),hx⟩,λy H'' hy=>?_⟩
    obtain⟨rfl,hy⟩:=hy
    have:=hy _ (.inl (.inl e'))
    rw[hx]at this
    cases this
    exact⟨Same.refl _,qx⟩
   ·exact⟨_,.inl (.inl e'),by rw[qs'.length];exact Qt.mp hd⟩
  | _=>exact h1.elim⟩
noncomputable def Zgg(lo:Int)(n:Nat):List Xa:=(Xn n).map λ(i:Nat)=>Xk (lo+(i:Int))
@[simp] theorem Yz(lo:Int)(n:Nat):(Zgg lo n).length=n:=by simp[Zgg]
theorem W3{lo:Int}{n i:Nat}{d:Xa}(h:(Zgg lo n)[i]? =some d):i<n∧d= .int (lo+i):=by
 have hi:i<n:=by
  have:=(Xm.mp h).1
  simpa using this
 unfold Zgg at h
 rw[Xl,Qp hi]at h
 cases h
 exact⟨hi,rfl⟩
theorem Zpk{C:MC G}{fp:Fp}{ex:Addr->Prop}{H1:Hp}{lo:Int}{n:Nat}:IterOk C fp ex H1 true (Itr lo n) (Zgg lo n):=λH' _ i=>by
 refine⟨λd hd=>?_,λhd=>?_⟩
 ·obtain⟨hi,rfl⟩:=W3 hd
  refine⟨hi,λx H'' hy=>?_⟩
  obtain⟨rfl,rfl⟩:=hy
  exact⟨Same.refl _,.int _⟩
 ·have:=Qt.mp hd
  show n≤i
  simpa using this
noncomputable def iR1(mr:MAt):MIt:=λδ K=>mr δ λrs δ'=>match OT.datas rs with|[.int j]=>(-(2^62)≤j∧j<2^62)∧K (Zgg 0 j.toNat) δ'|_=>False
noncomputable def iR2(mr:MAt):MIt:=λδ K=>mr δ λrs δ'=>match OT.datas rs with|[.int i,.int j]=>(-(2^62)≤i∧i<2^62∧-(2^62)≤j∧j<2^62)∧K (Zgg i (j-i).toNat) δ'|_=>False
theorem Yc{p' pos:Pos}(hg:Gl X "range")(hm:X.mg "range"=none)(ha:MA X io p c [a] mr)(hs:Xr [a] X.env=[(false,eval a X.env)]:=by rfl):MI X io p true tg (.Call (.Name "range" p') [a] [] pos) (iR1 mr):=by
 obtain⟨_,A,s⟩:=ha
 exact⟨_,Zs8 hg hm A hs,λC H σ δ fp ex K' Q R h kk=>s C H σ δ fp ex _ _ R h λH1 vs rs δ1 fp1 new r1 h1=>by
  have q:=r1.das R
  generalize OT.datas rs=d at q h1
  split at h1
  case h_2=>exact h1.elim
  cases q with
  | cons q1 q2=>
   cases q1
   cases q2
   exact⟨_,rfl,h1.1.1,h1.1.2,kk _ H1 _ δ1 fp1 r1.base r1.stp Zpk h1.2⟩⟩
theorem Zed{p' pos:Pos}(hg:Gl X "range")(hm:X.mg "range"=none)(ha:MA X io p c [a,b] mr)(hs:Xr [a,b] X.env=[(false,eval a X.env),(false,eval b X.env)]:=by rfl)(hs2:Xr [b] X.env=[(false,eval b X.env)]:=by rfl):MI X io p true tg (.Call (.Name "range" p') [a,b] [] pos) (iR2 mr):=by
 obtain⟨_,A,s⟩:=ha
 exact⟨_,Zsh hg hm A hs hs2,λC H σ δ fp ex K' Q R h kk=>s C H σ δ fp ex _ _ R h λH1 vs rs δ1 fp1 new r1 h1=>by
  have q:=r1.das R
  generalize OT.datas rs=d at q h1
  split at h1
  case h_2=>exact h1.elim
  cases q with
  | cons q1 q2=>
   cases q1
   cases q2 with
   | cons q2 q3=>
    cases q2
    cases q3
    exact⟨_,_,rfl,h1.1,kk _ H1 _ δ1 fp1 r1.base r1.stp Zpk h1.2⟩⟩
theorem IterOk.at{C:MC G}{fp fp':Fp}{ex:Addr->Prop}{H1 H' H'':Hp}{J:It}{ds:List Xa}{x:V}{d:Xa}(g:∀a,Foot fp' a->Foot fp a∨H1 a=none)(h:Da G H'' (λa=>true=true->(Lf C fp ex a∧H1 a≠none)) x d):Da G H'' (λa=>true=true->Lf C fp' ex a) x d :=
 h.wide λa l _ z=>⟨λw=>(g a w).elim (l z).1.1 (l z).2,(l z).1.2.1,(l z).1.2.2⟩
noncomputable def Z8f(ds:List Xa)(g:MGt)(u:MSt)(D:Zic)(δ1:Zm):Prop:=∃I:Nat->Zm->Prop,I 0 δ1∧(∀(i:Nat) (d:Xa) (δ':Zm),ds[i]? =some d->I i δ'->g d δ' λδ2=>u { D with nx:=I (i+1),ct:=I (i+1),bk:=D.nx } δ2)∧∀δ',I ds.length δ'->D.nx δ'
noncomputable def Yay(mi:MIt)(g:MGt)(u:MSt):MSt:=λD δ=>mi δ λds δ1=>Z8f ds g u D δ1
theorem Rel.mk0{C:MC G}{H H':Hp}{σ:St}{δ:Zm}{fp:Fp}{ex:Addr->Prop}(R:Rel C io H σ δ fp ex)(s:Same H H'):Rel C io H' σ δ fp ex:=(R.made (new:=[]) s λa m=>nomatch m).drop λa z=>.inl z
theorem Z20{iter:Expr}{body:List Stmt}{mi:MIt}{g:MGt}{u:MSt}{pos:Pos}(hp:PassesOwn (X7 X.prog X.w) X.A X.env X.xe)(hc:X.calm=true)(hi:MI X io p true tg iter mi)(hg:MG X io true tg g)(hb:MSs X io body u)
  (hs:∀x,Bh iter X.env x=pure x:=by intro _;rfl):MS X io (.For tg iter body [] pos) (Yay mi g u):=by
 obtain⟨_,A,s⟩:=hi
 obtain⟨_,G,sg⟩:=hg
 obtain⟨_,B,sb⟩:=hb
 refine⟨_,Z2d hp hc A G B hs,λC H σ δ fp ex D D' R h E=>s C H σ δ fp ex _ _ R h λJ H1 ds δ1 fp1 R1 S1 it h1=>?_⟩
 obtain⟨I,h0,turn,fin⟩:=h1
 refine⟨λi n σ' H'=>n=ds.length-i∧i≤ds.length∧∃δ' fp',Rel C io H' σ' δ' fp' ex∧Kp H1 fp1 H' fp'∧I i δ',⟨ds.length,rfl,Q6 _,δ1,fp1,R1,.refl _ _,h0⟩,?_⟩
 rintro i n σ2 H2 ⟨rfl,hle,δ2,fp2,R2,k2,i2⟩
 have itk:=it H2 (λb o e q=>k2.keep b o e (.inr (q.resolve_left (by decide)))) i
 by_cases hlt:i<ds.length
 ·have hd:ds[i]? =some ds[i]:=Xg hlt
  obtain⟨go,yl⟩:=itk.1 _ hd
  refine .inr ⟨go,λσ' H'=>∃δ' fp',Rel C io H' σ' δ' fp' ex∧Kp H1 fp1 H' fp'∧I (i+1) δ',λσ' H' ⟨δ',fp',R',k',i'⟩=>⟨ds.length-(i+1),by omega,rfl,hlt,δ',fp',R',k',i'⟩,λx H3 hy=>?_⟩
  obtain⟨s3,q3⟩:=yl x H3 hy
  have R3:=R2.mk0 s3
  have k3:Kp H1 fp1 H3 fp2:=k2.trans ⟨λb o e _=>s3 _ _ e,λz=>(nomatch z),λa z=>.inl z,s3.al⟩
  refine sg C H3 σ2 δ2 fp2 ex x _ _ _ R3 (IterOk.at (H':=H2) (J:=J) (ds:=ds) k2.grow q3) (turn i _ δ2 hd i2) λσ4 δ4 fp4 R4 k4 h4=>?_
  have k5:=k3.trans k4
  refine sb C H3 σ4 δ4 fp4 ex _ _ R4 h4 ⟨λH' σ' δ' fp' R' k' n'=>⟨δ',fp',R',k5.trans k',n'⟩,λH' σ' δ' fp' R' k' n'=>E.nx H' σ' δ' fp' R' (S1.kp.trans (k5.trans k')) n',λH' σ' δ' fp' R' k' n'=>⟨δ',fp',R',k5.trans k',n'⟩,E.rt⟩
 ·have e:i=ds.length:=by omega
  subst e
  exact .inl ⟨itk.2 (by simp),E.nx H2 σ2 δ2 fp2 R2 (S1.kp.trans k2) (fin δ2 i2)⟩
end
noncomputable def gM(G:Xb)(io:List Nat)(c:Bool)(g:MGt):TG:=λv σ H Q=>∃(C:MC G) (δ:Zm) (fp:Fp) (ex:Addr->Prop) (d:Xa) (k:Zm->Prop),Rel C io H σ δ fp ex∧Da G H (λa=>c=true->Lf C fp ex a) v d∧g d δ k∧
 ∀σ' δ' fp',Rel C io H σ' δ' fp' ex->Kp H fp H fp'->k δ'->Q σ' H
noncomputable def tM(G:Xb)(io:List Nat)(p c:Bool)(m:MEt):TE:=λσ H Q=>∃(C:MC G) (δ:Zm) (fp:Fp) (ex:Addr->Prop) (K:OT->Zm->Prop),Rel C io H σ δ fp ex∧m δ K∧∀H' v r δ' fp' new,RE C io p c H σ δ fp ex H' v r δ' fp' new->K r δ'->Q v H'
noncomputable def ttM(G:Xb)(io:List Nat)(p:Bool)(m:MTt):TT:=λσ H Q=>∃(C:MC G) (δ:Zm) (fp:Fp) (ex:Addr->Prop) (K:Bool->Zm->Prop),Rel C io H σ δ fp ex∧m δ K∧∀H' b δ' fp',Rel C io H' σ δ' fp' ex->Stp p H δ fp H' δ' fp'->K b δ'->Q b H'
noncomputable def MIfs(X:Cx)(io:List Nat)(p:Bool)(ifs:List Expr)(m:MTt):Prop:=∃t,Zzg X ifs t∧STt X.K io p t m
section
variable {X:Cx}{io:List Nat}{p c:Bool}{e tg:Expr}{m:MEt}{mt:MTt}{g:MGt}{ifs:List Expr}
theorem MG.canon(h:MG X io c tg g):PG X tg (gM X.K io c g):=by
 obtain⟨t,A,s⟩:=h
 rintro pins sh σ H v u Q I r ⟨C,δ,fp,ex,d,k,R,q,h,kk⟩
 exact A pins sh σ H v u Q I r (s C H σ δ fp ex v d k Q R q h kk)
theorem ME.canon(h:ME X io p c e m):PE X e (tM X.K io p c m):=by
 obtain⟨t,A,s⟩:=h
 rintro pins sh σ H Q I ⟨C,δ,fp,ex,K,R,h,kk⟩
 exact A pins sh σ H Q I (s C H σ δ fp ex K Q R h kk)
theorem MIfs.canon(h:MIfs X io p ifs mt):Zzg X ifs (ttM X.K io p mt):=by
 obtain⟨t,A,s⟩:=h
 rintro pins sh σ H Q I ⟨C,δ,fp,ex,K,R,h,kk⟩
 exact A pins sh σ H Q I (s C H σ δ fp ex K Q R h kk)
noncomputable def Z3l:MTt:=λδ K=>K true δ
theorem Yi:MIfs X io true [] Z3l:=⟨_,Zym,λC H σ δ fp ex K Q R h kk=>kk H true δ fp R (.refl _ _ _ _) h⟩
theorem Ze2{cnd:Expr}(h:MT X io p cnd mt):MIfs X io p [cnd] mt:=by
 obtain⟨_,A,s⟩:=h
 exact⟨_,Zzs A,s⟩
end
variable {G:Xb}
noncomputable def blk(n:Nat)(caps:List Nat)(δ:Zm):Zm:=X4 n none ++ caps.map λi=>(δ[i]?).getD none
noncomputable def Jz(n:Nat)(caps:List Nat)(fp:Fp):Fp:=λk=>if k<n then[]else match caps[k-n]? with|some i=>fp i|none=>[]
noncomputable def Zb0(n:Nat)(caps:List Nat):List Nat:=(Xn caps.length).map (·+n)
noncomputable def Zwl(C:MC G)(H1:Hp)(fp:Fp)(σ0:St):MC G:=⟨H1,Foot fp,λa=>(C.L a∨C.H₀ a=none)∧¬Foot fp a,σ0⟩
noncomputable def Zht(ex:Addr->Prop)(D:Addr)(fp fpb:Fp)(a:Addr):Prop:=ex a∨a=D∨(Foot fp a∧¬Foot fpb a)
section
variable {C:MC G}{io:List Nat}{H1 H':Hp}{σ:St}{δ:Zm}{fp:Fp}{ex:Addr->Prop}{own:List Str}{caps:List Nat}{D:Addr}{n:Nat}
theorem Zej{k:Nat}{a:Addr}(h:a∈Jz n caps fp k):∃i,n≤k∧caps[k-n]? =some i∧a∈fp i:=by
 unfold Jz at h
 split at h
 ·exact nomatch h
 ·split at h
  ·rename_i i e
   exact⟨i,by omega,e,h⟩
  ·exact nomatch h
theorem Zvp{j i:Nat}(h:caps[j]? =some i):Jz n caps fp (n+j)=fp i:=by
 unfold Jz
 rw[if_neg (by omega),show n+j-n=j by omega,h]
theorem Z5y{k:Nat}{t:OT}(h:(blk n caps δ)[k]? =some (some t)):∃i,n≤k∧caps[k-n]? =some i∧δ[i]? =some (some t):=by
 unfold blk at h
 rw[List.getElem?_append]at h
 split at h
 ·rw[List.getElem?_replicate]at h
  split at h<;>cases h
 ·rename_i hk
  rw[Vf]at hk h
  rw[Xl]at h
  cases e:caps[k-n]? with
  | none=>rw[e]at h;cases h
  | some i=>
   rw[e]at h
   refine⟨i,by omega,rfl,?_⟩
   simp only[XX]at h
   cases e2:δ[i]? with
   | none=>rw[e2]at h;cases h
   | some o=>
    rw[e2]at h
    simpa using h
theorem Rel.block(R:Rel C io H1 σ δ fp ex)(nd:caps.Nodup)(hD:H1 D=none) :
  Rel (Zwl C H1 fp (Zap own caps σ)) (Zb0 own.length caps) (upd H1 D (.lst [])) (Zap own caps σ) (blk own.length caps δ) (Jz own.length caps fp) (Zht ex D fp (Jz own.length caps fp)):=by
 have s:=Yu hD (.lst [])
 have sub:∀a,Foot (Jz own.length caps fp) a->Foot fp a:=λa q91=>by
  obtain⟨k,z⟩:=q91
  obtain⟨i,_,_,z⟩:=Zej z
  exact⟨i,z⟩
 have neD:∀a,H1 a≠none->a≠D:=λa h z=>h (z▸hD)
 refine⟨by unfold Zap blk;simp,λk t e=>?_,λk h=>?_,λk=>?_,λk l a h1 h2=>?_,λk a h z=>?_,λa z=>?_,λb o e _=>s _ _ e,λb e=>s.free e,λk a h=>?_,λk _=>rfl⟩
 ·obtain⟨i,hk,e1,e2⟩:=Z5y e
  obtain⟨v,e3,o⟩:=R.own i t e2
  refine⟨v,?_,?_⟩
  ·unfold Zap
   rw[JN (by simpa using hk),Xf,Xl,e1]
   simp[e3]
  ·have ef:Jz own.length caps fp k=fp i:=by
    have:=Zvp (n:=own.length) (fp:=fp) e1
    rwa[show own.length+(k-own.length)=k by omega]at this
   rw[ef]
   refine(o.wide λa l q=>⟨λz=>l.1 (sub a z),λz=>?_,.inl ⟨l.2.2,l.1⟩⟩).same s
   rcases z with z|z|z
   ·exact l.2.1 z
   ·exact neD a q z
   ·exact l.1 z.1
 ·unfold Jz
  split
  ·rfl
  ·split
   ·rename_i i e1
    refine R.emp i λt z=>h t ?_
    unfold blk
    rw[JN (by rw[Vf];omega),Vf,Xl,e1]
    simp[z]
   ·rfl
 ·unfold Jz
  split
  ·exact .nil
  ·split
   ·exact R.nd _
   ·exact .nil
 ·obtain⟨i,hk,e1,m1⟩:=Zej h1
  obtain⟨j,hl,e2,m2⟩:=Zej h2
  have:=R.dj i j a m1 m2
  subst this
  have hlt:=(Xm.mp e1).1
  have:=(List.getElem?_inj hlt nd).mp (e1.trans e2.symm)
  omega
 ·obtain⟨i,hk,e1,m⟩:=Zej h
  rcases z with z|z|z
  ·exact R.dx i a m z
  ·exact R.footSome (z▸hD) ⟨i,m⟩
  ·exact z.2 ⟨k,h⟩
 ·rcases z with z|z|z
  ·intro q;exact R.xa a z (s.free q)
  ·subst z;rw[Yo];intro q;cases q
  ·obtain⟨xs,e⟩:=R.foot z.1
   rw[s _ _ e];intro q;cases q
 ·obtain⟨i,hk,e1,m⟩:=Zej h
  refine .inl ⟨?_,⟨i,m⟩⟩
  have:=(Xm.mp e1).1
  exact XQ.mpr ⟨k-own.length,by simpa using this,by omega⟩
theorem Z2u{σ0:St}{fp':Fp}{ex':Addr->Prop}{a:Addr}(hx:∀a,ex a->ex' a)(l:Lf (Zwl C H1 fp σ0) fp' ex' a):Lf C fp ex a∨H1 a=none:=by
 obtain⟨l1,l2,l3⟩:=l
 rcases l3 with l3|l3
 ·exact .inl ⟨l3.2,λz=>l2 (hx a z),l3.1⟩
 ·exact .inr l3
theorem Rel.poke(R:Rel C io H' σ δ fp ex){xs ys:List V}(hx:ex D)(hD:H' D=some (.lst xs))(h0:C.H₀ D=none):Rel C io (upd H' D (.lst ys)) σ δ fp ex:=by
 have nf:¬Foot fp D:=λ⟨i,z⟩=>R.dx i D z hx
 have kp:∀b o,b≠D->H' b=some o->upd H' D (.lst ys) b=some o:=λb o n e=>by rw[Z9 n];exact e
 refine⟨R.len,λi t e=>?_,R.emp,R.nd,R.dj,R.dx,λa z=>?_,λb o e n=>?_,λb e=>?_,R.new,R.io⟩
 ·obtain⟨v,e1,o⟩:=R.own i t e
  refine⟨v,e1,o.frame (λa zs l q=>⟨l,?_⟩) (λa zs q=>kp a _ (λz=>?_) q) λa m zs q=>kp a _ (λz=>nf ⟨i,z▸m⟩) q⟩
  ·have na:a≠D:=λz=>l.2.1 (z▸hx)
   rcases q with q|⟨u,q⟩
   ·exact .inl (kp a _ na q)
   ·exact .inr ⟨u,kp a _ na q⟩
  ·exact ImO.nl q (z▸hD)
 ·by_cases e:a=D
  ·subst e;rw[Yo];intro q;cases q
  ·rw[Z9 e];exact R.xa a z
 ·refine kp b o (λz=>?_) (R.fr b o e n)
  rw[z,h0]at e;cases e
 ·refine R.al b ?_
  by_cases q:b=D
  ·subst q;rw[Yo]at e;cases e
  ·rwa[Z9 q]at e
theorem Owns.poke{L:Addr->Prop}{xs ys zs:List V}{rs:List OT}{as:List Addr}(o:Owns G H' L zs rs as)(hD:H' D=Bg (HO.lst xs))(hL:¬L D)(hn:D∉as):Owns G (upd H' D (.lst ys)) L zs rs as:=by
 refine o.frame (λa zs l q=>⟨l,?_⟩) (λa zs q=>?_) λa m zs q=>?_
 ·have na:a≠D:=λz=>hL (z▸l)
  rcases q with q|⟨u,q⟩
  ·exact .inl (by rw[Z9 na];exact q)
  ·exact .inr ⟨u,by rw[Z9 na];exact q⟩
 ·rw[Z9 (λz=>ImO.nl q (z▸hD))];exact q
 ·have na:a≠D:=λz=>hn (by rw[←z];exact m)
  rw[Z9 na];exact q
theorem Owns.snoc{L:Addr->Prop}{xs:List V}{rs:List OT}{as bs:List Addr}{x:V}{r:OT}(h:Owns G H' L xs rs as)(k:Own G H' L x r bs):Owns G H' L (xs ++ [x]) (rs ++ [r]) (as ++ bs) :=
 Owns.rec (motive_1:=λ_ _ _ _=>True) (motive_2:=λxs rs as _=>Owns G H' L (xs ++ [x]) (rs ++ [r]) (as ++ bs)) (λ_=>trivial) (λ_ _ _=>trivial) (λ_ _ _=>trivial) (λ_ _ _=>trivial) (by have:=Owns.cons k .nil;rwa[Bb]at this) (λk _ _ ih=>by rw[VG];exact .cons k ih) h
end
structure Zxi(C:MC G)(H1:Hp)(fp1:Fp)(ex:Addr->Prop)(n:Nat)(caps:List Nat)(σ0:St)(D:Addr)(pb:Bool)(H':Hp)(σ':St)(δ':Zm)(fp':Fp)(ys:List V)(rs:List OT)(new:List Addr):Prop where
 keep:∀b o,H1 b=some o->(pb=true∨¬Foot (Jz n caps fp1) b)->H' b=some o
 al:∀b,H' b=none->H1 b=none
 dat:H' D=some (.lst ys)
 rel:Rel (Zwl C H1 fp1 σ0) (Zb0 n caps) H' σ' δ' fp' (exu (Zht ex D fp1 (Jz n caps fp1)) new)
 grow:∀a,Foot fp' a->Foot (Jz n caps fp1) a∨H1 a=none
 own:Owns G H' (λa=>true=true->Lf (Zwl C H1 fp1 σ0) fp' (exu (Zht ex D fp1 (Jz n caps fp1)) new) a) ys rs new
 nd:new.Nodup
 fresh:∀a∈new,H1 a=none∧a≠D
section
variable {io:List Nat}{p c pt pe ci:Bool}{g:MGt}{mt:MTt}{me:MEt}{own:List Str}{caps:List Nat}
theorem Zr8{C:MC G}{H1:Hp}{σ:St}{δ1:Zm}{fp1:Fp}{ex:Addr->Prop}{J:It}{ds:List Xa}{D:Addr}{Qf:Hp->Prop}(I:Nat->List OT->Zm->Prop)(R1:Rel C io H1 σ δ1 fp1 ex)
  (it:∀H':Hp,(∀b o,H1 b=some o->((pt&&pe)=true∨¬Foot (Jz own.length caps fp1) b)->H' b=some o)->∀i:Nat,(∀d,ds[i]? =some d->J.go i H'∧∀x H'',J.yld i H' x H''->Same H' H''∧Da G H'' (λa=>ci=true->(Lf C fp1 ex a∧H1 a≠none)) x d)∧(ds[i]? =none->J.stop i H'))
  (nd:caps.Nodup) (hD:H1 D=none) (hz:ds.length≤Xq) (h0:I 0 [] (blk own.length caps δ1))
  (turn:∀(i:Nat) (d:Xa) (rs:List OT) (δ':Zm),ds[i]? =some d->I i rs δ'->g d δ' λδ2=>mt δ2 λb δ3=>if b=true then me δ3 λr δ4=>I (i+1) (rs ++ [r]) δ4 else I (i+1) rs δ3)
  (fin:∀H' σ' δ' fp' ys rs new,Zxi C H1 fp1 ex own.length caps (Zap own caps σ) D (pt&&pe) H' σ' δ' fp' ys rs new->I ds.length rs δ'->Qf H') :
  Zz7 J (gM G (Zb0 own.length caps) ci g) (ttM G (Zb0 own.length caps) pt mt) (tM G (Zb0 own.length caps) pe true me) (Zap own caps σ) D Qf H1:=by
 have hx:Zht ex D fp1 (Jz own.length caps fp1) D:=.inr (.inl rfl)
 refine⟨λi n σ' H'=>n=ds.length-i∧i≤ds.length∧∃rs ys new δ' fp',Zxi C H1 fp1 ex own.length caps (Zap own caps σ) D (pt&&pe) H' σ' δ' fp' ys rs new∧ys.length≤i∧I i rs δ',⟨ds.length,rfl,Q6 _,[],[],[],_,_,⟨λb o e _=>Yu hD _ _ _ e,(Yu hD _).al,Yo,?_,λa z=>.inl z,.nil,.nil,λa m=>(nomatch m)⟩,Qi _,h0⟩,?_⟩
 ·exact(R1.block nd hD).drop λa z=>Zdz.mp z
 rintro i n σ2 H2 ⟨rfl,hle,rs,ys,new,δ2,fp2,B,hl,i2⟩
 have subB:∀b,Foot (Jz own.length caps fp1) b->Foot fp1 b:=λb q92=>by
  obtain⟨k,z⟩:=q92
  obtain⟨i,_,_,z⟩:=Zej z
  exact⟨i,z⟩
 have itk:=it H2 B.keep i
 by_cases hlt:i<ds.length
 case neg=>
  have e:i=ds.length:=by omega
  subst e
  exact .inl ⟨itk.2 (by simp),fin H2 σ2 δ2 fp2 ys rs new B i2⟩
 have hd:ds[i]? =some ds[i]:=Xg hlt
 obtain⟨go,yl⟩:=itk.1 _ hd
 refine .inr ⟨go,λx H3 hy=>?_⟩
 obtain⟨s3,q3⟩:=yl x H3 hy
 have R3:=B.rel.mk0 s3
 have D3:H3 D=some (.lst ys):=s3 _ _ B.dat
 -- the item,clean in the block
 have q3':Da G H3 (λa=>ci=true->Lf (Zwl C H1 fp1 (Zap own caps σ)) fp2 (exu (Zht ex D fp1 (Jz own.length caps fp1)) new) a) x ds[i]:=by
  refine q3.wide λa l _ z=>?_
  obtain⟨⟨l1,l2,l3⟩,l4⟩:=l z
  refine⟨λw=>?_,λw=>?_,.inl ⟨l3,l1⟩⟩
  ·rcases B.grow a w with w|w
   ·exact l1 (subB a w)
   ·exact l4 w
  ·rcases w with(w|w|w)|w
   ·exact l2 w
   ·subst w;exact l4 hD
   ·exact l1 w.1
   ·exact l4 (B.fresh a w).1
 refine⟨_,δ2,fp2,_,_,_,R3,q3',turn i _ rs δ2 hd i2,λσ4 δ4 fp4 R4 k4 h4=>?_⟩
 refine⟨_,δ4,fp4,_,_,R4,h4,λH5 b δ5 fp5 R5 S5 h5=>?_⟩
 -- the state behind the test
 have keep5:∀b o,H1 b=some o->((pt&&pe)=true∨¬Foot (Jz own.length caps fp1) b)->H5 b=some o:=λb o e q=>by
  refine S5.keep b o (s3 _ _ (B.keep b o e q)) ?_
  rcases q with q|q
  ·rw[Xo]at q;exact .inl q.1
  ·refine .inr λz=>?_
   rcases k4.grow b z with z|z
   ·rcases B.grow b z with z|z
    ·exact q z
    ·rw[e]at z;cases z
   ·rw[s3 _ _ (B.keep b o e (.inr q))]at z;cases z
 have al5:∀b,H5 b=none->H1 b=none:=λb e=>B.al b (s3.al b (S5.al b e))
 have grow4:∀a,Foot fp4 a->Foot (Jz own.length caps fp1) a∨H1 a=none:=λa z=>by
  rcases k4.grow a z with z|z
  ·exact B.grow a z
  ·exact .inr (B.al a (s3.al a z))
 have grow5:∀a,Foot fp5 a->Foot (Jz own.length caps fp1) a∨H1 a=none:=λa z=>by
  rcases S5.grow a z with z|z
  ·exact grow4 a z
  ·exact .inr (B.al a (s3.al a z))
 have D5:H5 D=some (.lst ys):=S5.keep D _ D3 (.inr λ⟨k,z⟩=>R4.dx k D z (.inl hx))
 have own3:=B.own.same s3
 -- the items so far behind the target and the test
 have own4:Owns G H3 (λa=>true=true->Lf (Zwl C H1 fp1 (Zap own caps σ)) fp4 (exu (Zht ex D fp1 (Jz own.length caps fp1)) new) a) ys rs new:=by
  refine own3.wide λa l q z=>?_
  obtain⟨l1,l2,l3⟩:=l z
  exact⟨λw=>(k4.grow a w).elim l1 q,l2,l3⟩
 have own5:=R4.owns_step (ex':=exu (Zht ex D fp1 (Jz own.length caps fp1)) new) S5 (c:=true) (.inr rfl) (λa z=>.inl z) (λa m=>.inr m) own4
 dsimp only at h5⊢
 cases b with
 | false=>
  rw[if_neg Xu]at h5⊢
  exact⟨ds.length-(i+1),by omega,rfl,hlt,rs,ys,new,δ5,fp5,⟨keep5,al5,D5,R5,grow5,own5,B.nd,B.fresh⟩,by omega,h5⟩
 | true=>
  rw[if_pos rfl]at h5⊢
  refine⟨_,δ5,fp5,_,_,R5,h5,λH6 v r δ6 fp6 nr r6 h6=>?_⟩
  have D6:H6 D=some (.lst ys):=r6.stp.keep D _ D5 (.inr λ⟨k,z⟩=>R5.dx k D z (.inl hx))
  have hDnr:D∉nr:=λz=>by
   have:=r6.fresh D z
   rw[D5]at this;cases this
  have own6:=R5.owns_step (ex':=exu (exu (Zht ex D fp1 (Jz own.length caps fp1)) new) nr) r6.stp (c:=true) (.inr rfl) (λa z=>z.imp id λz=>r6.fresh a z) (λa m=>.inr m) own5
  have eqx:∀a,exu (Zht ex D fp1 (Jz own.length caps fp1)) (new ++ nr) a->exu (exu (Zht ex D fp1 (Jz own.length caps fp1)) new) nr a:=λa z=>by
   rcases z with z|z
   ·exact .inl (.inl z)
   ·rcases QV.mp z with z|z
    ·exact .inl (.inr z)
    ·exact .inr z
  have lw:∀a,(true=true->Lf (Zwl C H1 fp1 (Zap own caps σ)) fp6 (exu (exu (Zht ex D fp1 (Jz own.length caps fp1)) new) nr) a)->H6 a≠none->(true=true->Lf (Zwl C H1 fp1 (Zap own caps σ)) fp6 (exu (Zht ex D fp1 (Jz own.length caps fp1)) (new ++ nr)) a) :=
   λa l _ z=>⟨(l z).1,λw=>(l z).2.1 (eqx a w),(l z).2.2⟩
  have ownA:=(own6.snoc r6.own).wide lw
  refine⟨ys,D6,by omega,ds.length-(i+1),by omega,rfl,hlt,rs ++ [r],ys ++ [v],new ++ nr,δ6,fp6,⟨λb o e q=>?_,λb e=>?_,Yo,?_,λa z=>?_,?_,?_,λa m=>?_⟩,by rw[X6];show ys.length+1≤i+1;omega,h6⟩
  ·have nD:b≠D:=λz=>by rw[z,hD]at e;cases e
   rw[Z9 nD]
   refine r6.stp.keep b o (keep5 b o e q) ?_
   rcases q with q|q
   ·rw[Xo]at q;exact .inl q.2
   ·refine .inr λz=>?_
    rcases grow5 b z with z|z
    ·exact q z
    ·rw[e]at z;cases z
  ·by_cases q:b=D
   ·subst q;rw[Yo]at e;cases e
   ·rw[Z9 q]at e
    exact al5 b (r6.stp.al b e)
  ·exact(r6.rel.drop eqx).poke (.inl hx) D6 hD
  ·rcases r6.stp.grow a z with z|z
   ·exact grow5 a z
   ·exact .inr (al5 a z)
  ·exact ownA.poke D6 (λz=>(z rfl).2.1 (.inl hx)) (λm=>by
    rcases QV.mp m with m|m
    ·exact(B.fresh D m).2 rfl
    ·exact hDnr m)
  ·refine U0.mpr ⟨B.nd,r6.nd,λa m b m' z=>?_⟩
   subst z
   obtain⟨xs,e⟩:=own5.some a m
   rw[r6.fresh a m']at e;cases e
  ·rcases QV.mp m with m|m
   ·exact B.fresh a m
   ·exact⟨al5 a (r6.fresh a m),λz=>hDnr (z▸m)⟩
end
variable {G:Xb}
section
variable {X:Cx}{io:List Nat}{p p' c pt pe ci:Bool}{g:MGt}{mt:MTt}{me m:MEt}{mi:MIt}{own:List Str}{caps:List Nat}{e:Expr}
noncomputable def Z5z(m:MEt):MEt:=λδ K=>m δ λr δ'=>Zca r.data=true∧K (.fz r.data) δ'
theorem Zrc(h:ME X io p c e m):ME X io p true e (Z5z m):=by
 obtain⟨_,A,s⟩:=h
 exact⟨_,A,λC H σ δ fp ex K Q R h k=>s C H σ δ fp ex _ _ R h λH' v r δ' fp' new r1 h1=>k H' v _ δ' fp' [] (r1.fzs R h1.1) h1.2⟩
noncomputable def Z55(n:Nat)(caps:List Nat)(ds:List Xa)(g:MGt)(mt:MTt)(me:MEt)(δ1:Zm)(K:OT->Zm->Prop):Prop:=ds.length≤Xq∧∃I:Nat->List OT->Zm->Prop,I 0 [] (blk n caps δ1)∧
 (∀ (i:Nat) (d:Xa) (rs:List OT) (δ':Zm),ds[i]? =some d->I i rs δ'->g d δ' λδ2=>mt δ2 λb δ3=>if b=true then me δ3 λr δ4=>I (i+1) (rs ++ [r]) δ4 else I (i+1) rs δ3)∧
 ∀rs δ',I ds.length rs δ'->K (.nd rs) δ1
noncomputable def Zid(n:Nat)(caps:List Nat)(mi:MIt)(g:MGt)(mt:MTt)(me:MEt):MEt:=λδ K=>mi δ λds δ1=>Z55 n caps ds g mt me δ1 K
theorem Z0t{wi:TI}(si:SI G io p ci wi mi)(nd:caps.Nodup)(hp:(pt&&pe)=true) :
  SE G io p true (Z0j own caps wi (gM G (Zb0 own.length caps) ci g) (ttM G (Zb0 own.length caps) pt mt) (tM G (Zb0 own.length caps) pe true me)) (Zid own.length caps mi g mt me):=by
 intro C H σ δ fp ex K Q R h k
 refine si C H σ δ fp ex _ _ R h λJ H1 ds δ1 fp1 R1 S1 it h1 D hD=>?_
 obtain⟨hz,I,h0,turn,fin⟩:=h1
 refine Zr8 I R1 (λH' kp=>it H' λb o e _=>kp b o e (.inl hp)) nd hD hz h0 turn λH' σ' δ' fp' ys rs new B i'=>?_
 have s:Same H1 H':=λb o e=>B.keep b o e (.inl hp)
 refine k H' (.ref D) (.nd rs) δ1 fp1 (D :: new) (RE.tree R R1 S1 s (λa m=>?_) (QT.mpr ⟨λm=>(B.fresh D m).2 rfl,B.nd⟩) (.nd B.dat (B.own.wide λa l _=>?_))) (fin rs δ' i')
 ·rcases Xw.mp m with rfl|m
  ·exact hD
  ·exact(B.fresh a m).1
 ·refine⟨?_,λm=>?_⟩
  ·rcases Z2u (λa z=>.inl (.inl z)) (l rfl)with z|z
   ·exact .inl λ_=>z
   ·exact .inr z
  ·rcases Xw.mp m with z|z
   ·exact(l rfl).2.1 (.inl (.inr (.inl z)))
   ·exact(l rfl).2.1 (.inr z)
variable {N':List Str}{sc:V7}{tg elt iter:Expr}{ifs:List Expr}{pos:Pos}
theorem Z4k(S:CompScope X own caps N' sc)(hc:X.calm=true)(nd:caps.Nodup)(hi:MI X io p ci tg iter mi)
  (hg:∀C cells s₂ H₂ fp,MG (Wj X N' sc C cells s₂ H₂ fp) (Zb0 own.length caps) ci tg g) (ht:∀C cells s₂ H₂ fp,MIfs (Wj X N' sc C cells s₂ H₂ fp) (Zb0 own.length caps) pt ifs mt) (he:∀C cells s₂ H₂ fp,ME (Wj X N' sc C cells s₂ H₂ fp) (Zb0 own.length caps) pe true elt me)
  (hp:(pt&&pe)=true:=by rfl) (hs:∀x,Bh iter X.env x=pure x:=by intro _;rfl):ME X io p true (.ListComp elt [⟨tg,iter,ifs,0⟩] sc pos) (Zid own.length caps mi g mt me):=by
 obtain⟨_,A,si⟩:=hi
 exact⟨_,Zyl S hc A (λC cells s₂ H₂ fp=>(hg C cells s₂ H₂ fp).canon) (λC cells s₂ H₂ fp=>(ht C cells s₂ H₂ fp).canon) (λC cells s₂ H₂ fp=>(he C cells s₂ H₂ fp).canon) hs,Z0t si nd hp⟩
section
variable {i:Nat}{y:Str}{py spos:Pos}
theorem Zau(own':Bool)(hN:X.N.Nodup)(hy:X.N[i]? =some y)(hx:Loc X.env.scope y)(S:CompScope X own caps N' sc)(hc:X.calm=true)(nd:caps.Nodup)(hi:MI X io p ci tg iter mi)
  (hg:∀C cells s₂ H₂ fp,MG (Wj X N' sc C cells s₂ H₂ fp) (Zb0 own.length caps) ci tg g) (ht:∀C cells s₂ H₂ fp,MIfs (Wj X N' sc C cells s₂ H₂ fp) (Zb0 own.length caps) pt ifs mt) (he:∀C cells s₂ H₂ fp,ME (Wj X N' sc C cells s₂ H₂ fp) (Zb0 own.length caps) pe true elt me)
  (hp:(pt&&pe)=true:=by rfl) (hio:i∉io:=by decide)
  (hsw:Uc (.ListComp elt [⟨tg,iter,ifs,0⟩] sc pos) (some (.Name y py)) spos.line X.env=pure true:=by rfl)
  (hs:∀x,Bh iter X.env x=pure x:=by intro _;rfl) (hf:X.fn y=true∨X.env.scope.names.lookup y=some .local:=by first|exact .inl rfl|exact .inr rfl|assumption) :
  MS X io (.Assign [.Name y py] (.ListComp elt [⟨tg,iter,ifs,0⟩] sc pos) spos) (if own'=true then Zql i (Zid own.length caps mi g mt me)else Z1o i (Zid own.length caps mi g mt me)):=by
 obtain⟨_,A,si⟩:=hi
 refine⟨_,Zpq (g:=gM X.K (Zb0 own.length caps) ci g) (tt:=ttM X.K (Zb0 own.length caps) pt mt) (te:=tM X.K (Zb0 own.length caps) pe true me) hN hy hx S hc A (λC cells s₂ H₂ fp=>(hg C cells s₂ H₂ fp).canon) (λC cells s₂ H₂ fp=>(ht C cells s₂ H₂ fp).canon) (λC cells s₂ H₂ fp=>(he C cells s₂ H₂ fp).canon) hsw hs hf,?_⟩
 cases own'
 ·exact Ybo (Z0t si nd hp) hio
 ·exact Z51 (Z0t si nd hp) hio
end
end
variable {G:Xb}
section
variable {X:Cx}{pins:List (Addr×Obj)}{σ:St}{H:Hp}{s:Xd}{l:Addr}{xs:List V}
noncomputable def Z30(K:Xb):R2:=λx y H Q=>∃l b xs zs,x= .ref l∧y= .ref b∧SqL K H l xs∧SqL K H b zs∧xs.length+zs.length≤Xq∧∀p,H p=none->Q (.ref p) (upd H p (.lst (xs ++ zs)))
theorem Inv.lstQ{K:Xb}(hK:X.K=K)(I:Inv X pins σ H s)(hH:SqL K H l xs):∃(its:List Xc) (n:Nat),Vals xs its∧xs.length=its.length∧∃o,s.heap.get? l=some o∧o.cls= .type "list"∧o.dict=none∧o.data= .seq its.toArray n:=by
 subst hK
 obtain⟨its,r,⟨o,n,e,h1,h2,h3⟩,_⟩:=I.list hH
 exact⟨its,n,r,r.length,o,e,h1,h2,h3⟩
theorem Zam{K:Xb}(hK:X.K=K):OpR X (Vx .Add) (Z30 K):=by
 intro pins s σ H x y v u Q I rx ry h
 obtain⟨l,b,xs,zs,rfl,rfl,hH,hB,hz,q⟩:=h
 cases rx
 cases ry
 obtain⟨its,n,r,hl,⟨cls,dd,data,sl⟩,ho,hc,_,hd⟩:=I.lstQ hK hH
 obtain⟨its2,n2,r2,hl2,⟨cls2,dd2,data2,sl2⟩,ho2,hc2,_,hd2⟩:=I.lstQ hK hB
 simp only at hc hd hc2 hd2
 subst hc hd hc2 hd2
 have ea:its.toArray ++ its2.toArray=(its ++ its2).toArray:=by simp
 refine concat_meets ⟨_,ho,rfl⟩ ⟨_,ho2,rfl⟩ noFill_list_add seq_list_add PySem.F.slot_list_add PySem.F.entry_list_add (PySem.F.args_list_add_2 _ _) (list_addW l b its.toArray its2.toArray n n2 dd dd2 sl sl2 (by simp only[Xx];omega)) ⟨ho,ho2,?_⟩
 rw[ea]
 exact⟨.ref _,_,I.lnew (t':=s.toks) (r.append r2) (by rw[X6];omega),rfl,q _ I.fresh⟩
end
noncomputable def asI(d:Xa)(k:Int->Prop):Prop:=match d with| .int i=>k i|_=>False
noncomputable def asL(d:Xa)(k:List Xa->Prop):Prop:=match d with| .list ds=>k ds|_=>False
section
variable {H:Hp}{L:Addr->Prop}{v:V}{d:Xa}
theorem Da.intInv{k:Int->Prop}(q:Da G H L v d)(h:asI d k):∃i,v= .int i∧k i:=by
 cases q with
 | int b=>exact⟨b,rfl,h⟩
 | _=>exact h.elim
theorem Da.lstInv{k:List Xa->Prop}(q:Da G H L v d)(h:asL d k):∃a xs ds,v= .ref a∧SqL G H a xs∧Das G H L xs ds∧k ds:=by
 cases q with
 | lst l e r=>exact⟨_,_,_,rfl,.inl e,r,h⟩
 | scr s=>exact⟨_,_,_,rfl,s.sq,.ints _,h⟩
 | _=>exact h.elim
end
noncomputable def d2I(C:Int->Int->Prop)(g:Int->Int->Xa):Xa->Xa->(Xa->Prop)->Prop:=λd e k=>asI d λi=>asI e λj=>C i j∧k (g i j)
noncomputable def Zxc(g:Int->Int->Xa):Xa->Xa->(Xa->Prop)->Prop:=λd e k=>asI d λi=>asI e λj=>k (g i j)
theorem Z2h{C:Int->Int->Prop}{f:Int->Int->Int}:P2s G (rI C λi j=>.int (f i j)) (d2I C λi j=>.int (f i j)):=λH L x y d e k Q hx hy h kk=>by
 obtain⟨i,rfl,h⟩:=hx.intInv h
 obtain⟨j,rfl,h⟩:=hy.intInv h
 exact⟨i,j,rfl,rfl,h.1,kk _ _ (.int _) h.2⟩
structure MulOk(i j:Int):Prop where
 ok:IntMulOk i j
structure Yae(i j:Int):Prop where
 ok:DivOk i j
structure Ybe(i j:Int):Prop where
 ok:Z6c i j
theorem Z2y{f:Int->Int->Int}:P2s G (rI IntMulOk λi j=>.int (f i j)) (d2I MulOk λi j=>.int (f i j)):=λH L x y d e k Q hx hy h kk=>by
 obtain⟨i,rfl,h⟩:=hx.intInv h
 obtain⟨j,rfl,h⟩:=hy.intInv h
 exact⟨i,j,rfl,rfl,h.1.ok,kk _ _ (.int _) h.2⟩
theorem Z1q{f:Int->Int->Int}:P2s G (rI DivOk λi j=>.int (f i j)) (d2I Yae λi j=>.int (f i j)):=λH L x y d e k Q hx hy h kk=>by
 obtain⟨i,rfl,h⟩:=hx.intInv h
 obtain⟨j,rfl,h⟩:=hy.intInv h
 exact⟨i,j,rfl,rfl,h.1.ok,kk _ _ (.int _) h.2⟩
theorem Z2t{f:Int->Int->Int}:P2s G (rI Z6c λi j=>.int (f i j)) (d2I Ybe λi j=>.int (f i j)):=λH L x y d e k Q hx hy h kk=>by
 obtain⟨i,rfl,h⟩:=hx.intInv h
 obtain⟨j,rfl,h⟩:=hy.intInv h
 exact⟨i,j,rfl,rfl,h.1.ok,kk _ _ (.int _) h.2⟩
theorem Zsr{f:Int->Int->Int}:P2s G (rI0 λi j=>.int (f i j)) (Zxc λi j=>.int (f i j)):=λH L x y d e k Q hx hy h kk=>by
 obtain⟨i,rfl,h⟩:=hx.intInv h
 obtain⟨j,rfl,h⟩:=hy.intInv h
 exact⟨i,j,rfl,rfl,kk _ _ (.int _) h⟩
theorem Zes{f:Int->Int->Bool}:P2s G (rI0 λi j=>.bl (f i j)) (Zxc λi j=>.bool (f i j)):=λH L x y d e k Q hx hy h kk=>by
 obtain⟨i,rfl,h⟩:=hx.intInv h
 obtain⟨j,rfl,h⟩:=hy.intInv h
 exact⟨i,j,rfl,rfl,kk _ _ (.bl _) h⟩
section
variable {X:Cx}
noncomputable def Yaa(K:Xb):R2:=λx y H Q=>∃(L L':Addr->Prop) (d e:Xa),Da K H L x d∧Da K H L' y e∧Shp d∧Shp e∧Q (.bl (Qy d e)) H
noncomputable def Yar(K:Xb):R2:=λx y H Q=>∃(L L':Addr->Prop) (d e:Xa),Da K H L x d∧Da K H L' y e∧Shp d∧Shp e∧Q (.bl (!Qy d e)) H
theorem Zhb(hu:X.A.units+64<cLine):OpR X (Bj .Eq) (Yaa X.K):=by
 intro pins s σ H x y v u Q I rx ry h
 obtain⟨L,L',d,e,h1,h2,s1,s2,q⟩:=h
 obtain⟨as,k1⟩:=h1.reads rfl I rx (Vy s1)
 obtain⟨bs,k2⟩:=h2.reads rfl I ry (Vy s2)
 exact eq_dataH k1 k2 s1 s2 hu ⟨.bl _,H,I,rfl,q⟩
theorem Zxg(hu:X.A.units+64<cLine):OpR X (Bj .NotEq) (Yar X.K):=by
 intro pins s σ H x y v u Q I rx ry h
 obtain⟨L,L',d,e,h1,h2,s1,s2,q⟩:=h
 obtain⟨as,k1⟩:=h1.reads rfl I rx (Vy s1)
 obtain⟨bs,k2⟩:=h2.reads rfl I ry (Vy s2)
 exact ne_dataH k1 k2 s1 s2 hu ⟨.bl _,H,I,rfl,q⟩
end
structure Z5t(d:Xa):Prop where
 ok:Shp d
noncomputable def dEq:Xa->Xa->(Xa->Prop)->Prop:=λd e k=>Z5t d∧Z5t e∧k (.bool (Qy d e))
noncomputable def dNe:Xa->Xa->(Xa->Prop)->Prop:=λd e k=>Z5t d∧Z5t e∧k (.bool (!Qy d e))
theorem Zm1:P2s G (Yaa G) dEq:=λH L x y d e k Q hx hy h kk=>⟨L,L,d,e,hx,hy,h.1.ok,h.2.1.ok,kk _ _ (.bl _) h.2.2⟩
theorem Z3f:P2s G (Yar G) dNe:=λH L x y d e k Q hx hy h kk=>⟨L,L,d,e,hx,hy,h.1.ok,h.2.1.ok,kk _ _ (.bl _) h.2.2⟩
noncomputable def Zkp:Xa->Bool
 | .none=>true
 | _=>false
noncomputable def scD:Xa->Bool
 | .none=>true
 | .bool _=>true
 | .int _=>true
 | .str _=>true
 | _=>false
noncomputable def eqS:Xa->Xa->Bool
 | .none,.none=>true
 | .bool a,.bool b=>a==b
 | .bool a,.int b=>(if a then 1 else 0)==b
 | .int a,.bool b=>a==(if b then 1 else 0)
 | .int a,.int b=>a==b
 | .str a,.str b=>a==b
 | _,_=>false
noncomputable def memS(d:Xa)(ds:List Xa):Bool:=ds.any λe=>eqS e d
theorem Da.toSc{H:Hp}{L:Addr->Prop}{v:V}{d:Xa}(h:Da G H L v d)(s:scD d=true):ScD v d:=by
 cases h with
 | non=>exact .non
 | bl b=>exact .bl b
 | int i=>exact .int i
 | str x=>exact .str x
 | _=>cases s
theorem Da.sc{H:Hp}{L:Addr->Prop}{v:V}{d:Xa}(h:Da G H L v d)(s:scD d=true):Zib v=true:=by
 cases h.toSc s<;>rfl
theorem Das.sc{H:Hp}{L:Addr->Prop}{vs:List V}{ds:List Xa}(h:Das G H L vs ds):ds.all scD=true->vs.all Zib=true :=
 Das.ind (Q:=λvs ds=>ds.all scD=true->vs.all Zib=true) (λ_=>rfl) (λh _ r s=>by
  rw[U9,Xo]at s
  rw[U9,h.sc s.1,r s.2];rfl) h
theorem Da.eqS{H:Hp}{L:Addr->Prop}{v u:V}{d e:Xa}(h:Da G H L v d)(g:Da G H L u e)(s:scD d=true)(t:scD e=true):eqV v u=L2.eqS d e:=by
 cases h.toSc s<;>cases g.toSc t<;>rfl
theorem Das.memS{H:Hp}{L:Addr->Prop}{v:V}{d:Xa}(h:Da G H L v d)(s:scD d=true){vs:List V}{ds:List Xa}(g:Das G H L vs ds):ds.all scD=true->inV v vs=L2.memS d ds :=
 Das.ind (Q:=λvs ds=>ds.all scD=true->inV v vs=L2.memS d ds) (λ_=>rfl) (λg _ r t=>by
  rw[U9,Xo]at t
  have:=r t.2
  unfold inV L2.memS at*
  rw[Vr,Vr,this,g.eqS h t.1 s]) g
noncomputable def dIn(neg:Bool):Xa->Xa->(Xa->Prop)->Prop:=λd e k=>scD d=true∧match e with
 | .list ds=>ds.all scD=true∧k (.bool (if neg then !memS d ds else memS d ds))
 | .tuple ds=>ds.all scD=true∧k (.bool (if neg then !memS d ds else memS d ds))
 | _=>False
theorem Zud{neg:Bool}:P2s G (rIn G neg) (dIn neg):=λH L x y d e k Q hx hy h kk=>by
 obtain⟨s,h⟩:=h
 cases hy with
 | lst l e r=>exact⟨_,_,rfl,.inl (.inl e),hx.sc s,r.sc h.1,by rw[Das.memS hx s r h.1];exact kk _ _ (.bl _) h.2⟩
 | tup e r=>exact⟨_,_,rfl,.inr (.inl (.inl e)),hx.sc s,r.sc h.1,by rw[Das.memS hx s r h.1];exact kk _ _ (.bl _) h.2⟩
 | scr ks=>exact⟨_,_,rfl,.inl ks.sq,hx.sc s,(Das.ints (G:=G) (H:=H) (L:=L) _).sc h.1,by rw[Das.memS hx s (Das.ints (G:=G) (H:=H) (L:=L) _) h.1];exact kk _ _ (.bl _) h.2⟩
 | _=>exact h.elim
noncomputable def ixD(d e:Xa):Option Xa:=match d,e with
 | .list ds,.int i=>atI ds i
 | .tuple ds,.int i=>atI ds i
 | _,_=>none
noncomputable def dIx:Xa->Xa->(OT->Prop)->Prop:=λd e k=>match ixD d e with|some x=>k (.fz x)|none=>False
theorem Das.atI{H:Hp}{L:Addr->Prop}{xs:List V}{ds:List Xa}{i:Int}{d:Xa}(h:Das G H L xs ds)(e:L2.atI ds i=some d):∃x,L2.atI xs i=some x∧Da G H L x d:=by
 unfold L2.atI at*
 rw[h.length]
 cases q:ixN ds.length i with
 | none=>rw[q]at e;cases e
 | some j=>
  rw[q]at e
  exact h.get e
theorem Z9a:P2 G (rIx G) dIx:=λH L x y d e k Q hx hy h kk=>by
 unfold dIx at h
 split at h
 case h_2=>exact h.elim
 rename_i z ez
 have fin:∀v,Da G H L v z->Q v H:=λv q=>kk H v (.fz z) [] (Same.refl _) (.fz (q.wide λa l _=>⟨.inl l,λm=>nomatch m⟩)) .nil (λa m=>nomatch m) h
 cases hx with
 | lst l e1 r=>
  cases hy with
  | int i=>
   obtain⟨v,e2,q⟩:=r.atI (show L2.atI _ i=some z from ez)
   exact .inl ⟨_,_,i,v,rfl,rfl,.inl e1,e2,fin v q⟩
  | _=>cases ez
 | tup e1 r=>
  cases hy with
  | int i=>
   obtain⟨v,e2,q⟩:=r.atI (show L2.atI _ i=some z from ez)
   exact .inr (.inl ⟨_,_,i,v,rfl,rfl,.inl (.inl e1),e2,fin v q⟩)
  | _=>cases ez
 | scr ks=>
  cases hy with
  | int i=>
   obtain⟨v,e2,q⟩:=(Das.ints (G:=G) (H:=H) (L:=L) _).atI (show L2.atI _ i=some z from ez)
   exact .inl ⟨_,_,i,v,rfl,rfl,ks.sq,e2,fin v q⟩
  | _=>cases ez
 | _=>cases ez
theorem Own.list{H:Hp}{L:Addr->Prop}{p:Addr}{xs:List V}{ds:List Xa}(hp:H p=none)(h:Das G H L xs ds):Own G (upd H p (.lst xs)) (λa=>(L a∨H a=none)∧a∉[p]) (.ref p) (.nd (ds.map OT.fz)) [p] :=
 .nd Yo (((h.wide λa l q=>⟨.inl l,λm=>q (by rw[Qj.mp m];exact hp)⟩).same (Yu hp _)).owns)
theorem Zd6{H:Hp}{p:Addr}(hp:H p=none):∀a∈[p],H a=none:=λa m=>by rw[Qj.mp m];exact hp
theorem Zhi(p:Addr):[p].Nodup:=QT.mpr ⟨λm=>(nomatch m),.nil⟩
noncomputable def dCat:Xa->Xa->(OT->Prop)->Prop:=λd e k=>asL d λds=>asL e λes=>ds.length+es.length≤Xq∧k (.nd ((ds ++ es).map OT.fz))
theorem Zcx:P2 G (Z30 G) dCat:=λH L x y d e k Q hx hy h kk=>by
 obtain⟨a,xs,ds,rfl,e1,r1,h⟩:=hx.lstInv h
 obtain⟨b,ys,es,rfl,e2,r2,h⟩:=hy.lstInv h
 exact⟨a,b,xs,ys,rfl,rfl,e1,e2,by rw[r1.length,r2.length];exact h.1,λp hp=>kk _ _ _ [p] (Yu hp _) (Own.list hp (r1.append r2)) (Zhi p) (Zd6 hp) h.2⟩
noncomputable def n1(k:Xa->Prop)(ds:List Xa):Prop:=match ds with|[d]=>k d|_=>False
noncomputable def n2(k:Xa->Xa->Prop)(ds:List Xa):Prop:=match ds with|[d,e]=>k d e|_=>False
theorem Das.one{H:Hp}{L:Addr->Prop}{vs:List V}{ds:List Xa}{k:Xa->Prop}(q:Das G H L vs ds)(h:n1 k ds):∃v d,vs=[v]∧ds=[d]∧Da G H L v d∧k d:=by
 cases q with
 | nil=>exact h.elim
 | cons q r=>
  cases r with
  | nil=>exact⟨_,_,rfl,rfl,q,h⟩
  | cons _ _=>exact h.elim
theorem Das.two{H:Hp}{L:Addr->Prop}{vs:List V}{ds:List Xa}{k:Xa->Xa->Prop}(q:Das G H L vs ds)(h:n2 k ds):∃v u d e,vs=[v,u]∧ds=[d,e]∧Da G H L v d∧Da G H L u e∧k d e:=by
 cases q with
 | nil=>exact h.elim
 | cons q r=>
  cases r with
  | nil=>exact h.elim
  | cons q' r'=>
   cases r' with
   | nil=>exact⟨_,_,_,_,rfl,rfl,q,q',h⟩
   | cons _ _=>exact h.elim
noncomputable def Zun:Xa->Option Nat
 | .list ds=>some ds.length
 | .tuple ds=>some ds.length
 | _=>none
noncomputable def Z92:List Xa->(Xa->Prop)->Prop:=λds k=>n1 (λd=>match Zun d with|some n=>k (.int n)|none=>False) ds
theorem Z2g:PNs G (Yag G) Z92:=λH L xs ds k Q hx h kk=>by
 obtain⟨v,d,rfl,rfl,q,h⟩:=hx.one h
 cases q with
 | lst l e r=>exact⟨_,_,rfl,.inl (.inl e),by rw[r.length];exact kk _ _ (.int _) h⟩
 | tup e r=>exact⟨_,_,rfl,.inr (.inl (.inl e)),by rw[r.length];exact kk _ _ (.int _) h⟩
 | scr ks=>exact⟨_,_,rfl,.inl ks.sq,by rw[(Das.ints (G:=G) (H:=H) (L:=L) _).length];exact kk _ _ (.int _) h⟩
 | _=>exact h.elim
noncomputable def Ybr:List Xa->(Xa->Prop)->Prop:=λds k=>n1 (λd=>asI d λi=>k (.int (if i<0 then -i else i))) ds
theorem Zrg:PNs G (λxs H Q=>∃i,xs=[.int i]∧Q (.int (if i<0 then -i else i)) H) Ybr:=λH L xs ds k Q hx h kk=>by
 obtain⟨v,d,rfl,rfl,q,h⟩:=hx.one h
 obtain⟨i,rfl,h⟩:=q.intInv h
 exact⟨i,rfl,kk _ _ (.int _) h⟩
noncomputable def Ybg:List Xa->(Xa->Prop)->Prop:=λds k=>n2 (λd e=>asI d λi=>asI e λj=>k (.int (if j>i then j else i))) ds
theorem Zko:PNs G (λxs H Q=>∃i j,xs=[.int i,.int j]∧Q (.int (if j>i then j else i)) H) Ybg:=λH L xs ds k Q hx h kk=>by
 obtain⟨v,u,d,e,rfl,rfl,q,q',h⟩:=hx.two h
 obtain⟨i,rfl,h⟩:=q.intInv h
 obtain⟨j,rfl,h⟩:=q'.intInv h
 exact⟨i,j,rfl,kk _ _ (.int _) h⟩
noncomputable def Z96:List Xa->(Xa->Prop)->Prop:=λds k=>n2 (λd e=>asI d λi=>asI e λj=>k (.int (if j<i then j else i))) ds
theorem Zs3:PNs G (λxs H Q=>∃i j,xs=[.int i,.int j]∧Q (.int (if j<i then j else i)) H) Z96:=λH L xs ds k Q hx h kk=>by
 obtain⟨v,u,d,e,rfl,rfl,q,q',h⟩:=hx.two h
 obtain⟨i,rfl,h⟩:=q.intInv h
 obtain⟨j,rfl,h⟩:=q'.intInv h
 exact⟨i,j,rfl,kk _ _ (.int _) h⟩
noncomputable def Ybw:List Xa->(Xa->Prop)->Prop:=λds k=>n1 (λd=>match d with| .int i=>k (.int i)| .bool b=>k (.int (if b then 1 else 0))|_=>False) ds
theorem Zof:PNs G (λxs H Q=>(∃i,xs=[.int i]∧Q (.int i) H)∨∃k,xs=[.bl k]∧Q (.int (if k then 1 else 0)) H) Ybw:=λH L xs ds k Q hx h kk=>by
 obtain⟨v,d,rfl,rfl,q,h⟩:=hx.one h
 cases q with
 | int i=>exact .inl ⟨i,rfl,kk _ _ (.int _) h⟩
 | bl b=>exact .inr ⟨b,rfl,kk _ _ (.int _) h⟩
 | _=>exact h.elim
noncomputable def Zj2:Xa->Option (List Xa)
 | .list ds=>some ds
 | .tuple ds=>some ds
 | _=>none
noncomputable def Z15:List Xa->(OT->Prop)->Prop:=λds k=>n1 (λd=>match Zj2 d with|some es=>k (.nd (es.map OT.fz))|none=>False) ds
theorem Zq0:PN G (Ztj G) Z15:=λH L xs ds k Q hx h kk=>by
 obtain⟨v,d,rfl,rfl,q,h⟩:=hx.one h
 cases q with
 | lst l e r=>exact⟨_,_,rfl,.inl (.inl e),λp hp=>kk _ _ _ [p] (Yu hp _) (Own.list hp r) (Zhi p) (Zd6 hp) h⟩
 | tup e r=>exact⟨_,_,rfl,.inr (.inl (.inl e)),λp hp=>kk _ _ _ [p] (Yu hp _) (Own.list hp r) (Zhi p) (Zd6 hp) h⟩
 | scr ks=>exact⟨_,_,rfl,.inl ks.sq,λp hp=>kk _ _ _ [p] (Yu hp _) (Own.list hp (Das.ints _)) (Zhi p) (Zd6 hp) h⟩
 | _=>exact h.elim
section
variable {X:Cx}{io:List Nat}{p c:Bool}{a:Expr}{ma:MEt}{pos:Pos}
noncomputable def Ybc(m:MEt):MEt:=λδ K=>m δ λr δ'=>asI r.data λi=>K (.fz (.int (-i))) δ'
theorem Zig(ha:ME X io p c a ma):ME X io p true (.UnaryOp .USub a pos) (Ybc ma):=by
 obtain⟨_,A,s⟩:=ha
 exact⟨_,Z60 Z32 A,λC H σ δ fp ex K Q R h k=>s C H σ δ fp ex _ _ R h λH' v r δ' fp' new r1 h1=>by
  obtain⟨i,rfl,h1⟩:=(r1.da R).intInv h1
  exact⟨i,rfl,k H' _ _ δ' fp' [] (.fz r1.base r1.stp (.int _)) h1⟩⟩
noncomputable def Zqo(T:String):Xa->Bool
 | .none=>false
 | .bool _=>T=="bool"||T=="int"
 | .int _=>T=="int"
 | .str _=>T=="str"
 | .list _=>T=="list"
 | .tuple _=>T=="tuple"
 | .dict _=>false
noncomputable def Ybb(T:String)(m:MEt):MEt:=λδ K=>m δ λr δ'=>Zj0 r.data=false∧K (.fz (.bool (Zqo T r.data))) δ'
end
section
variable {prog:XM}{w:Qo}{A:Ql}{E:Xc->Xd->Prop}{h:Heap}{g:Array GenState}{d:Drawn}{t:Nat}{os:OsState}{a C:Addr}{o:Obj}{K:Xb}
theorem Zx1(M:Model)(hx:h.get? a=some o)(hc:o.cls= .ref C):Q8 M h (typeOf (.ref a)) (.ref C):=hc▸(Q8.ld hx).andThen .now
theorem Zv4{R:Result->Xd->Prop}(X:K.In h)(Z:Zir K C)(hx:h.get? a=some o)(hc:o.cls= .ref C)(hq:R (.ok (.ret (.ref C))) ⟨h,g,d,t,os⟩) :
  codeAny (X7 prog w) A (.call (.builtin "getset_descriptor.__get__") ⟨[.builtin "object.__class__",.ref a,.ref C],[]⟩) R ⟨h,g,d,t,os⟩:=by
 have L1:Q8 (X7 prog w) h (isSubtype (.ref C) (.type (".".intercalate ("object.__class__".cutAt '.').dropLast))) true:=by
  rw[F.owner_object_class]
  exact PySem.W.looks_subIn X Z.isO
 have T5:(⟨h,g,d,t,os⟩:Xd).TypeIs (.builtin "object.__class__") "getset_descriptor" :=F.typeOf_object_class
 refine codeAny_call_builtin F.slot_gs_get.plain F.entry_gs_get (F.slot_gs_get.check _ _ _ _ _ _ _ _ T5 (F.args_gs_get _ _ _) ?_)
 repeat (any_goals (first|assumption|(with_reducible refine V0 hx ?_;rw[hc])|(with_reducible refine Xe (Q8.at L1 ?_))|(with_reducible refine Q8.at L1 ?_)|wp_step))
 refine⟨Code.quiet_builtin _ (by decide +kernel),codeAny_builtin F.entry_object_class ?_⟩
 repeat (any_goals (first|assumption|(with_reducible refine V0 hx ?_;rw[hc])|wp_step))
theorem Zp5{tk:Tok}{Q:Fin->Xd->Prop}(X:K.In h)(Z:Zir K C)(hx:h.get? a=some o)(hc:o.cls= .ref C)(hq:Q (.done (.ret (.ref C))) ⟨h,g,d,t,os⟩) :
  XN (X7 prog w) A (Ui.«object.__getattribute__» ⟨[.ref a,.str "__class__" tk],[]⟩) Q E ⟨h,g,d,t,os⟩:=by
 have T5:(⟨h,g,d,t,os⟩:Xd).TypeIs (.builtin "object.__class__") "getset_descriptor" :=F.typeOf_object_class
 have g5:=F.typeOf_object_class
 have g6:=F.slot_gs_get.lookup
 have g7:=F.slot_gs_set.lookup
 have L4:=PySem.W.looks_findIn (M:=X7 prog w) X Z.cl
 repeat (any_goals (first|assumption|(with_reducible refine V0 hx ?_;rw[hc])|(with_reducible refine Xe (Q8.at L4 ?_))|(with_reducible refine Q8.at L4 ?_)|wp_step))
 refine Zv4 X Z hx hc ?_
 repeat (any_goals (first|assumption|wp_step))
theorem Zp0{M:Model}{nameV:Xc}{Q:Unit->Xd->Prop}(X:K.In h)(Z:Zir K C)(hx:h.get? a=some o)(hc:o.cls= .ref C)(hq:Q () ⟨h,g,d,t,os⟩) :
  XN M A (checkBuiltinCall "BaseException.__getattribute__" ⟨[.ref a,nameV],[]⟩) Q E ⟨h,g,d,t,os⟩:=by
 have e1:builtinKind "BaseException.__getattribute__"=some .slot:=by decide +kernel
 have e2:splitId "BaseException.__getattribute__"=some ("BaseException","__getattribute__"):=by decide +kernel
 have L1:=PySem.W.looks_subIn (M:=M) X Z.isB
 have e3:=F.args_bexc_ga (.ref a) nameV
 simp only[checkBuiltinCall,e1,e2]
 refine Xe ?_
 unfold isInstance
 repeat (first|(with_reducible refine V0 hx ?_;rw[hc])|(with_reducible refine Xe (Q8.at L1 ?_))|(with_reducible refine Q8.at L1 ?_)|wp_step)
 exact hq
theorem Zro{tk:Tok}{R:Result->Xd->Prop}(X:K.In h)(Z:Zir K C)(hx:h.get? a=some o)(hc:o.cls= .ref C)(hq:R (.ok (.ret (.ref C))) ⟨h,g,d,t,os⟩) :
  codeAny (X7 prog w) A (.call (.builtin "BaseException.__getattribute__") ⟨[.ref a,.str "__class__" tk],[]⟩) R ⟨h,g,d,t,os⟩ :=
 codeAny_call_builtin F.excAttr_ValueError.ga.plain F.entry_bexc_ga (Zp0 X Z hx hc (Zp5 X Z hx hc hq))
theorem Z0x{tk:Tok}{fill expr:Bool}{Q:Xc->Xd->Prop}(X:K.In h)(Z:Zir K C)(hx:h.get? a=some o)(hc:o.cls= .ref C)(hq:Q (.ref C) ⟨h,g,d,t,os⟩) :
  XN (X7 prog w) A (getAttrBy (.ref a) (.str "__class__" tk) fill expr) Q E ⟨h,g,d,t,os⟩:=by
 have f3:=F.excAttr_ValueError.ga.bind (.ref a)
 have y0:(expr&&onTheHeap (UW "BaseException.__getattribute__"))=false:=by cases expr<;>rfl
 have y2:(UW "BaseException.__getattribute__"==UW "object.__getattribute__")=false:=by decide +kernel
 have y1:(onTheHeap (Q4 C)&&UW "BaseException.__getattribute__"==UW "object.__getattribute__")=false:=by rw[y2];rfl
 have L2:=PySem.W.looks_findIn (M:=X7 prog w) X Z.ga
 have L3:=PySem.W.looks_findIn (M:=X7 prog w) X Z.gt
 repeat (any_goals (first|assumption|(with_reducible refine V0 hx ?_;rw[hc])|(with_reducible refine Q8.at L2 ?_)|(with_reducible refine Q8.at L3 ?_)|(with_reducible refine Xe (Q8.at L2 ?_))|(with_reducible refine Xe (Q8.at L3 ?_))|wp_step))
 refine Zro X Z hx hc ?_
 repeat (any_goals (first|assumption|wp_step))
theorem Zq4{Q:Option Xc->Xd->Prop}(X:K.In h)(Z:Zir K C)(hx:h.get? a=some o)(hc:o.cls= .ref C)(hq:Q (some (.ref C)) ⟨h,g,d,t+1,os⟩) :
  XN (X7 prog w) A (getAttr? (.ref a) "__class__") Q E ⟨h,g,d,t,os⟩:=by
 unfold getAttr? getAttrBy?
 repeat (any_goals (first|assumption|with_reducible apply Z0x X Z hx hc|wp_step))
end
theorem Zwb{K:Xb}{a C:Addr}(Z:Zir K C):PySem.W.KitX K (.ref a) (.ref C) (λh=>∃o,h.get? a=some o∧o.cls= .ref C) where
 ty:=λM h _ p=>let⟨_,hx,hc⟩:=p;Zx1 M hx hc
 it:=λM h X _=>by
  have z:=Z.isC
  unfold PySem.W.clsIn at z
  split at z
  ·rename_i ho
   intro A' Q' E' s' k q
   unfold isType loadHead
   exact Xe (wpAny_loadPart (k _ _ (X _ _ ho)) (X5 q))
  ·cases z
 ne:=λh tp dd its n sl X htp=>by
  have z:=Z.isC
  refine U7.mpr λq=>?_
  have e:C=tp:=Q4.inj (beq_iff_eq.mp q)
  subst e
  unfold PySem.W.clsIn at z
  split at z
  ·rename_i ho
   have z:=(X _ _ ho).symm.trans htp
   cases z
  ·cases z
 ca:=fun{_ _ _ _ _ s} X p k=>by
  obtain⟨h,g,d,t,os⟩:=s
  obtain⟨_,hx,hc⟩:=p
  exact Zq4 X Z hx hc k
variable {G:Xb}
noncomputable def tyD:Xa->String
 | .none=>"NoneType"
 | .bool _=>"bool"
 | .int _=>"int"
 | .str _=>"str"
 | .list _=>"list"
 | .tuple _=>"tuple"
 | .dict _=>"dict"
theorem Zw8{K:Xb}{T:String}{d:Xa}(h:T="int"∨T="bool"∨T="str"∨T="list"∨T="tuple")(hd:∀kvs,d≠ .dict kvs):BK K (.type (tyD d)) (.type T)=some (Zqo T d):=by
 rcases h with rfl|rfl|rfl|rfl|rfl<;>cases d<;>first|rfl|(exact absurd rfl (hd _))|(unfold BK PySem.W.kitCls;rfl)|(simp only[tyD,Zqo];decide +kernel)
noncomputable def Z61(G:Xb):List V->Hp->VK->Prop:=λxs H Q=>∃(x:V) (T:String) (L:Addr->Prop) (d:Xa),xs=[x,.ty T]∧Da G H L x d∧Zj0 d=false∧(T="int"∨T="bool"∨T="str"∨T="list"∨T="tuple")∧Q (.bl (Zqo T d)) H
theorem Zrq{X:Cx}(hK:X.K=G):Zcl X (.builtin "isinstance") (Z61 G):=by
 subst hK
 intro pins s σ H xs us Q I r h
 obtain⟨x,T,L,d,rfl,q,hf,hT,h⟩:=h
 obtain⟨u,w',rfl,r1,r2⟩:=vals2 r
 cases(show w'=Xc.type T from r2)
 have fin:∀tk:Nat,EP X pins σ Q (.bool (Zqo T d)) { s with toks:=tk }:=λtk=>⟨.bl _,H,I.tok tk,rfl,h⟩
 cases q with
 | non=>exact Zaw I r1 .non (Zw8 (d:=.none) hT λ_ z=>by cases z) fin
 | bl b=>exact Zaw I r1 (.bl b) (Zw8 (d:=.bool b) hT λ_ z=>by cases z) fin
 | int b=>exact Zaw I r1 (.int b) (Zw8 (d:=.int b) hT λ_ z=>by cases z) fin
 | str b=>exact Zaw I r1 (.str b) (Zw8 (d:=.str b) hT λ_ z=>by cases z) fin
 | lst l e qs=>
  rename_i ds
  rcases e with e|⟨o,e⟩
  ·exact Zaw I r1 (.lst e) (Zw8 (d:=.list ds) hT λ_ z=>by cases z) fin
  ·exact Zaw I r1 (.frz e) (Zw8 (d:=.list ds) hT λ_ z=>by cases z) fin
 | tup e qs=>
  rename_i ds
  exact Zaw I r1 (.tup e) (Zw8 (d:=.tuple ds) hT λ_ z=>by cases z) fin
 | scr ks=>
  rename_i a ns
  cases(show u=Q4 a from r1)
  obtain⟨its,vs,⟨o,n,ho,hc,hd,hs⟩,_⟩:=I.list (ks.sq (H:=H))
  exact Q5 PySem.W.kitx_list I.kIn ⟨o,ho,hc⟩ (Zw8 (d:=.list (ns.map Xk)) hT λ_ z=>by cases z) (λz=>nomatch z) fin
 | exc Z hn e=>
  rename_i a C x
  cases(show u=Q4 a from r1)
  obtain⟨⟨o,vs,ho,hc,_⟩,_,_⟩:=(show ObjOk X.prog X.w H s.heap a (.ext (ExO C a))from I.hok a _ e)
  refine Q5 (Zwb Z) I.kIn ⟨o,ho,hc⟩ (b:=Zqo T (exD x)) ?_ (λz=>nomatch z) fin
  rcases hT with rfl|rfl|rfl|rfl|rfl
  ·exact Z.k1
  ·exact Z.k2
  ·exact Z.k3
  ·exact Z.k4
  ·exact Z.k5
 | fn _=>cases hf
 | dic _ _ _ _=>unfold dcD Zj0 at hf;cases hf
section
variable {X:Cx}{io:List Nat}{p c p' c':Bool}{a b e:Expr}{ma m:MEt}{pos pp p2:Pos}{K:Xb}
theorem Zg4{T:Str}{T':String}(hT:T'="int"∨T'="bool"∨T'="str"∨T'="list"∨T'="tuple")(hg:Gl X "isinstance")(hm:X.mg "isinstance"=none)(hv:Qk "isinstance"=some (.builtin "isinstance"))
  (hg2:Gl X T) (hm2:X.mg T=none) (hv2:Qk T=some (.type T')) (ha:ME X io p c a ma) (hn:T≠"__name__" :=by decide) (hd:(T==("__debug__" : Str))=false:=by decide)
  (he:Xr [a,.Name T p2] X.env=(false,eval a X.env) :: Xr [.Name T p2] X.env:=by rfl) (he2:Xr [.Name T p2] X.env=(false,eval (.Name T p2) X.env) :: Xr [] X.env:=by rfl) (hpl:(BJ pos (Xr [.Name T p2] X.env)).any (·.1)=false:=by rfl) :
  ME X io p true (.Call (.Name "isinstance" pp) [a,.Name T p2] [] pos) (Ybb T' ma):=by
 obtain⟨_,A,s⟩:=ha
 refine⟨_,Zkm (Zrq rfl) hg hm hv (Zjb A (Zjb (Zye (v:=.ty T') hg2 hm2 hv2 rfl hn hd) Zpm he2) he) (by decide) (by decide) he hpl,?_⟩
 intro C H σ δ fp ex K' Q R h k
 refine s C H σ δ fp ex _ _ R h λH' v r δ' fp' new r1 h1=>?_
 exact⟨v,T',_,_,rfl,r1.da R,h1.1,hT,k H' _ _ δ' fp' [] (.fz r1.base r1.stp (.bl _)) h1.2⟩
noncomputable abbrev MOt:=Zm->(Option Int->Zm->Prop)->Prop
noncomputable def MO(X:Cx)(io:List Nat)(p:Bool)(e:Option Expr)(m:MOt):Prop:=∃t,PO X e t∧∀(C:MC X.K) (H:Hp) (σ:St) (δ:Zm) (fp:Fp) (ex:Addr->Prop) (K:Option Int->Zm->Prop) (Q:Option Int->Hp->Prop),Rel C io H σ δ fp ex->m δ K ->
 (∀ H' b δ' fp',Rel C io H' σ δ' fp' ex->Stp p H δ fp H' δ' fp'->K b δ'->Q b H')->t σ H Q
noncomputable def Ztl:MOt:=λδ K=>K none δ
noncomputable def Z5v(m:MEt):MOt:=λδ K=>m δ λr δ'=>asI r.data λi=>K (some i) δ'
theorem Zaz:MO X io true none Ztl:=⟨_,Z0r,λC H σ δ fp ex K Q R h k=>k H none δ fp R (.refl _ _ _ _) h⟩
theorem Wf(h:ME X io p c e m):MO X io p (some e) (Z5v m):=by
 obtain⟨_,A,s⟩:=h
 exact⟨_,Zzl A,λC H σ δ fp ex K Q R h k=>s C H σ δ fp ex _ _ R h λH' v r δ' fp' new r1 h1=>by
  obtain⟨i,rfl,h1⟩:=(r1.da R).intInv h1
  exact⟨i,rfl,k H' _ δ' fp' r1.base r1.stp h1⟩⟩
noncomputable def cutD(ds:List Xa)(lo hi:Option Int):List Xa:=(ds.drop (HT.sIx ds.length 0 lo)).take (HT.sIx ds.length ds.length hi-HT.sIx ds.length 0 lo)
theorem Das.cut{H:Hp}{L:Addr->Prop}{xs:List V}{ds:List Xa}(h:Das G H L xs ds)(lo hi:Option Int):Das G H L (Z1m xs lo hi) (cutD ds lo hi):=by
 unfold Z1m cutD
 rw[h.length]
 exact(h.drop _).take _
noncomputable def mSl(m:MEt)(ml mh:MOt):MEt:=λδ K=>m δ λr δ1=>ml δ1 λlo δ2=>mh δ2 λhi δ3=>asL r.data λds=>K (.nd ((cutD ds lo hi).map OT.fz)) δ3
theorem Ze8{lo hi:Option Expr}{ml mh:MOt}(ha:ME X io true c a ma)(hl:MO X io true lo ml)(hh:MO X io true hi mh):ME X io true c (.Subscript a (.Slice lo hi none p2) pos) (mSl ma ml mh):=by
 obtain⟨_,A,s⟩:=ha
 obtain⟨_,B,sl⟩:=hl
 obtain⟨_,D,sh⟩:=hh
 refine⟨_,Zvm (Zt2 rfl) A B D,?_⟩
 intro C H σ δ fp ex K' Q R h k
 refine s C H σ δ fp ex _ _ R h λH1 v r δ1 fp1 new r1 h1=>?_
 refine sl C H1 σ δ1 fp1 ex _ _ r1.base h1 λH2 l δ2 fp2 R2 S2 h2=>?_
 refine sh C H2 σ δ2 fp2 ex _ _ R2 h2 λH3 u δ3 fp3 R3 S3 h3=>?_
 have s2:Same H1 H2:=λb o e=>S2.keep b o e (.inl rfl)
 have s3:Same H2 H3:=λb o e=>S3.keep b o e (.inl rfl)
 obtain⟨e1,e2⟩:=r1.stp.env rfl
 obtain⟨e3,e4⟩:=S2.env rfl
 obtain⟨e5,e6⟩:=S3.env rfl
 have q:=((r1.da R).same s2).same s3
 obtain⟨a',xs,ds,rfl,e,qs,h3⟩:=q.lstInv h3
 refine⟨a',xs,rfl,e,λp hp=>?_⟩
 have S:=(r1.stp.trans S2).trans S3
 refine k _ _ _ δ3 fp3 [p] (RE.tree R R3 S (Yu hp _) (Zd6 hp) (Zhi p) (Own.list hp ((qs.cut l u).wide λa l _=>?_))) h3
 rw[e6,e4]
 exact l
theorem Owns.set{H:Hp}{L:Addr->Prop}{x:V}{r:OT}(hr:Own G H L x r []):∀{xs:List V} {ts:List OT} {as:List Addr} (j:Nat),Owns G H L xs ts as->∃bs,Owns G H L (xs.set j x) (ts.set j r) bs∧bs.Sublist as
 | _,_,_,_,.nil=>⟨[],.nil,.refl _⟩
 | _,_,_,0,.cons k t=>⟨_,.cons hr t,by simp⟩
 | _,_,_,j+1,.cons (as:=as) k t=>by
  obtain⟨bs,o,s⟩:=Owns.set hr j t
  exact⟨as ++ bs,.cons k o,List.Sublist.append_left s as⟩
theorem Owns.get{H:Hp}{L:Addr->Prop}:∀{xs:List V} {ts:List OT} {as:List Addr} {j:Nat} {t:OT},Owns G H L xs ts as->ts[j]? =Bg t->∃x bs,xs[j]? =Bg x∧Own G H L x t bs∧bs.Sublist as
 | _,_,_,_,_,.nil,e=>by simp at e
 | _,_,_,0,_,.cons k _,e=>by simp at e;subst e;exact⟨_,_,rfl,k,List.sublist_append_left _ _⟩
 | _,_,_,j+1,t,.cons _ r,e=>by
  obtain⟨x,bs,h1,h2,h3⟩:=Owns.get (j:=j) (t:=t) r (by simpa using e)
  exact⟨x,bs,by simpa using h1,h2,h3.trans (List.sublist_append_right _ _)⟩
theorem Rel.top{C:MC G}{H:Hp}{σ:St}{δ:Zm}{fp:Fp}{ex:Addr->Prop}{i:Nat}{ts ts':List OT}{a':Addr}{xs ys:List V}{bs bs':List Addr}(R:Rel C io H σ δ fp ex)(hi:δ[i]? =some (some (.nd ts)))(hv:σ[i]? =some (some (.ref a')))
  (hf:fp i=a' :: bs) (hx:H a'=some (.lst xs)) (o:Owns G H (Lf C fp ex) ys ts' bs') (hs:bs'.Sublist bs) :
  Rel C io (upd H a' (.lst ys)) σ (δ.set i (some (.nd ts'))) (fpu fp i (a' :: bs')) ex∧Stp false H δ fp (upd H a' (.lst ys)) (δ.set i (some (.nd ts'))) (fpu fp i (a' :: bs')):=by
 have nd:=R.nd i
 rw[hf]at nd
 have hn:=QT.mp nd
 have hm:a'∈fp i:=by rw[hf];exact .head _
 have ne':∀a,¬Foot fp a->a≠a':=λa h z=>h ⟨i,by rw[z];exact hm⟩
 have kp:∀b o,H b=some o->b≠a'->upd H a' (.lst ys) b=some o:=λb o e n=>by rw[Z9 n];exact e
 have sub:∀a,a∈a' :: bs'->a∈fp i:=λa m=>by
  rw[hf]
  rcases Xw.mp m with rfl|m
  ·exact .head _
  ·exact .tail _ (hs.subset m)
 have o':Owns G (upd H a' (.lst ys)) (Lf C (fpu fp i (a' :: bs')) (exu ex [])) ys ts' bs':=by
  have f0:∀a,¬Foot fp a->¬Foot (fpu fp i (a' :: bs')) a:=λa h z=>by
   rcases z.of_u with z|⟨j,_,z⟩
   ·exact h ⟨i,sub a z⟩
   ·exact h ⟨j,z⟩
  have f1:∀a (zs:MuO),Lf C fp ex a->Rd H a zs.ho->Lf C (fpu fp i (a' :: bs')) (exu ex []) a∧Rd (upd H a' (.lst ys)) a zs.ho:=λa zs l q=>by
   refine⟨⟨f0 a l.1,λz=>l.2.1 (Zdz.mp z),l.2.2⟩,?_⟩
   rcases q with q|⟨u,q⟩
   ·exact .inl (kp a _ q (ne' a l.1))
   ·exact .inr ⟨u,kp a _ q (ne' a l.1)⟩
  have f2:∀a (zs:ImO),H a=some zs.ho->upd H a' (.lst ys) a=some zs.ho:=λa zs q=>kp a _ q λz=>ImO.nl q (z▸hx)
  exact o.frame f1 f2 λa m zs q=>kp a _ q λz=>hn.1 (hs.subset (z▸m))
 have key:=R.change (new:=[]) (as':=a' :: bs') (t':=.nd ts') (H':=upd H a' (.lst ys)) hi hv (λb o e nb=>kp b o e λz=>nb (by rw[z];exact hm)) (λb e=>by
   by_cases q:b=a'
   ·subst q;rw[Yo]at e;cases e
   ·rwa[Z9 q]at e) (.nd Yo o') (QT.mpr ⟨λm=>hn.1 (hs.subset m),hn.2.sublist hs⟩) (λa m=>.inl (sub a m)) (λa m=>nomatch m)
 exact⟨key.1.drop λa z=>.inl z,key.2⟩
end
variable {G:Xb}
section
variable {X:Cx}{io:List Nat}{p c p' c':Bool}{a b e:Expr}{ma m mi mj:MEt}{pos pp p2 apos cpos px:Pos}{K:Xb}{i:Nat}{x:Str}
theorem Rel.ownNd{C:MC G}{H:Hp}{σ:St}{δ:Zm}{fp:Fp}{ex:Addr->Prop}{ts:List OT}(R:Rel C io H σ δ fp ex)(hi:δ[i]? =some (some (.nd ts))) :
  ∃a' xs bs,σ[i]? =some (some (.ref a'))∧H a'=some (.lst xs)∧Owns G H (Lf C fp ex) xs ts bs∧fp i=a' :: bs:=by
 obtain⟨v,e,o⟩:=R.own i _ hi
 generalize hf:fp i=as at o
 cases o with
 | nd h r=>exact⟨_,_,_,e,h,r,rfl⟩
noncomputable def Zlp(i:Nat)(m:MEt):MSt:=λD δ=>match δ[i]? with
 | some (some (.nd _))=>m δ λr δ1=>match δ1[i]? with
  | some (some (.nd ts))=>ts.length<Xq∧D.nx (δ1.set i (some (.nd (ts ++ [.fz r.data]))))
  | _=>False
 | _=>False
theorem Zb1(i:Nat)(he:ME X io p true e m)(hN:X.N[i]? =some x:=by rfl)(hv:Vis X.env.scope x:=by first|exact QQ rfl|exact Qx (QQ rfl)|exact Qx (Qx rfl))(hd:(x==("__debug__" : Str))=false:=by decide)
  (hcd:(x==("__classdict__" : Str))=false:=by decide)
  (hbase:attributeBase (.Name x px) "append" X.env (eval (.Name x px) X.env)=eval (.Name x px) X.env:=by rfl)
  (hfew:((BJ cpos (Xr [e] X.env)).all (λx=>!x.1)&&(backToKw cpos (keywordEach [] X.env)).all (λx=>x.1.isSome)
   &&decide ([e].length+([]:List Keyword).length+(if([]:List Keyword).isEmpty then 0 else 1)<30))=true:=by rfl)
  (hline:(apos.endLine==cpos.line)=true:=by rfl) (hs:Xr [e] X.env=(false,eval e X.env) :: Xr [] X.env:=by rfl) (hplain:(BJ cpos (Xr [] X.env)).any (·.1)=false:=by rfl)
  (hsw:Uc (.Call (.Attribute (.Name x px) "append" apos) [e] [] cpos) none pos.line X.env=pure false:=by rfl) :
  MS X io (.Expr (.Call (.Attribute (.Name x px) "append" apos) [e] [] cpos) pos) (Zlp i m):=by
 obtain⟨_,A,s⟩:=he
 refine⟨_,Z0l (Z7h PySem.F.plainAttrs_list PySem.F.slot_list_append PySem.F.type_list_append Zlz (pv i hN hv hd hcd) (Zjb A Zpm hs) hbase hfew hline hs hplain) hsw,λC H σ δ fp ex D D' R h E=>?_⟩
 unfold Zlp at h
 split at h
 case h_2=>exact h.elim
 rename_i ts0 hi0
 obtain⟨a',xs0,bs0,hv0,hx0,_,_⟩:=R.ownNd hi0
 refine⟨_,hv0,.inl ⟨rfl,xs0,.inl (.inl hx0)⟩,?_⟩
 refine s C H σ δ fp ex _ _ R h λH1 v r δ1 fp1 new r1 h1=>?_
 split at h1
 case h_2=>exact h1.elim
 rename_i ts1 hi1
 have R1:=r1.base
 obtain⟨a1,xs1,bs1,hv1,hx1,o1,hf1⟩:=R1.ownNd hi1
 rw[hv0]at hv1
 cases hv1
 have q:=(r1.da R).wide (L':=Lf C fp1 ex) λa l _=>l rfl
 refine⟨a',xs1,v,rfl,rfl,hx1,by rw[o1.length];exact h1.1,?_⟩
 have o2:=o1.snoc (.fz q)
 obtain⟨R2,S2⟩:=R1.top hi1 hv0 hf1 hx1 o2 (by simp)
 exact E.nx _ σ _ _ R2 (r1.stp.kp.trans S2.kp) h1.2
noncomputable def Z97(i:Nat)(m mi:MEt):MSt:=λD δ=>m δ λr δ1=>match δ1[i]? with
 | some (some (.nd ts))=>mi δ1 λn _=>asI n.data λk=>match ixN ts.length k with
  | some j=>D.nx (δ1.set i (some (.nd (ts.set j (.fz r.data)))))
  | none=>False
 | _=>False
noncomputable def Z11(i:Nat)(m mi mj:MEt):MSt:=λD δ=>m δ λr δ1=>match δ1[i]? with
 | some (some (.nd ts))=>mi δ1 λn _=>asI n.data λk=>match ixN ts.length k with
  | some j=>match ts[j]? with
   | some (.nd us)=>mj δ1 λn' _=>asI n'.data λk'=>match ixN us.length k' with
    | some j'=>D.nx (δ1.set i (some (.nd (ts.set j (.nd (us.set j' (.fz r.data)))))))
    | none=>False
   | _=>False
  | none=>False
 | _=>False
theorem SE.pureAfter{t:TE}{C:MC G}{H:Hp}{σ:St}{δ:Zm}{fp:Fp}{ex:Addr->Prop}{K':OT->Zm->Prop}{Q:VK}(s:SE G io true c t m)(R:Rel C io H σ δ fp ex)(h:m δ K')(k:∀H' v r,Rel C io H' σ δ fp ex->Same H H'->Da G H' (λa=>c=true->Lf C fp ex a) v r.data->K' r δ->Q v H'):t σ H Q :=
 s C H σ δ fp ex _ _ R h λH1 v r δ1 fp1 new r1 h1=>by
  obtain⟨e1,e2⟩:=r1.stp.env rfl
  have q:=r1.da R
  have R1:=r1.base
  rw[e1]at R1 h1
  rw[e2]at R1 q
  exact k H1 v r R1 (λb o e=>r1.stp.keep b o e (.inl rfl)) q h1
theorem Zwx(i:Nat)(he:ME X io p true e m)(hj:ME X io true c a mi)(hN:X.N[i]? =some x:=by rfl)(hv:Vis X.env.scope x:=by first|exact QQ rfl|exact Qx (QQ rfl)|exact Qx (Qx rfl))(hd:(x==("__debug__" : Str))=false:=by decide)
  (hcd:(x==("__classdict__" : Str))=false:=by decide)
  (hpg:∀{to ti:TE},PE X (.Name x px) to->PE X a ti->PG X (.Subscript (.Name x px) a pp) (Z7z to ti Zyw):=by intro _ _ A B;exact Zwk A B set_list)
  (hs:swapsWithSole [.Subscript (.Name x px) a pp] e pos.line X.env=pure false:=by rfl) (hw:swappedStores [.Subscript (.Name x px) a pp] e X.env=pure none:=by rfl)
  (h1:(JC [.Subscript (.Name x px) a pp] X.env).map (·.2)=[Ud (.Subscript (.Name x px) a pp) X.env]:=by rfl):MS X io (.Assign [.Subscript (.Name x px) a pp] e pos) (Z97 i m mi):=by
 obtain⟨_,A,s⟩:=he
 obtain⟨_,B,sj⟩:=hj
 refine⟨_,Zwy A (hpg (pv i hN hv hd hcd) B) hs hw h1,λC H σ δ fp ex D D' R h E=>?_⟩
 refine s C H σ δ fp ex _ _ R h λH1 v r δ1 fp1 new r1 h1=>?_
 have R1:=r1.base
 have q:=(r1.da R).wide (L':=Lf C fp1 ex) λa l _=>l rfl
 split at h1
 case h_2=>exact h1.elim
 rename_i ts hi
 obtain⟨a',_,_,hv0,_⟩:=R1.ownNd hi
 refine⟨_,hv0,?_⟩
 refine sj.pureAfter R1 h1 λH2 w n R2 s2 q2 h2=>?_
 obtain⟨k,rfl,h2⟩:=q2.intInv h2
 split at h2
 case h_2=>exact h2.elim
 rename_i j hj
 obtain⟨a2,xs,bs,hv2,hx,o,hf⟩:=R2.ownNd hi
 rw[hv0]at hv2
 cases hv2
 obtain⟨bs',o',hs'⟩:=Owns.set (.fz (q.same s2)) j o
 refine⟨a',xs,k,j,rfl,rfl,hx,by rw[o.length];exact hj,?_⟩
 obtain⟨R3,S3⟩:=R2.top hi hv0 hf hx o' hs'
 exact E.nx _ σ _ _ R3 (r1.stp.kp.trans (Kp.trans ⟨λb o e _=>s2 _ _ e,λz=>(nomatch z),λa z=>.inl z,s2.al⟩ S3.kp)) h2
theorem Owns.deep{H:Hp}{L:Addr->Prop}{b':Addr}{ws ws':List V}{us us':List OT}(hb:H b'=Bg (HO.lst ws))(hL:¬L b')(hc:∀cs,Owns G H L ws us cs->∃cs',Owns G H L ws' us' cs'∧cs'.Sublist cs) :
  ∀{xs:List V} {ts:List OT} {as:List Addr} {j:Nat},Owns G H L xs ts as->as.Nodup->xs[j]? =Bg (.ref b')->ts[j]? =Bg (.nd us)->∃as',Owns G (upd H b' (.lst ws')) L xs (ts.set j (.nd us')) as'∧as'.Sublist as∧b'∈as
 | _,_,_,_,.nil,_,e,_=>by simp at e
 | _,_,_,0,.cons (as:=as) (bs:=bs) k t,nd,e,e'=>by
  simp at e e'
  subst e e'
  have nd':=U0.mp nd
  have kp:∀a o,a≠b'->H a=Bg o->upd H b' (.lst ws') a=Bg o:=λa o n q=>by rw[Z9 n];exact q
  have f1:∀a (zs:MuO),L a->Rd H a zs.ho->L a∧Rd (upd H b' (.lst ws')) a zs.ho:=λa zs l q=>⟨l,by
   have na:a≠b':=λz=>hL (z▸l)
   rcases q with q|⟨u,q⟩
   ·exact .inl (kp a _ na q)
   ·exact .inr ⟨u,kp a _ na q⟩⟩
  have f2:∀a (zs:ImO),H a=Bg zs.ho->upd H b' (.lst ws') a=Bg zs.ho:=λa zs q=>kp a _ (λz=>ImO.nl q (z▸hb)) q
  cases k with
  | nd h r=>
   rename_i xs0 as0
   rw[hb]at h
   cases h
   have nd2:=QT.mp nd'.1
   obtain⟨cs',o',s'⟩:=hc _ r
   refine⟨b' :: cs' ++ bs,.cons (.nd Yo (o'.frame f1 f2 λa m zs q=>kp a _ (λz=>nd2.1 (s'.subset (z▸m))) q)) (t.frame f1 f2 λa m zs q=>kp a _ (λz=>nd'.2.2 b' (.head _) a m z.symm) q),List.Sublist.append_right (List.Sublist.cons₂ _ s') bs,Vl _ (.head _)⟩
 | _,_,_,j+1,.cons (as:=as) (bs:=bs) k t,nd,e,e'=>by
  have nd':=U0.mp nd
  obtain⟨as',o,s,m⟩:=Owns.deep hb hL hc (j:=j) t nd'.2.1 (by simpa using e) (by simpa using e')
  have nb:b'∉as:=λz=>nd'.2.2 b' z b' m rfl
  refine⟨as ++ as',.cons ?_ o,List.Sublist.append_left s as,Qw _ m⟩
  have kp:∀a o,a≠b'->H a=Bg o->upd H b' (.lst ws') a=Bg o:=λa o n q=>by rw[Z9 n];exact q
  refine k.frame (λa zs l q=>⟨l,?_⟩) (λa zs q=>kp a _ (λz=>ImO.nl q (z▸hb)) q) λa m' zs q=>kp a _ (λz=>nb (z▸m')) q
  have na:a≠b':=λz=>hL (z▸l)
  rcases q with q|⟨u,q⟩
  ·exact .inl (kp a _ na q)
  ·exact .inr ⟨u,kp a _ na q⟩
theorem Zgw(i:Nat)(he:ME X io p true e m)(hj:ME X io true c a mi)(hk:ME X io true c' b mj)(hPa:Zk0 a)(hN:X.N[i]? =some x:=by rfl)(hv:Vis X.env.scope x:=by first|exact QQ rfl|exact Qx (QQ rfl)|exact Qx (Qx rfl))(hd:(x==("__debug__" : Str))=false:=by decide)
  (hcd:(x==("__classdict__" : Str))=false:=by decide)
  (hpg:∀{to ti:TE},PE X (.Subscript (.Name x px) a pp) to->PE X b ti->PG X (.Subscript (.Subscript (.Name x px) a pp) b p2) (Z7z to ti Zyw):=by intro _ _ A B;exact Zwk A B set_list)
  (hs:swapsWithSole [.Subscript (.Subscript (.Name x px) a pp) b p2] e pos.line X.env=pure false:=by rfl) (hw:swappedStores [.Subscript (.Subscript (.Name x px) a pp) b p2] e X.env=pure none:=by rfl)
  (h1:(JC [.Subscript (.Subscript (.Name x px) a pp) b p2] X.env).map (·.2)=[Ud (.Subscript (.Subscript (.Name x px) a pp) b p2) X.env]:=by rfl) :
  MS X io (.Assign [.Subscript (.Subscript (.Name x px) a pp) b p2] e pos) (Z11 i m mi mj):=by
 obtain⟨_,A,s⟩:=he
 obtain⟨_,B,sj⟩:=hj
 obtain⟨_,B2,sk⟩:=hk
 refine⟨_,Zwy A (hpg (Z4y (Zwf rfl) (pv i hN hv hd hcd) B hPa) B2) hs hw h1,λC H σ δ fp ex D D' R h E=>?_⟩
 refine s C H σ δ fp ex _ _ R h λH1 v r δ1 fp1 new r1 h1=>?_
 have R1:=r1.base
 have q:=(r1.da R).wide (L':=Lf C fp1 ex) λa l _=>l rfl
 split at h1
 case h_2=>exact h1.elim
 rename_i ts hi
 obtain⟨a',_,_,hv0,_⟩:=R1.ownNd hi
 refine⟨_,hv0,?_⟩
 refine sj.pureAfter R1 h1 λH2 w n R2 s2 q2 h2=>?_
 obtain⟨k,rfl,h2⟩:=q2.intInv h2
 split at h2
 case h_2=>exact h2.elim
 rename_i j hj
 split at h2
 case h_2=>exact h2.elim
 rename_i us hus
 -- the row
 obtain⟨a2,xs2,bs2,hv2,hx2,o2,hf2⟩:=R2.ownNd hi
 rw[hv0]at hv2
 cases hv2
 obtain⟨xr,cr,hxr,orow,_⟩:=o2.get hus
 obtain⟨b',rfl⟩:∃b',xr=V.ref b':=by
  cases orow with
  | nd h r=>exact⟨_,rfl⟩
 refine⟨a',xs2,k,V.ref b',rfl,rfl,.inl (.inl hx2),?_,?_⟩
 ·unfold atI
  rw[o2.length,hj]
  exact hxr
 refine sk.pureAfter R2 h2 λH3 w' n' R3 s3 q3 h3=>?_
 obtain⟨k',rfl,h3⟩:=q3.intInv h3
 split at h3
 case h_2=>exact h3.elim
 rename_i j' hj'
 obtain⟨a3,xs3,bs3,hv3,hx3,o3,hf3⟩:=R3.ownNd hi
 rw[hv0]at hv3
 cases hv3
 have exs:xs3=xs2:=by
  have:=s3 _ _ hx2
  rw[hx3]at this
  cases this;rfl
 subst exs
 obtain⟨xr3,cr3,hxr3,orow3,hsub3⟩:=o3.get hus
 rw[hxr]at hxr3
 cases hxr3
 have nd3:=R3.nd i
 rw[hf3]at nd3
 have hn3:=QT.mp nd3
 cases orow3 with
 | nd hb r3=>
  rename_i ws3 bs4
  have hbm:b'∈bs3:=hsub3.subset (.head _)
  have hbf:b'∈fp1 i:=by rw[hf3];exact .tail _ hbm
  have hLb:¬Lf C fp1 ex b':=λl=>l.1 ⟨i,hbf⟩
  obtain⟨as',oo,ss,_⟩:=Owns.deep (ws':=ws3.set j' v) (us':=us.set j' (.fz r.data)) hb hLb (λcs hcs=>Owns.set (.fz ((q.same s2).same s3)) j' hcs) o3 hn3.2 hxr hus
  refine⟨b',ws3,k',j',rfl,rfl,hb,by rw[r3.length];exact hj',?_⟩
  have hba:a'≠b':=λz=>hn3.1 (z▸hbm)
  -- the change
  have sub:∀a,a∈a' :: as'->a∈fp1 i:=λa m=>by
   rw[hf3]
   rcases Xw.mp m with rfl|m
   ·exact .head _
   ·exact .tail _ (ss.subset m)
  have kp:∀b o,H3 b=some o->b≠b'->upd H3 b' (.lst (ws3.set j' v)) b=some o:=λb o e n=>by rw[Z9 n];exact e
  have lw:∀a,Lf C fp1 ex a->upd H3 b' (.lst (ws3.set j' v)) a≠none->Lf C (fpu fp1 i (a' :: as')) (exu ex []) a:=λa l _=>⟨λz=>by
   rcases z.of_u with z|⟨j,_,z⟩
   ·exact l.1 ⟨i,sub a z⟩
   ·exact l.1 ⟨j,z⟩,λz=>l.2.1 (Zdz.mp z),l.2.2⟩
  obtain⟨R4,S4⟩:=R3.change (new:=[]) (as':=a' :: as') (t':=.nd (ts.set j (.nd (us.set j' (.fz r.data))))) (H':=upd H3 b' (.lst (ws3.set j' v))) hi hv0 (λb o e nb=>kp b o e λz=>nb (by rw[z];exact hbf)) (λb e=>by
    by_cases q:b=b'
    ·subst q;rw[Yo]at e;cases e
    ·rwa[Z9 q]at e) (.nd (by rw[Z9 hba];exact hx3) (oo.wide lw)) (QT.mpr ⟨λm=>hn3.1 (ss.subset m),hn3.2.sublist ss⟩) (λa m=>.inl (sub a m)) (λa m=>nomatch m)
  have k23:Kp H1 fp1 H3 fp1:=⟨λb o e _=>s3 _ _ (s2 _ _ e),λz=>(nomatch z),λa z=>.inl z,λb e=>s2.al b (s3.al b e)⟩
  exact E.nx _ σ _ _ (R4.drop λa z=>.inl z) (r1.stp.kp.trans (k23.trans S4.kp)) h3
end
variable {G:Xb}
mutual
noncomputable def Zy7:OT->Bool
 | .fz d=>Zca d
 | .nd ts=>Zry ts
 | .tp ts=>Zry ts
 | .dc _ _ _=>false
noncomputable def Zry:List OT->Bool
 | []=>true
 | t :: ts=>Zy7 t&&Zry ts
end
section
variable {X:Cx}{io:List Nat}{p c:Bool}{e:Expr}{m:MEt}
theorem Rel.freeze{C:MC G}{H:Hp}{σ:St}{δ:Zm}{fp:Fp}{ex:Addr->Prop}{i:Nat}{t:OT}(R:Rel C io H σ δ fp ex)(hio:i∉io)(hi:δ[i]? =some (some t)):Rel C io H σ (δ.set i (some (.fz t.data))) (fpu fp i []) ex:=by
 have hil:i<δ.length:=(Xm.mp hi).1
 have sub:∀j a,a∈fpu fp i [] j->j≠i∧a∈fp j:=λj a m=>by
  by_cases ej:j=i
  ·subst ej;rw[Yp]at m;exact nomatch m
  ·rw[Wl ej]at m;exact⟨ej,m⟩
 have lw:∀a,Lf C fp ex a->Lf C (fpu fp i []) ex a:=λa l=>⟨λ⟨j,z⟩=>l.1 ⟨j,(sub j a z).2⟩,l.2.1,l.2.2⟩
 have ln:∀a∈fp i,Lf C (fpu fp i []) ex a:=λa m=>⟨λ⟨j,z⟩=>(sub j a z).1 (R.dj j i a (sub j a z).2 m),R.dx i a m,.inr (by
  rcases R.new i a m with z|z
  ·exact absurd z.1 hio
  ·exact z)⟩
 refine⟨by rw[JP];exact R.len,λj t' e=>?_,λj h=>?_,λj=>?_,λj k a h1 h2=>R.dj j k a (sub j a h1).2 (sub k a h2).2,λj a h z=>R.dx j a (sub j a h).2 z,R.xa,R.fr,R.al,λj a h=>R.new j a (sub j a h).2,R.io⟩
 ·by_cases ej:j=i
  ·subst ej
   rw[QL hil]at e
   cases e
   obtain⟨v,e1,o⟩:=R.own j t hi
   exact⟨v,e1,by rw[Yp];exact .fz (o.da (λa l _=>lw a l) ln)⟩
  ·rw[Qq (Vc ej)]at e
   obtain⟨w,e1,o⟩:=R.own j t' e
   exact⟨w,e1,by rw[Wl ej];exact o.wide λa l _=>lw a l⟩
 ·by_cases ej:j=i
  ·subst ej;rw[Yp]
  ·rw[Wl ej]
   exact R.emp j λt' z=>h t' (by rw[Qq (Vc ej)];exact z)
 ·by_cases ej:j=i
  ·subst ej;rw[Yp];exact .nil
  ·rw[Wl ej];exact R.nd j
noncomputable def Zkx(i:Nat)(u:MSt):MSt:=λD δ=>match δ[i]? with|some (some t)=>u D (δ.set i (some (.fz t.data)))|_=>False
theorem Zih{st:Stmt}{u:MSt}(i:Nat)(h:MS X io st u)(hio:i∉io:=by decide):MS X io st (Zkx i u):=by
 obtain⟨_,A,s⟩:=h
 exact⟨_,A,λC H σ δ fp ex D D' R h E=>by
  unfold Zkx at h
  split at h
  case h_2=>exact h.elim
  rename_i t hi
  refine s C H σ _ _ ex D D' (R.freeze hio hi) h (E.shift ⟨λb o e _=>e,λz=>(nomatch z),λa z=>?_,λb e=>e⟩)
  rcases z.of_u with z|⟨j,_,z⟩
  ·exact nomatch z
  ·exact .inl ⟨j,z⟩⟩
end
variable {G:Xb}
noncomputable def Z33(ds:List Xa)(k:OT->Prop):Prop:=∃ns:List Int,ds=[.list (ns.map Xk)]∧ns.length≤63∧k (.fz (.bool true))
theorem Z2f{H:Hp}{a:Addr}{ns:List Int}{E:XK}(hl:ns.length≤63)(h:SqL G H a (ns.map V.int)):spD G Z33 [.ref a] H (λv _=>v= .bl true) E:=by
 refine⟨λ_=>True,[.list (ns.map Xk)],λr=>r= .fz (.bool true),.cons ?_ .nil,⟨ns,rfl,hl,rfl⟩,λr v H' new kr s o _ _=>?_⟩
 ·rcases h with h|h
  ·exact .lst trivial h (.ints ns)
  ·exact .scr h
 ·subst kr
  cases o with
  | fz q=>cases q;rfl
section
variable {P:XM}{w:Qo}{mg:Str->Option Xc}{base:Heap}{CX:CXT}{n:Nat}{f:Addr}{fd:Xv}{ps:List Str}
noncomputable def plT(a b c:Int):OT:=.nd [.fz (.int a),.fz (.int b),.fz (.int c)]
noncomputable def PlT(t:OT)(n:Nat):Prop:=∃a b c:Int,t=plT a b c∧0≤c∧c≤n
theorem PlT.mono{t:OT}{m n:Nat}(h:PlT t m)(k:m≤n):PlT t n:=by
 obtain⟨a,b,c,e,h1,h2⟩:=h
 exact⟨a,b,c,e,h1,by omega⟩
theorem Pl.own{H:Hp}{L:Addr->Prop}{p:Addr}{n:Nat}(h:Pl H p n):∃t,PlT t n∧Own G H L (.ref p) t [p]:=by
 obtain⟨a,b,c,e,h1,h2⟩:=h
 exact⟨plT a b c,⟨a,b,c,rfl,h1,h2⟩,.nd e (.cons (.fz (.int a)) (.cons (.fz (.int b)) (.cons (.fz (.int c)) .nil)))⟩
theorem Da.ints_sq{H:Hp}{L:Addr->Prop}{v:V}{ns:List Int}(h:Da G H L v (.list (ns.map Xk))):∃a,v= .ref a∧SqL G H a (ns.map V.int):=by
 generalize e:JW (ns.map Xk)=d at h
 cases h with
 | lst l e1 r=>
  cases e
  rw[r.int_inv]at e1
  exact⟨_,rfl,.inl e1⟩
 | scr k=>
  rename_i a ms
  have e':=PyData.list.inj e
  have:ns=ms:=(List.map_inj_right (λ_ _ h=>by cases h;rfl)).mp e'
  subst this
  exact⟨_,rfl,k.sq⟩
 | _=>cases e
end
@[simp] theorem Zi4:OT.datas []=[]:=rfl
@[simp] theorem Zgz(t:OT)(ts:List OT):OT.datas (t :: ts)=t.data :: OT.datas ts:=rfl
theorem Zms{α:Type}{xs:List α}{i:Int}(h0:0≤i):atI xs i=xs[i.toNat]?:=by
 unfold atI ixN
 rw[if_pos h0]
 split
 ·rfl
 ·rename_i h
  symm
  exact Qt.mpr (by omega)
theorem Zd5{α:Type}{xs:List α}{i:Nat}:atI xs (i:Int)=xs[i]?:=by
 rw[Zms (by omega),Qn]
@[simp] theorem Yda{α:Type}(x:α)(xs:List α):atI (x :: xs) 0=some x:=by
 rw[Zms (by decide)];rfl
@[simp] theorem Yce{α:Type}(x y:α)(xs:List α):atI (x :: y :: xs) 1=some y:=by
 rw[Zms (by decide)];rfl
@[simp] theorem Yc6{α:Type}(x y z:α)(xs:List α):atI (x :: y :: z :: xs) 2=some z:=by
 rw[Zms (by decide)];rfl
@[simp] theorem Z6w(ds:List Xa)(i:Int):ixD (.list ds) (.int i)=atI ds i:=rfl
@[simp] theorem Z70(ds:List Xa)(i:Int):ixD (.tuple ds) (.int i)=atI ds i:=rfl
@[simp] theorem Z5s(ds:List Xa):Zun (.list ds)=some ds.length:=rfl
@[simp] theorem Z6v(ds:List Xa):Zun (.tuple ds)=some ds.length:=rfl
noncomputable def Yx(r:List Rat):Xa:=.list (r.map frD)
noncomputable def tbD(T:List (List Rat)):Xa:=.list (T.map Yx)
noncomputable def Z72(r:List Rat):OT:=.nd (r.map λq=>.fz (frD q))
noncomputable def tbT(T:List (List Rat)):OT:=.nd (T.map Z72)
@[simp] theorem Zs6(r:List Rat):(Z72 r).data=Yx r:=by
 unfold Z72 Yx
 rw[OT.data_nd,Qh]
 rfl
@[simp] theorem Z6e(T:List (List Rat)):(tbT T).data=tbD T:=by
 unfold tbT tbD
 rw[OT.data_nd,Qh]
 exact congrArg JW (X8 λr _=>Zs6 r)
noncomputable def dd(T:List (List Rat))(i j:Nat):Rat:=(T.getD i []).getD j 0
@[simp] theorem Z82(T:List (List Rat)):Zun (tbD T)=some T.length:=by unfold tbD Zun;simp
@[simp] theorem Z6o(r:List Rat):Zun (Yx r)=some r.length:=by unfold Yx Zun;simp
@[simp] theorem Z8j(q:Rat):Zca (frD q)=true:=by unfold frD fr;simp[Zca,Zmf]
theorem Zw1{n a:Nat}(h:a<n):ixN n (a:Int)=some a:=by
 unfold ixN
 rw[if_pos (by omega),if_pos (by omega)];simp
theorem Zlr{d:Xa}(h:Yr d=true):Qy d d=true:=Zta h h rfl
structure Sh(n:Nat)(d:Xa):Prop where
 lay:JX d=true
 dep:PyData.depth d≤n
theorem Sh.shp{n:Nat}{d:Xa}(h:Sh n d)(hn:n≤64:=by decide):Z5t d:=⟨by
 show(JX d&&decide (PyData.depth d≤64))=true
 rw[h.lay,decide_eq_true (QM h.dep hn)];rfl⟩
theorem Sh.mono{m n:Nat}{d:Xa}(h:Sh m d)(k:m≤n):Sh n d:=⟨h.lay,QM h.dep k⟩
theorem Zmk{n:Nat}:∀{ds:List Xa},(∀d∈ds,Sh n d)->JH ds=true∧V4 ds≤n
 | [],_=>⟨by rw[JH],by rw[V4];exact Q6 _⟩
 | d :: ds,h=>by
  obtain⟨h1,h2⟩:=Zmk λe m=>h e (.tail _ m)
  have h3:=h d (.head _)
  refine⟨by rw[JH,h3.lay,h1];rfl,?_⟩
  rw[V4]
  exact Nat.max_le.mpr ⟨h3.dep,h2⟩
theorem Zii{n:Nat}{ds:List Xa}(h:∀d∈ds,Sh n d):Sh (n+1) (.list ds) :=
 ⟨by rw[JX];exact(Zmk h).1,by rw[PyData.depth];exact Nat.succ_le_succ (Zmk h).2⟩
theorem Zo5{n:Nat}{ds:List Xa}(h:∀d∈ds,Sh n d):Sh (n+1) (.tuple ds) :=
 ⟨by rw[JX];exact(Zmk h).1,by rw[PyData.depth];exact Nat.succ_le_succ (Zmk h).2⟩
theorem Zpj(i:Int):Sh 0 (.int i):=⟨rfl,Nat.le_of_eq rfl⟩
theorem Z1s(q:Rat):Sh 1 (frD q):=Zo5 λd m=>by
 simp at m
 rcases m with rfl|rfl<;>exact Zpj _
theorem Zxa(r:List Rat):Sh 2 (Yx r):=Zii λd m=>by
 obtain⟨q,_,rfl⟩:=XQ.mp m
 exact Z1s q
section
variable {X:Cx}{pins:List (Addr×Obj)}{σ:St}{H:Hp}{s:Xd}
theorem Inv.turnTup{h':Heap}{ch:List Addr}{T:Addr}{xs:List V}{its:List Xc}(I:Inv X pins σ H s)(f:∀b∈ch,Zk1 X pins H b)(k:∀b o,b∉ch->s.heap.get? b=some o->h'.get? b=some o)
  (th:∀b∈ch,∃o,h'.get? b=some o) (hT:s.heap.objs.size≤T) (hz:xs.length≤Xq) (r:Vals xs its) (ht:IsTup h' T its.toArray):Inv X pins σ (upd H T (.tup xs)) { s with heap:=h' }:=by
 have hn:H T=none:=I.hok.fresh hT
 have nch:∀b u,H b=some u->b∉ch:=λb u e z=>by rw[(f b z).1]at e;cases e
 have new:ObjOk X.prog X.w (upd H T (.tup xs)) h' T (.tup xs):=⟨hz,its,r,ht⟩
 refine I.call (ch:=ch) (g':=s.gens) (d':=s.drawn) (t':=s.toks) ⟨λb o e _ _ hc=>k b o hc e,λb o e _ _ hc=>⟨o.slots,k b o hc e⟩,λb o e n _=>?_,λb o e hc=>?_,λb ys e=>?_,λb o u e=>?_,λb ps e=>?_⟩ (λb u e=>?_) I.bare (λb hb=>?_)
 ·rw[Z9 (λz=>by rw[z]at e;exact absurd (Xz e) (Nat.not_lt.mpr hT))];exact n
 ·exact⟨o,k b o hc e⟩
 ·rw[Z9 (Wc e hn)];exact e
 ·rw[Z9 (Wc e hn)];exact e
 ·exact⟨#[],by rw[Z9 (Wc e hn),e];simp⟩
 ·by_cases hb:b=T
  ·subst hb;rw[Yo]at e;cases e;exact new
  ·rw[Z9 hb]at e
   refine(I.hok b u e).stay (λc v hc q=>k c v ?_ q) (λc q=>by rw[Z9 (Wc q hn)];exact q) λc ys q=>by rw[Z9 (Wc q hn)];exact q
   rcases hc with rfl|hc
   ·exact nch _ _ e
   ·exact nch _ _ hc
 ·obtain⟨f0,f1,f2,f3,f4,f5⟩:=f b hb
  exact⟨f3,f1,f4,f5⟩
theorem Inv.turnAll{h':Heap}{ch:List Addr}(I:Inv X pins σ H s)(f:∀b∈ch,Zk1 X pins H b)(k:∀b o,b∉ch->s.heap.get? b=some o->h'.get? b=some o):Inv X pins σ H { s with heap:=h' }:=by
 have nch:∀b u,H b=some u->b∉ch:=λb u e z=>by rw[(f b z).1]at e;cases e
 refine I.call (ch:=ch) (g':=s.gens) (d':=s.drawn) (t':=s.toks) ⟨λb o e _ _ hc=>k b o hc e,λb o e _ _ hc=>⟨o.slots,k b o hc e⟩,λb o e n _=>n,λb o e hc=>⟨o,k b o hc e⟩,λb ys e=>e,λb o u e=>e,λb ps e=>⟨#[],by rw[e];simp⟩⟩ (λb u e=>?_) I.bare (λb hb=>?_)
 ·refine(I.hok b u e).stay (λc v hc q=>k c v ?_ q) (λc q=>q) λc ys q=>q
  rcases hc with rfl|hc
  ·exact nch _ _ e
  ·exact nch _ _ hc
 ·obtain⟨f0,f1,f2,f3,f4,f5⟩:=f b hb
  exact⟨f3,f1,f4,f5⟩
end
variable {G:Xb}
section
variable {X:Cx}{io:List Nat}{p c:Bool}{e a b tg:Expr}{m:MEt}{mr:MAt}
theorem Rel.keptList{C:MC G}{H:Hp}{σ:St}{δ:Zm}{fp:Fp}{ex:Addr->Prop}{v:V}{ds:List Xa}(R:Rel C io H σ δ fp ex)(q:Da G H (λa=>c=true->Lf C fp ex a) v (.list ds)) :
  ∃a xs,v= .ref a∧∀H':Hp,(∀b o,H b=some o->(c=false∨¬Foot fp b)->H' b=some o)->SqL G H' a xs∧Das G H' (λa=>c=true->(Lf C fp ex a∧H a≠none)) xs ds:=by
 generalize hd:JW ds=d at q
 cases q with
 | lst l e r=>
  cases hd
  rename_i a0 xs0
  refine⟨a0,xs0,rfl,λH' kp=>?_⟩
  obtain⟨f1,f2⟩:=R.kept kp
  exact⟨.inl (f1 _ (.lst _) l e).2,r.frame f1 f2⟩
 | scr k=>
  rename_i a ns
  have:=PyData.list.inj hd
  subst this
  exact⟨a,_,rfl,λH' _=>⟨k.sq,.ints ns⟩⟩
 | _=>cases hd
noncomputable def Zo6(as bs:List Xa):List Xa:=(as.zip bs).map λx=>.tuple [x.1,x.2]
theorem Zuj{as bs:List Xa}{i:Nat}{d:Xa}(h:(Zo6 as bs)[i]? =some d):∃x y,as[i]? =some x∧bs[i]? =some y∧d= .tuple [x,y]:=by
 unfold Zo6 at h
 rw[Xl]at h
 cases e:(as.zip bs)[i]? with
 | none=>rw[e]at h;cases h
 | some z=>
  rw[e]at h
  cases h
  obtain⟨h1,h2⟩:=UT.mp e
  exact⟨z.1,z.2,h1,h2,rfl⟩
theorem Zrm{as bs:List Xa}{i:Nat}(h:(Zo6 as bs)[i]? =none):as.length≤i∨bs.length≤i:=by
 unfold Zo6 at h
 have:=Qt.mp h
 simp at this
 omega
@[simp] theorem Zzi(as bs:List Xa):(Zo6 as bs).length=min as.length bs.length:=by simp[Zo6]
end
variable {G:Xb}
section
variable {X:Cx}{io:List Nat}{c1 c2 c3:Bool}{a b e:Expr}{ma mb mc:MEt}{pos:Pos}{f g:Int->Int->Bool}
end
theorem Zkf:∀{ns:List Int} {its:List Xc},Vals (ns.map V.int) its->∃xs:List (Int×Tok),its=xs.map (λp=>Value.int p.1 p.2)∧xs.map (·.1)=ns
 | [],_,.nil=>⟨[],rfl,rfl⟩
 | n :: ns,_,.cons r rs=>by
  obtain⟨t,e⟩:=(show∃t,_=Value.int n t from r)
  obtain⟨xs,h1,h2⟩:=Zkf rs
  exact⟨(n,t) :: xs,by rw[e,h1];rfl,by rw[Qs,h2]⟩
noncomputable def Yau(K:Xb):List V->Hp->VK->Prop:=λxs H Q=>∃(a:Addr) (ns:List Int),xs=[.ref a]∧SqL K H a (ns.map V.int)∧Q (.int ns.sum) H
theorem Zff{X:Cx}{K:Xb}(hK:X.K=K)(hc:X.calm=true):Zcl X (.builtin "sum") (Yau K):=by
 subst hK
 intro pins s σ H xs us Q I r h
 obtain⟨a,ns,rfl,hs,q⟩:=h
 obtain⟨u,rfl,ru⟩:=vals1 r
 cases(show u=Q4 a from ru)
 obtain⟨its,rv,pl,hz⟩:=I.list hs
 obtain⟨ps,rfl,e2⟩:=Zkf rv
 refine sum_intListG (xs:=ps.toArray) (I.ok.hd hc) (by simpa [intItems]using pl.isList) λh' tk t' hk=>?_
 refine⟨.int ns.sum,H,I.kept (t':=tk) hk,⟨t',?_⟩,q⟩
 congr 1
 rw[preSum_eq,List.take_of_length_le (by simp)]
 show(ps.map (·.1)).sum=ns.sum
 rw[e2]
noncomputable def Z9y:List Xa->(Xa->Prop)->Prop:=λds k=>n1 (λd=>∃ns:List Int,d= .list (ns.map Xk)∧k (.int ns.sum)) ds
theorem Zoq:PNs G (Yau G) Z9y:=λH L xs ds k Q hx h kk=>by
 obtain⟨v,d,rfl,rfl,q,ns,e,h'⟩:=hx.one h
 subst e
 obtain⟨a,rfl,hs⟩:=q.ints_sq
 exact⟨a,ns,rfl,hs,kk _ _ (.int _) h'⟩
section
variable {X:Cx}{io:List Nat}{p c:Bool}{a b e:Expr}{ma mb m:MEt}{pos pl:Pos}
noncomputable def Yaw(m mb:MEt):MEt:=λδ K=>m δ λr δ1=>mb δ1 λn _=>asI n.data λk=>(-(2^63)≤k∧k<2^63∧k.toNat≤Xq)∧K (.nd (X4 k.toNat (.fz r.data))) δ1
theorem Zop{α:Type}(x:α):∀n:Nat,(X4 n [x]).flatten=X4 n x
 | 0=>rfl
 | n+1=>by rw[BV,VD,Zop x n];rfl
theorem Das.rep{H:Hp}{L:Addr->Prop}{v:V}{d:Xa}(h:Da G H L v d):∀n:Nat,Das G H L (X4 n v) (X4 n d)
 | 0=>.nil
 | n+1=>.cons h (Das.rep h n)
theorem Z2n(ha:ME X io p true a m)(hb:ME X io true c b mb)(hs:Xr [a] X.env=(false,eval a X.env) :: Xr [] X.env:=by rfl):ME X io p true (.BinOp (.List [a] pl) .Mult b pos) (Yaw m mb):=by
 obtain⟨_,A,sa⟩:=ha
 obtain⟨_,B,sb⟩:=hb
 refine⟨_,Zx8 Z3m (Zw0 (Zjb A Zpm hs)) B,λC H σ δ fp ex K Q R h k=>?_⟩
 refine sa C H σ δ fp ex _ _ R h λH1 v r δ1 fp1 new r1 h1=>⟨(by show 1≤Xq;decide),λl hl=>?_⟩
 have R1:=r1.base
 have s1:=Yu hl (.lst [v])
 refine sb.pureAfter (R1.mk0 s1) h1 λH2 w n R2 s2 q2 h2=>?_
 obtain⟨i,rfl,h2⟩:=q2.intInv h2
 have q:=(((r1.da R).wide (L':=Lf C fp1 ex) λa l _=>l rfl).same s1).same s2
 refine⟨l,i,[v],rfl,rfl,s2 _ _ Yo,h2.1.1,h2.1.2.1,by show 1*i.toNat≤Xq;rw[Nat.one_mul];exact h2.1.2.2,λt ht=>?_⟩
 rw[Zop]
 have S:Stp p H δ fp H2 δ1 fp1:=by
  have:=r1.stp.trans (p':=true) (Stp.same (p:=true) (δ:=δ1) (fp:=fp1) (s1.trans s2) (s1.trans s2).al)
  rwa[Bool.and_true]at this
 refine k _ _ _ δ1 fp1 [t] (RE.tree R R2 S (Yu ht _) (Zd6 ht) (Zhi t) ?_) h2.2
 have:=Own.list ht ((Das.rep q i.toNat).wide (L':=λa=>true=true->Lf C fp1 ex a) λa l _ _=>l)
 rwa[List.map_replicate]at this
end
structure Apart(X:Cx)(pins:List (Addr×Obj))(H:Hp)(b:Addr):Prop where
 fr:H b=none
 new:X.s₀.heap.get? b=none
 loc:b≠X.env.locals
 cel:∀x c,X.env.cells.lookup x=some c->c≠b
 pin:∀p∈X.pn ++ pins,p.1≠b
section
variable {X:Cx}{pins:List (Addr×Obj)}{σ:St}{H H':Hp}{s:Xd}{h':Heap}{b a C:Addr}
noncomputable def Fl(ap:Addr->Prop)(C a:Addr)(fl:Xc)(h:Heap):Prop:=∃a0 oe vs T oT ts,h.get? a=some oe∧(oe.cls= .ref C∧vs[0]? =some a0)∧oe.data= .fields vs∧vs[1]? =some (.ref T)∧T≠a∧h.get? T=some oT∧oT.data= .fields ts∧ts[3]? =some fl∧ap a∧ap T
noncomputable def Fl0(ap:Addr->Prop)(C a:Addr)(h:Heap):Prop:=∃a0 oe vs,h.get? a=some oe∧(oe.cls= .ref C∧vs[0]? =some a0)∧oe.data= .fields vs∧vs[1]? =some .none∧ap a
noncomputable def FlA(ap:Addr->Prop)(fl:Xc)(C a:Addr)(h:Heap):Prop:=Fl ap C a .none h∨Fl0 ap C a h∨Fl ap C a fl h
theorem Fl.imp{ap ap':Addr->Prop}{fl:Xc}{h:Heap}(f:∀b,ap b->ap' b)(x:Fl ap C a fl h):Fl ap' C a fl h:=by
 obtain⟨a0,oe,vs,T,oT,ts,h1,h2,h3,h4,h5,h6,h7,h8,h9,h10⟩:=x
 exact⟨a0,oe,vs,T,oT,ts,h1,h2,h3,h4,h5,h6,h7,h8,f _ h9,f _ h10⟩
section
variable {M:Model}{A:Ql}{E:Xc->Xd->Prop}{Q:Unit->Xd->Prop}{ch:List Addr}
end
end
noncomputable def Z59(K:Xb)(C:Addr):Prop:=PySem.W.excIn K C [.type "ValueError",.type "Exception",.type "BaseException",.type "object"] "ValueError.__new__"=true
noncomputable abbrev MXt:=Zm->(Addr->Zm->Prop)->Prop
noncomputable def XW(X:Cx)(C:MC X.K)(io:List Nat)(pins:List (Addr×Obj))(ex:Addr->Prop)(H:Hp)(fp:Fp)(k:Addr->Zm->Prop)(e:Xc)(s':Xd):Prop :=
 ∃a cl σ' H' δ' fp',e= .ref a∧Inv X pins σ' H' s'∧FlA (Apart X pins H') (rawInt X.env.locals) cl a s'.heap∧Rel C io H' σ' δ' fp' ex∧Kp H fp H' fp'∧k cl δ'
noncomputable def XS(X:Cx)(io:List Nat)(st:Stmt)(m:MXt):Prop:=∀(C:MC X.K) (pins:List (Addr×Obj)) (s:Xd) (σ:St) (H:Hp) (δ:Zm) (fp:Fp) (ex:Addr->Prop) (k:Addr->Zm->Prop),Inv X pins σ H s->Rel C io H σ δ fp ex->m δ k ->
 XN (X7 X.prog X.w) X.A (exec st X.env) (λ_ _=>False) (XW X C io pins ex H fp k) s
noncomputable def XSs(X:Cx)(io:List Nat)(sts:List Stmt)(m:MXt):Prop:=∀(C:MC X.K) (pins:List (Addr×Obj)) (s:Xd) (σ:St) (H:Hp) (δ:Zm) (fp:Fp) (ex:Addr->Prop) (k:Addr->Zm->Prop),Inv X pins σ H s->Rel C io H σ δ fp ex->m δ k ->
 XN (X7 X.prog X.w) X.A (execs sts X.env) (λ_ _=>False) (XW X C io pins ex H fp k) s
section
variable {X:Cx}{io:List Nat}{p c:Bool}{e:Expr}{es:List Expr}{mr:MAt}{m:MXt}{pos:Pos}{st:Stmt}{sts a b:List Stmt}{u:MSt}{w v:MXt}{mt:MTt}{i:Nat}{x:Str}
end
section
variable {P:XM}{w:Qo}{K:Xb}{mg:Str->Option Xc}{base:Heap}
end
section
variable {X:Cx}{io:List Nat}{p c:Bool}{e:Expr}{es:List Expr}{mr:MAt}{pos pp:Pos}{k:Nat}{f:Addr}{fd:Xv}{ps:List Str}{x:Str}
end
section
variable {X:Cx}{pins:List (Addr×Obj)}{σ:St}{H:Hp}{s:Xd}{a C:Addr}
noncomputable abbrev Cx.suite(X:Cx)(a:Addr):Cx:={ X with A:=X.A.mark (some (.ref a)),calm:=false }
end
theorem Zwv(b:Bool)(k:Bool->Prop):asB (.bool b) k=k b:=rfl
inductive ClsV:V->Xc->Prop where
 | own (D:Addr):ClsV (.ref D) (.ref D)
 | ty (T:String):ClsV (.ty T) (.type T)
theorem ClsV.val{v:V}{c u:Xc}(h:ClsV v c)(r:RelV v u):u=c:=by
 cases h with
 | own D=>exact r
 | ty T=>exact r
inductive ClsVs:List V->List Xc->Prop where
 | nil:ClsVs [] []
 | cons {v:V} {c:Xc} {vs:List V} {cs:List Xc}:ClsV v c->ClsVs vs cs->ClsVs (v :: vs) (c :: cs)
theorem ClsVs.length:∀{vs:List V} {cs:List Xc},ClsVs vs cs->vs.length=cs.length
 | _,_,.nil=>rfl
 | _,_,.cons _ t=>by simp[t.length]
section
variable {X:Cx}{io:List Nat}{p c:Bool}{a b:Expr}{ma:MEt}{pos pp p2:Pos}
end
end L2
namespace L2
open PySem PySem.Spec PyProof.Rows PySem.P
section
variable {prog:XM}{w:Qo}{A:Ql}{E:Xc->Xd->Prop}{s:Xd}{e t0 C:Addr}{o:Obj}{vs:Array Xc}{K:Xb}{m:Str}{tk:Tok}
structure Yb6(s:Xd)(e C t0:Addr)(m:Str)(tk:Tok):Prop where
 ob:∃o vs,s.heap.get? e=some o∧o.cls= .ref C∧o.data= .fields vs∧vs[0]? =some (.ref t0)
 tx:s.heap.TupAt t0 [.str m tk]
end
section
variable {X:Cx}{C:Addr}{x j:Str}{jk:Nat}{np cpos pos kp p1:Pos}
end
end L2
namespace L2
open PySem PySem.Spec PyProof.Rows
noncomputable abbrev FE:=Zm->Option (OT×Zm)
noncomputable abbrev FA:=Zm->Option (List OT×Zm)
noncomputable abbrev FT:=Zm->Option (Bool×Zm)
noncomputable abbrev FI:=Zm->Option (List Xa×Zm)
noncomputable abbrev FO:=Zm->Option (Option Int×Zm)
noncomputable abbrev FG:=Xa->Zm->Option Zm
noncomputable abbrev FGs:=List Xa->Zm->Option Zm
noncomputable def o2{α:Type}(f:Zm->Option (α×Zm)):Zm->(α->Zm->Prop)->Prop:=λδ K=>∃r δ',f δ=some (r,δ')∧K r δ'
noncomputable def oG(g:FG):MGt:=λd δ k=>∃δ',g d δ=some δ'∧k δ'
noncomputable def oGs(g:FGs):Ztv:=λd δ k=>∃δ',g d δ=some δ'∧k δ'
section
variable {X:Cx}{io:List Nat}{p c:Bool}{e tg:Expr}{es:List Expr}{m m':MEt}{mr mr':MAt}{mt mt':MTt}{mi mi':MIt}{g g':MGt}{gs gs':Ztv}{mo mo':MOt}{st:Stmt}{sts:List Stmt}{u u':MSt}{eo:Option Expr}
theorem ME.weak(h:ME X io p c e m)(w:∀δ K,m' δ K->m δ K):ME X io p c e m':=let⟨t,A,s⟩:=h;⟨t,A,λC H σ δ fp ex K Q R h k=>s C H σ δ fp ex K Q R (w δ K h) k⟩
theorem MA.weak(h:MA X io p c es mr)(w:∀δ K,mr' δ K->mr δ K):MA X io p c es mr':=let⟨t,A,s⟩:=h;⟨t,A,λC H σ δ fp ex K Q R h k=>s C H σ δ fp ex K Q R (w δ K h) k⟩
theorem MT.weak(h:MT X io p e mt)(w:∀δ K,mt' δ K->mt δ K):MT X io p e mt':=let⟨t,A,s⟩:=h;⟨t,A,λC H σ δ fp ex K Q R h k=>s C H σ δ fp ex K Q R (w δ K h) k⟩
theorem MW.weak(h:MW X io p e mt)(w:∀δ K,mt' δ K->mt δ K):MW X io p e mt':=let⟨t,A,s⟩:=h;⟨t,A,λC H σ δ fp ex K Q R h k=>s C H σ δ fp ex K Q R (w δ K h) k⟩
theorem MIfs.weak(h:MIfs X io p es mt)(w:∀δ K,mt' δ K->mt δ K):MIfs X io p es mt':=let⟨t,A,s⟩:=h;⟨t,A,λC H σ δ fp ex K Q R h k=>s C H σ δ fp ex K Q R (w δ K h) k⟩
theorem MI.weak(h:MI X io p c tg e mi)(w:∀δ K,mi' δ K->mi δ K):MI X io p c tg e mi':=let⟨t,A,s⟩:=h;⟨t,A,λC H σ δ fp ex K Q R h k=>s C H σ δ fp ex K Q R (w δ K h) k⟩
theorem MO.weak(h:MO X io p eo mo)(w:∀δ K,mo' δ K->mo δ K):MO X io p eo mo':=let⟨t,A,s⟩:=h;⟨t,A,λC H σ δ fp ex K Q R h k=>s C H σ δ fp ex K Q R (w δ K h) k⟩
theorem MG.weak(h:MG X io c tg g)(w:∀d δ K,g' d δ K->g d δ K):MG X io c tg g':=let⟨t,A,s⟩:=h;⟨t,A,λC H σ δ fp ex v d k Q R q h kk=>s C H σ δ fp ex v d k Q R q (w d δ k h) kk⟩
theorem MGs.weak(h:MGs X io c es gs)(w:∀d δ K,gs' d δ K->gs d δ K):MGs X io c es gs':=let⟨t,A,s⟩:=h;⟨t,A,λC H σ δ fp ex v d k Q R q h kk=>s C H σ δ fp ex v d k Q R q (w d δ k h) kk⟩
theorem MS.weak(h:MS X io st u)(w:∀D δ,u' D δ->u D δ):MS X io st u':=let⟨t,A,s⟩:=h;⟨t,A,λC H σ δ fp ex D D' R h E=>s C H σ δ fp ex D D' R (w D δ h) E⟩
theorem MSs.weak(h:MSs X io sts u)(w:∀D δ,u' D δ->u D δ):MSs X io sts u':=let⟨t,A,s⟩:=h;⟨t,A,λC H σ δ fp ex D D' R h E=>s C H σ δ fp ex D D' R (w D δ h) E⟩
end
noncomputable def Ze(i:Nat):FE:=λδ=>match δ[i]? with|some (some (.fz d))=>some (.fz d,δ)|_=>none
noncomputable def Zqg(i:Nat):FE:=λδ=>match δ[i]? with|some (some t)=>some (.fz t.data,δ)|_=>none
noncomputable def fC(d:Xa):FE:=λδ=>some (.fz d,δ)
noncomputable def Zd(g:Xa->Xa->Option Xa)(a b:FE):FE:=λδ=>(a δ).bind λp=>(b p.2).bind λq=>(g p.1.data q.1.data).bind λd=>some (.fz d,q.2)
noncomputable def Zt(g:Xa->Xa->Option OT)(a b:FE):FE:=λδ=>(a δ).bind λp=>(b p.2).bind λq=>(g p.1.data q.1.data).bind λd=>some (d,q.2)
noncomputable def fUn(g:Xa->Option Xa)(a:FE):FE:=λδ=>(a δ).bind λp=>(g p.1.data).bind λd=>some (.fz d,p.2)
noncomputable def Zm8(a b:FE):FE:=λδ=>(a δ).bind λp=>match p.1.data with| .bool true=>b p.2| .bool false=>some (.fz (.bool false),p.2)|_=>none
noncomputable def fOr(a b:FE):FE:=λδ=>(a δ).bind λp=>match p.1.data with| .bool true=>some (.fz (.bool true),p.2)| .bool false=>b p.2|_=>none
noncomputable def fIf(t:FT)(a b:FE):FE:=λδ=>(t δ).bind λp=>if p.1=true then a p.2 else b p.2
noncomputable def tV(e:FE):FT:=λδ=>(e δ).bind λp=>match p.1 with| .fz (.bool b)=>some (b,p.2)|_=>none
noncomputable def tNo(t:FT):FT:=λδ=>(t δ).bind λp=>some (!p.1,p.2)
noncomputable def tAn(t u:FT):FT:=λδ=>(t δ).bind λp=>if p.1=true then u p.2 else some (false,p.2)
noncomputable def tO(t u:FT):FT:=λδ=>(t δ).bind λp=>if p.1=true then some (true,p.2)else u p.2
noncomputable def tD(e:FE):FT:=λδ=>(e δ).bind λp=>(Zuy p.1.data).bind λb=>some (b,p.2)
noncomputable def Zn:FA:=λδ=>some ([],δ)
noncomputable def Za(e:FE)(a:FA):FA:=λδ=>(e δ).bind λp=>(a p.2).bind λq=>some (p.1 :: q.1,q.2)
noncomputable def Zby(a:FA):FE:=λδ=>(a δ).bind λp=>if p.1.length≤Xq then some (.fz (.tuple (OT.datas p.1)),p.2)else none
noncomputable def Zbb(a:FA):FE:=λδ=>(a δ).bind λp=>if p.1.length≤Xq then some (.nd p.1,p.2)else none
noncomputable def Zmx(e:FE):FE:=λδ=>(e δ).bind λp=>if Zca p.1.data=true then some (.fz p.1.data,p.2)else none
noncomputable def Z35(e:FE):FE:=λδ=>(e δ).bind λp=>if Zy7 p.1=true then some (p.1,p.2)else none
inductive RF where
 | ok (r:OT)
 | exn (c:Str)
 | bad
noncomputable abbrev FD:=List Xa->RF
noncomputable abbrev FIO:=OT->List Xa->Option (OT×OT)
noncomputable def Zu(F:FD)(a:FA):FE:=λδ=>(a δ).bind λp=>match F (OT.datas p.1)with| .ok r=>some (r,p.2)|_=>none
noncomputable def Zw4(i:Nat)(F:FIO)(a:FA):FE:=λδ=>match δ[i]? with
 | some (some _)=>(a δ).bind λp=>match p.2[i]? with
  | some (some t)=>(F t (OT.datas p.1)).bind λq=>some (q.1,p.2.set i (some q.2))
  | _=>none
 | _=>none
noncomputable def Wr(g:List Xa->Option Xa)(a:FA):FE:=λδ=>(a δ).bind λp=>(g (OT.datas p.1)).bind λd=>some (.fz d,p.2)
noncomputable def fBl(g:List Xa->Option OT)(a:FA):FE:=λδ=>(a δ).bind λp=>(g (OT.datas p.1)).bind λd=>some (d,p.2)
noncomputable def Zla(T:String)(e:FE):FE:=λδ=>(e δ).bind λp=>if Zj0 p.1.data=true then none else some (.fz (.bool (Zqo T p.1.data)),p.2)
noncomputable def oN:FO:=λδ=>some (none,δ)
noncomputable def oI(e:FE):FO:=λδ=>(e δ).bind λp=>match p.1.data with| .int i=>some (some i,p.2)|_=>none
noncomputable def fSl(e:FE)(lo hi:FO):FE:=λδ=>(e δ).bind λp=>(lo p.2).bind λq=>(hi q.2).bind λr=>match p.1.data with| .list ds=>some (.nd ((cutD ds q.1 r.1).map OT.fz),r.2)|_=>none
noncomputable def Zbu(e:FE):FI:=λδ=>(e δ).bind λp=>match p.1.data with| .list ds=>some (ds,p.2)|_=>none
noncomputable def iTp(e:FE):FI:=λδ=>(e δ).bind λp=>match p.1.data with| .tuple ds=>some (ds,p.2)|_=>none
noncomputable def rOk(j:Int):Bool:=decide (-(2^62)≤j)&&decide (j<2^62)
theorem Zec{j:Int}(h:rOk j=true):-(2^62)≤j∧j<2^62:=by
 unfold rOk at h
 rw[Xo]at h
 exact⟨of_decide_eq_true h.1,of_decide_eq_true h.2⟩
theorem Zkg{j:Int}(h0:-1000000≤j)(h1:j≤1000000):rOk j=true:=by
 unfold rOk
 rw[decide_eq_true (show -(2^62)≤j by omega),decide_eq_true (show j<2^62 by omega)];rfl
noncomputable def iRa(a:FA):FI:=λδ=>(a δ).bind λp=>match OT.datas p.1 with|[.int j]=>if rOk j=true then some (Zgg 0 j.toNat,p.2)else none|_=>none
noncomputable def iRb(a:FA):FI:=λδ=>(a δ).bind λp=>match OT.datas p.1 with|[.int i,.int j]=>if(rOk i&&rOk j)=true then some (Zgg i (j-i).toNat,p.2)else none|_=>none
noncomputable def Z2x(a:FA):FI:=λδ=>(a δ).bind λp=>match OT.datas p.1 with|[.list as,.list bs]=>some (Zo6 as bs,p.2)|_=>none
noncomputable def gNm(i:Nat):FG:=λd δ=>some (δ.set i (some (.fz d)))
noncomputable def Yb0(i:Nat):FG:=λd δ=>if Zca d=true then some (δ.set i (some (.fz d)))else none
noncomputable def gNl:FGs:=λds δ=>match ds with|[]=>some δ|_=>none
noncomputable def gCn(g:FG)(gs:FGs):FGs:=λds δ=>match ds with|d :: r=>(g d δ).bind (gs r)|[]=>none
noncomputable def gTp(n:Nat)(gs:FGs):FG:=λd δ=>match d with| .tuple ds=>if ds.length=n then gs ds δ else none|_=>none
noncomputable def gLs(n:Nat)(gs:FGs):FG:=λd δ=>match d with| .list ds=>if ds.length=n then gs ds δ else none|_=>none
noncomputable def compLoop(g:FG)(t:FT)(e:FE):List Xa->Zm->Option (List OT×Zm)
 | [],δ=>some ([],δ)
 | d :: ds,δ=>(g d δ).bind λδ1=>(t δ1).bind λp=>if p.1=true then(e p.2).bind λq=>(compLoop g t e ds q.2).bind λz=>some (q.1 :: z.1,z.2)else compLoop g t e ds p.2
noncomputable def Z6(n:Nat)(caps:List Nat)(it:FI)(g:FG)(t:FT)(e:FE):FE:=λδ=>(it δ).bind λp=>if p.1.length≤Xq then(compLoop g t e p.1 (blk n caps p.2)).bind λz=>some (.nd z.1,p.2)else none
noncomputable def Zak:FT:=λδ=>some (true,δ)
inductive RS where
 | nx (δ:Zm)
 | rt (r:OT) (δ:Zm)
 | bk (δ:Zm)
 | ct (δ:Zm)
 | ex (c:Str) (δ:Zm)
 | bad
noncomputable abbrev FS:=Zm->RS
noncomputable def RS.fits(D:Zic):RS->Prop
 | .nx δ=>D.nx δ
 | .rt r δ=>D.rt r δ
 | .bk δ=>D.bk δ
 | .ct δ=>D.ct δ
 | _=>False
noncomputable def oS(f:FS):MSt:=λD δ=>(f δ).fits D
noncomputable def xS(K:Xb)(f:FS):MXt:=λδ k=>∃c C δ',f δ= .ex c δ'∧ClsAt K c C∧k C δ'
noncomputable def Z1(f g:FS):FS:=λδ=>match f δ with| .nx δ'=>g δ'|r=>r
noncomputable def fNx:FS:=λδ=>.nx δ
noncomputable def Yc3:FS:=λδ=>.bk δ
noncomputable def Yc5:FS:=λδ=>.ct δ
noncomputable def wE(e:FE)(k:OT->Zm->RS):FS:=λδ=>match e δ with|some (r,δ')=>k r δ'|none=>.bad
noncomputable def wX(F:FD)(a:FA)(k:OT->Zm->RS):FS:=λδ=>match a δ with
 | some (rs,δ1)=>match F (OT.datas rs)with
  | .ok r=>k r δ1
  | .exn c=>.ex c δ1
  | .bad=>.bad
 | none=>.bad
noncomputable def Z88:OT->Zm->RS:=λ_ δ=>.nx δ
noncomputable def Wa:OT->Zm->RS:=λr δ=>.rt r δ
noncomputable def Z8q:OT->Zm->RS:=λr δ=>if Zca r.data=true then .rt (.fz r.data) δ else .bad
noncomputable def Yt(i:Nat):OT->Zm->RS:=λr δ=>.nx (δ.set i (some (.fz r.data)))
noncomputable def Z9b(i:Nat):OT->Zm->RS:=λr δ=>if Zca r.data=true then .nx (δ.set i (some (.fz r.data)))else .bad
noncomputable def Zc9(i:Nat):OT->Zm->RS:=λr δ=>.nx (δ.set i (some r))
noncomputable def Ycu(g:FG):OT->Zm->RS:=λr δ=>match g r.data δ with|some δ'=>.nx δ'|none=>.bad
noncomputable def Z8a:FS:=λδ=>.rt (.fz .none) δ
noncomputable def Zho(i:Nat):FS:=λδ=>match δ[i]? with|some (some t)=>.rt t (δ.set i none)|_=>.bad
noncomputable def J0(t:FT)(u w:FS):FS:=λδ=>match t δ with|some (b,δ')=>if b=true then u δ' else w δ'|none=>.bad
noncomputable def Zth(c:Str):FS:=λδ=>.ex c δ
noncomputable def J6(i:Nat)(e:FE):FS:=λδ=>match δ[i]? with
 | some (some (.nd _))=>wE e (λr δ1=>match δ1[i]? with
  | some (some (.nd ts))=>if ts.length<Xq then .nx (δ1.set i (some (.nd (ts ++ [.fz r.data]))))else .bad
  | _=>.bad) δ
 | _=>.bad
noncomputable def Zo0(i:Nat)(e:FE):FS:=λδ=>match δ[i]? with
 | some (some (.nd _))=>wE e (λr δ1=>match δ1[i]? with
  | some (some (.nd ts))=>if ts.length<Xq then .nx (δ1.set i (some (.nd (ts ++ [r]))))else .bad
  | _=>.bad) δ
 | _=>.bad
noncomputable def Zyh(i:Nat)(e j:FE):FS:=wE e λr δ1=>match δ1[i]? with
 | some (some (.nd ts))=>wE j (λn _=>match n.data with
  | .int k=>match ixN ts.length k with
   | some j=>.nx (δ1.set i (some (.nd (ts.set j (.fz r.data)))))
   | none=>.bad
  | _=>.bad) δ1
 | _=>.bad
noncomputable def Zgr(i:Nat)(e j j2:FE):FS:=wE e λr δ1=>match δ1[i]? with
 | some (some (.nd ts))=>wE j (λn _=>match n.data with
  | .int k=>match ixN ts.length k with
   | some j=>match ts[j]? with
    | some (.nd us)=>wE j2 (λn' _=>match n'.data with
     | .int k'=>match ixN us.length k' with
      | some j'=>.nx (δ1.set i (some (.nd (ts.set j (.nd (us.set j' (.fz r.data)))))))
      | none=>.bad
     | _=>.bad) δ1
    | _=>.bad
   | none=>.bad
  | _=>.bad) δ1
 | _=>.bad
noncomputable def Zdf(i:Nat)(u:FS):FS:=λδ=>match δ[i]? with|some (some t)=>u (δ.set i (some (.fz t.data)))|_=>.bad
noncomputable def forLoop(g:FG)(u:FS):List Xa->Zm->RS
 | [],δ=>.nx δ
 | d :: ds,δ=>match g d δ with
  | none=>.bad
  | some δ1=>match u δ1 with
   | .nx δ2=>forLoop g u ds δ2
   | .ct δ2=>forLoop g u ds δ2
   | .bk δ2=>.nx δ2
   | r=>r
noncomputable def Za2(it:FI)(g:FG)(u:FS):FS:=λδ=>match it δ with|some (ds,δ1)=>forLoop g u ds δ1|none=>.bad
noncomputable def whileLoop(t:FT)(u:FS):Nat->Zm->RS
 | 0,_=>.bad
 | n+1,δ=>match t δ with
  | none=>.bad
  | some (b,δ1)=>if b=true then match u δ1 with
   | .nx δ2=>whileLoop t u n δ2
   | .ct δ2=>whileLoop t u n δ2
   | .bk δ2=>.nx δ2
   | .rt r δ2=>.rt r δ2
   | _=>.bad
   else .nx δ1
open Classical in
noncomputable def Zkb(t:FT)(u:FS):FS:=λδ=>if h:∃n,whileLoop t u n δ≠ .bad then whileLoop t u (Classical.choose h) δ else .bad
noncomputable def Za8(n:Nat)(ds:List Xa):Zm:=ds.map (λd=>some (.fz d)) ++ X4 (n-ds.length) none
noncomputable def Z7r(n:Nat)(t:OT)(ds:List Xa):Zm:=some t :: (ds.map (λd=>some (.fz d)) ++ X4 (n-(ds.length+1)) none)
noncomputable def RS.told:RS->RF
 | .nx _=>.ok (.fz .none)
 | .rt r _=>.ok r
 | .ex c _=>.exn c
 | _=>.bad
noncomputable def Jy(np n:Nat)(S:FS):FD:=λds=>if ds.length=np then(S (Za8 n ds)).told else .bad
noncomputable def sD(F:FD):List Xa->(OT->Prop)->Prop:=λds k=>∃r,F ds= .ok r∧k r
theorem bs{α β:Type}{x:Option α}{f:α->Option β}{b:β}(h:x.bind f=some b):∃a,x=some a∧f a=some b:=BP.mp h
section
variable {X:Cx}{io:List Nat}{p c:Bool}{e tg:Expr}{es:List Expr}{st:Stmt}{sts:List Stmt}{eo:Option Expr}{fa fb fc:FE}{ra:FA}{ta tb:FT}{i:Nat}
theorem Z2a(h:ME X io p c e (Z6u i)):ME X io p c e (o2 (Ze i)):=h.weak λδ K q91=>by
 obtain⟨r,δ',h,k⟩:=q91
 unfold Ze at h;unfold Z6u
 split at h
 ·rename_i d hd;(try rw[hd]);cases h;exact k
 ·cases h
theorem Z48(h:ME X io p c e (Z6p i)):ME X io p c e (o2 (Zqg i)):=h.weak λδ K q92=>by
 obtain⟨r,δ',h,k⟩:=q92
 unfold Zqg at h;unfold Z6p
 split at h
 ·rename_i d hd;(try rw[hd]);cases h;exact k
 ·cases h
theorem Zf3{d:Xa}(h:ME X io p c e (mC d)):ME X io p c e (o2 (fC d)):=h.weak λδ K ⟨r,δ',h,k⟩=>by cases h;exact k
noncomputable def ByS(g:Xa->Xa->Option Xa)(rp:Xa->Xa->(Xa->Prop)->Prop):Prop:=∀d e r k,g d e=some r->k r->rp d e k
noncomputable def ByO(g:Xa->Xa->Option OT)(rp:Xa->Xa->(OT->Prop)->Prop):Prop:=∀d e r k,g d e=some r->k r->rp d e k
theorem Zwq{g rp}(G:ByS g rp){δ:Zm}{K:OT->Zm->Prop}(h:o2 (Zd g fa fb) δ K):Zni rp (o2 fa) (o2 fb) δ K:=by
 obtain⟨r,δ',h,k⟩:=h
 obtain⟨⟨x,δ1⟩,h1,h⟩:=bs h
 obtain⟨⟨y,δ2⟩,h2,h⟩:=bs h
 obtain⟨d,h3,h⟩:=bs h
 cases h
 exact⟨x,δ1,h1,y,δ2,h2,G _ _ _ _ h3 k⟩
theorem Yv{g rp}(G:ByS g rp)(h:ME X io p c e (Zni rp (o2 fa) (o2 fb))):ME X io p c e (o2 (Zd g fa fb)):=h.weak λδ K z=>Zwq G z
theorem Yb4{f:FE}{δ:Zm}{K:Bool->Zm->Prop}(h:o2 (tV f) δ K):o2 f δ (kB K):=by
 obtain⟨b,δ',h,k⟩:=h
 obtain⟨⟨x,δ1⟩,h1,h⟩:=bs h
 refine⟨x,δ1,h1,?_⟩
 unfold kB
 try dsimp only at h⊢
 split at h
 ·cases h;exact k
 ·cases h
theorem Zhe{g rp}(G:ByS g rp)(h:MT X io p e (λδ K=>Zni rp (o2 fa) (o2 fb) δ (kB K))):MT X io p e (o2 (tV (Zd g fa fb))):=h.weak λδ K z=>Zwq G (Yb4 z)
theorem Zb5{g rp}(G:ByO g rp)(h:ME X io p c e (Z6d rp (o2 fa) (o2 fb))):ME X io p c e (o2 (Zt g fa fb)):=h.weak λδ K h=>by
 obtain⟨r,δ',h,k⟩:=h
 obtain⟨⟨x,δ1⟩,h1,h⟩:=bs h
 obtain⟨⟨y,δ2⟩,h2,h⟩:=bs h
 obtain⟨d,h3,h⟩:=bs h
 cases h
 exact⟨x,δ1,h1,y,δ2,h2,G _ _ _ _ h3 k⟩
noncomputable def Zj4:Xa->Option Xa| .int i=>some (.int (-i))|_=>none
noncomputable def Z7b:Xa->Option Xa| .bool b=>some (.bool (!b))|_=>none
theorem Zdr(h:ME X io p c e (Ybc (o2 fa))):ME X io p c e (o2 (fUn Zj4 fa)):=h.weak λδ K h=>by
 obtain⟨r,δ',h,k⟩:=h
 obtain⟨⟨x,δ1⟩,h1,h⟩:=bs h
 obtain⟨d,h3,h⟩:=bs h
 cases h
 refine⟨x,δ1,h1,?_⟩
 dsimp only at h3⊢
 cases q:x.data<;>rw[q]at h3<;>cases h3
 exact k
theorem Zzy(h:ME X io p c e (Z4v (o2 fa))):ME X io p c e (o2 (fUn Z7b fa)):=h.weak λδ K h=>by
 obtain⟨r,δ',h,k⟩:=h
 obtain⟨⟨x,δ1⟩,h1,h⟩:=bs h
 obtain⟨d,h3,h⟩:=bs h
 cases h
 refine⟨x,δ1,h1,?_⟩
 dsimp only at h3⊢
 cases q:x.data<;>rw[q]at h3<;>cases h3
 exact k
theorem Zbv(h:ME X io p c e (Z2i (o2 fa) (o2 fb))):ME X io p c e (o2 (Zm8 fa fb)):=h.weak λδ K h=>by
 obtain⟨r,δ',h,k⟩:=h
 obtain⟨⟨x,δ1⟩,h1,h⟩:=bs h
 refine⟨x,δ1,h1,?_⟩
 try dsimp only at h⊢
 split at h
 ·rename_i q;(try rw[q]);rw[Zwv,if_pos rfl];exact⟨r,δ',h,k⟩
 ·rename_i q;(try rw[q]);cases h;rw[Zwv,if_neg Xu];exact k
 ·cases h
theorem Z8h(h:ME X io p c e (mIf (o2 ta) (o2 fa) (o2 fb))):ME X io p c e (o2 (fIf ta fa fb)):=h.weak λδ K h=>by
 obtain⟨r,δ',h,k⟩:=h
 obtain⟨⟨x,δ1⟩,h1,h⟩:=bs h
 refine⟨x,δ1,h1,?_⟩
 try dsimp only at h⊢
 split at h
 ·rename_i q;rw[if_pos q];exact⟨r,δ',h,k⟩
 ·rename_i q;rw[if_neg q];exact⟨r,δ',h,k⟩
theorem Z22(h:MT X io p e (Z9z (o2 ta))):MT X io p e (o2 (tNo ta)):=h.weak λδ K h=>by
 obtain⟨r,δ',h,k⟩:=h
 obtain⟨⟨x,δ1⟩,h1,h⟩:=bs h
 cases h
 exact⟨x,δ1,h1,k⟩
theorem Zrx(h:MW X io p e (Yal (o2 ta) (o2 tb))):MW X io p e (o2 (tAn ta tb)):=h.weak λδ K h=>by
 obtain⟨r,δ',h,k⟩:=h
 obtain⟨⟨x,δ1⟩,h1,h⟩:=bs h
 refine⟨x,δ1,h1,?_⟩
 try dsimp only at h⊢
 split at h
 ·rename_i q;rw[if_pos q];exact⟨r,δ',h,k⟩
 ·rename_i q;rw[if_neg q];cases h;exact k
theorem Zfk(h:MW X io p e (mOr (o2 ta) (o2 tb))):MW X io p e (o2 (tO ta tb)):=h.weak λδ K h=>by
 obtain⟨r,δ',h,k⟩:=h
 obtain⟨⟨x,δ1⟩,h1,h⟩:=bs h
 refine⟨x,δ1,h1,?_⟩
 try dsimp only at h⊢
 split at h
 ·rename_i q;rw[if_pos q];cases h;exact k
 ·rename_i q;rw[if_neg q];exact⟨r,δ',h,k⟩
theorem Jh(h:MT X io p e (Ybm (o2 fa))):MT X io p e (o2 (tD fa)):=h.weak λδ K h=>by
 obtain⟨r,δ',h,k⟩:=h
 obtain⟨⟨x,δ1⟩,h1,h⟩:=bs h
 obtain⟨d,h3,h⟩:=bs h
 cases h
 refine⟨x,δ1,h1,?_⟩
 dsimp only at h3⊢
 rw[h3]
 exact k
theorem Z5n(h:MA X io p c es Z9w):MA X io p c es (o2 Zn):=h.weak λδ K ⟨r,δ',h,k⟩=>by cases h;exact k
theorem Z0c(h:MA X io p c es (Z3d (o2 fa) (o2 ra))):MA X io p c es (o2 (Za fa ra)):=h.weak λδ K h=>by
 obtain⟨r,δ',h,k⟩:=h
 obtain⟨⟨x,δ1⟩,h1,h⟩:=bs h
 obtain⟨⟨y,δ2⟩,h2,h⟩:=bs h
 cases h
 exact⟨x,δ1,h1,y,δ2,h2,k⟩
theorem Z5c(h:ME X io p c e (Yax (o2 ra))):ME X io p c e (o2 (Zby ra)):=h.weak λδ K h=>by
 obtain⟨r,δ',h,k⟩:=h
 obtain⟨⟨x,δ1⟩,h1,h⟩:=bs h
 refine⟨x,δ1,h1,?_⟩
 dsimp only at h
 split at h
 ·rename_i q;cases h;exact⟨q,k⟩
 ·cases h
theorem Z56(h:ME X io p c e (Yao (o2 ra))):ME X io p c e (o2 (Zbb ra)):=h.weak λδ K h=>by
 obtain⟨r,δ',h,k⟩:=h
 obtain⟨⟨x,δ1⟩,h1,h⟩:=bs h
 refine⟨x,δ1,h1,?_⟩
 dsimp only at h
 split at h
 ·rename_i q;cases h;exact⟨q,k⟩
 ·cases h
theorem Znv(h:ME X io p c e (Z5z (o2 fa))):ME X io p c e (o2 (Zmx fa)):=h.weak λδ K h=>by
 obtain⟨r,δ',h,k⟩:=h
 obtain⟨⟨x,δ1⟩,h1,h⟩:=bs h
 refine⟨x,δ1,h1,?_⟩
 dsimp only at h
 split at h
 ·rename_i q;cases h;exact⟨q,k⟩
 ·cases h
theorem Z0n{F:FD}(h:ME X io p c e (Zxy (sD F) (o2 ra))):ME X io p c e (o2 (Zu F ra)):=h.weak λδ K h=>by
 obtain⟨r,δ',h,k⟩:=h
 obtain⟨⟨x,δ1⟩,h1,h⟩:=bs h
 refine⟨x,δ1,h1,?_⟩
 dsimp only at h
 split at h
 ·rename_i q;cases h;exact⟨_,q,k⟩
 ·cases h
theorem J3{g rp}(G:∀ds r k,g ds=some r->k r->rp ds k)(h:ME X io p c e (Z6s rp (o2 ra))):ME X io p c e (o2 (Wr g ra)):=h.weak λδ K h=>by
 obtain⟨r,δ',h,k⟩:=h
 obtain⟨⟨x,δ1⟩,h1,h⟩:=bs h
 obtain⟨d,h3,h⟩:=bs h
 cases h
 exact⟨x,δ1,h1,G _ _ _ h3 k⟩
theorem Ztq{g rp}(G:∀ds r k,g ds=some r->k r->rp ds k)(h:ME X io p c e (mBl rp (o2 ra))):ME X io p c e (o2 (fBl g ra)):=h.weak λδ K h=>by
 obtain⟨r,δ',h,k⟩:=h
 obtain⟨⟨x,δ1⟩,h1,h⟩:=bs h
 obtain⟨d,h3,h⟩:=bs h
 cases h
 exact⟨x,δ1,h1,G _ _ _ h3 k⟩
theorem Zcb{T:String}(h:ME X io p c e (Ybb T (o2 fa))):ME X io p c e (o2 (Zla T fa)):=h.weak λδ K h=>by
 obtain⟨r,δ',h,k⟩:=h
 obtain⟨⟨x,δ1⟩,h1,h⟩:=bs h
 by_cases hf:Zj0 x.data=true
 ·have h':(if Zj0 x.data=true then none else some (OT.fz (.bool (Zqo T x.data)),δ1))=some (r,δ'):=h
  rw[if_pos hf]at h'
  cases h'
 ·have h':(if Zj0 x.data=true then none else some (OT.fz (.bool (Zqo T x.data)),δ1))=some (r,δ'):=h
  rw[if_neg hf]at h'
  injection h' with h'
  injection h' with e1 e2
  subst e1 e2
  exact⟨x,_,h1,U7.mpr hf,k⟩
theorem Za9(h:MO X io p eo Ztl):MO X io p eo (o2 oN):=h.weak λδ K ⟨r,δ',h,k⟩=>by cases h;exact k
theorem Wg(h:MO X io p eo (Z5v (o2 fa))):MO X io p eo (o2 (oI fa)):=h.weak λδ K h=>by
 obtain⟨r,δ',h,k⟩:=h
 obtain⟨⟨x,δ1⟩,h1,h⟩:=bs h
 refine⟨x,δ1,h1,?_⟩
 try dsimp only at h⊢
 split at h
 ·rename_i q;(try rw[q]);cases h;exact k
 ·cases h
theorem Ze3{lo hi:FO}(h:ME X io p c e (mSl (o2 fa) (o2 lo) (o2 hi))):ME X io p c e (o2 (fSl fa lo hi)):=h.weak λδ K h=>by
 obtain⟨r,δ',h,k⟩:=h
 obtain⟨⟨x,δ1⟩,h1,h⟩:=bs h
 obtain⟨⟨y,δ2⟩,h2,h⟩:=bs h
 obtain⟨⟨z,δ3⟩,h3,h⟩:=bs h
 refine⟨x,δ1,h1,y,δ2,h2,z,δ3,h3,?_⟩
 try dsimp only at h⊢
 split at h
 ·rename_i q;(try rw[q]);cases h;exact k
 ·cases h
theorem Zzm(h:MI X io p c tg e (iL (o2 fa))):MI X io p c tg e (o2 (Zbu fa)):=h.weak λδ K h=>by
 obtain⟨r,δ',h,k⟩:=h
 obtain⟨⟨x,δ1⟩,h1,h⟩:=bs h
 refine⟨x,δ1,h1,?_⟩
 try dsimp only at h⊢
 split at h
 ·rename_i q;(try rw[q]);cases h;exact k
 ·cases h
theorem Z3q(h:MI X io p c tg e (iT (o2 fa))):MI X io p c tg e (o2 (iTp fa)):=h.weak λδ K h=>by
 obtain⟨r,δ',h,k⟩:=h
 obtain⟨⟨x,δ1⟩,h1,h⟩:=bs h
 refine⟨x,δ1,h1,?_⟩
 try dsimp only at h⊢
 split at h
 ·rename_i q;(try rw[q]);cases h;exact k
 ·cases h
theorem Zb7(h:MI X io p c tg e (iR1 (o2 ra))):MI X io p c tg e (o2 (iRa ra)):=h.weak λδ K h=>by
 obtain⟨r,δ',h,k⟩:=h
 obtain⟨⟨x,δ1⟩,h1,h⟩:=bs h
 refine⟨x,δ1,h1,?_⟩
 try dsimp only at h⊢
 split at h
 case h_2=>cases h
 rename_i q
 (try rw[q])
 try dsimp only
 split at h
 ·rename_i b;cases h;exact⟨Zec b,k⟩
 ·cases h
theorem Zsb(h:MI X io p c tg e (iR2 (o2 ra))):MI X io p c tg e (o2 (iRb ra)):=h.weak λδ K h=>by
 obtain⟨r,δ',h,k⟩:=h
 obtain⟨⟨x,δ1⟩,h1,h⟩:=bs h
 refine⟨x,δ1,h1,?_⟩
 try dsimp only at h⊢
 split at h
 case h_2=>cases h
 rename_i q
 (try rw[q])
 try dsimp only
 split at h
 ·rename_i b
  cases h
  rw[Xo]at b
  exact⟨⟨(Zec b.1).1,(Zec b.1).2,(Zec b.2).1,(Zec b.2).2⟩,k⟩
 ·cases h
theorem Zzw(h:MG X io c tg (dName i)):MG X io c tg (oG (gNm i)):=h.weak λd δ K ⟨δ',h,k⟩=>by cases h;exact k
theorem Zyp(h:MGs X io c es Yah):MGs X io c es (oGs gNl):=h.weak λd δ K q94=>by
 obtain⟨δ',h,k⟩:=q94
 unfold gNl at h
 split at h
 ·cases h;exact⟨rfl,k⟩
 ·cases h
theorem Zok{g:FG}{gs:FGs}(h:MGs X io c es (Z29 (oG g) (oGs gs))):MGs X io c es (oGs (gCn g gs)):=h.weak λd δ K q95=>by
 obtain⟨δ',h,k⟩:=q95
 unfold gCn at h
 split at h
 ·obtain⟨δ1,h1,h⟩:=bs h
  exact⟨δ1,h1,δ',h,k⟩
 ·cases h
theorem Z28{n:Nat}{gs:FGs}(h:MG X io c tg (dTup n (oGs gs))):MG X io c tg (oG (gTp n gs)):=h.weak λd δ K q96=>by
 obtain⟨δ',h,k⟩:=q96
 unfold gTp at h
 split at h
 case h_2=>cases h
 split at h
 ·rename_i q;exact⟨q,δ',h,k⟩
 ·cases h
theorem Yj(h:MIfs X io p es Z3l):MIfs X io p es (o2 Zak):=h.weak λδ K ⟨r,δ',h,k⟩=>by cases h;exact k
theorem Zyr{g:FG}{t:FT}{me:FE}{ds:List Xa}{δ0:Zm}{zs:List OT}{δe:Zm}(h:compLoop g t me ds δ0=some (zs,δe)) :
  ∃I:Nat->List OT->Zm->Prop,I 0 [] δ0∧
 (∀ (i:Nat) (d:Xa) (rs:List OT) (δ':Zm),ds[i]? =some d->I i rs δ'->oG g d δ' λδ2=>o2 t δ2 λb δ3=>if b=true then o2 me δ3 λr δ4=>I (i+1) (rs ++ [r]) δ4 else I (i+1) rs δ3)∧
 ∀rs δ',I ds.length rs δ'->rs=zs∧δ'=δe:=by
 refine⟨λi rs δ'=>∃ys,rs ++ ys=zs∧compLoop g t me (ds.drop i) δ'=some (ys,δe),⟨zs,rfl,by rw[List.drop_zero];exact h⟩,?_,?_⟩
 ·rintro i d rs δ' hd ⟨ys,e,hl⟩
  obtain⟨hi,hdi⟩:=Xm.mp hd
  rw[Vq hi,hdi]at hl
  unfold compLoop at hl
  obtain⟨δ1,h1,hl⟩:=bs hl
  obtain⟨⟨b,δ2⟩,h2,hl⟩:=bs hl
  refine⟨δ1,h1,b,δ2,h2,?_⟩
  dsimp only at hl
  split at hl
  ·rename_i hb
   rw[if_pos hb]
   obtain⟨⟨r,δ3⟩,h3,hl⟩:=bs hl
   obtain⟨⟨ws,δ4⟩,h4,hl⟩:=bs hl
   cases hl
   exact⟨r,δ3,h3,ws,by rw[VG];exact e,h4⟩
  ·rename_i hb
   rw[if_neg hb]
   exact⟨ys,e,hl⟩
 ·rintro rs δ' ⟨ys,e,hl⟩
  rw[List.drop_length]at hl
  unfold compLoop at hl
  cases hl
  exact⟨by rw[←e,Bb],rfl⟩
theorem Zsa{n:Nat}{caps:List Nat}{it:FI}{g:FG}{t:FT}{me:FE}{δ:Zm}{K:OT->Zm->Prop}(h:o2 (Z6 n caps it g t me) δ K):Zid n caps (o2 it) (oG g) (o2 t) (o2 me) δ K:=by
 obtain⟨r,δ',h,k⟩:=h
 obtain⟨⟨ds,δ1⟩,h1,h⟩:=bs h
 refine⟨ds,δ1,h1,?_⟩
 dsimp only at h
 split at h
 case isFalse=>cases h
 rename_i hz
 obtain⟨⟨zs,δe⟩,h2,h⟩:=bs h
 cases h
 obtain⟨I,i0,st,en⟩:=Zyr h2
 refine⟨hz,I,i0,st,λrs δ'' q=>?_⟩
 obtain⟨rfl,rfl⟩:=en rs δ'' q
 exact k
theorem Ye{n:Nat}{caps:List Nat}{it:FI}{g:FG}{t:FT}{me:FE}(h:ME X io p c e (Zid n caps (o2 it) (oG g) (o2 t) (o2 me))):ME X io p c e (o2 (Z6 n caps it g t me)):=h.weak λδ K z=>Zsa z
end
section
variable {X:Cx}{io:List Nat}{p c:Bool}{e tg iter:Expr}{es:List Expr}{st:Stmt}{sts:List Stmt}{fa fb fc:FE}{ra:FA}{ta tb:FT}{i:Nat}{f g u w:FS}
theorem Z5j(h:MSs X io sts (Z68 (oS f) (oS g))):MSs X io sts (oS (Z1 f g)):=h.weak λD δ h=>by
 unfold oS Z1 at h;unfold Z68 oS
 cases q:f δ<;>rw[q]at h<;>exact h
theorem Zyv(h:MSs X io sts Z2z):MSs X io sts (oS fNx):=h.weak λD δ h=>h
theorem Zsy{k:OT->Zm->RS}{D:Zic}{δ:Zm}(h:oS (wE fa k) D δ):o2 fa δ λr δ'=>(k r δ').fits D:=by
 unfold oS wE at h
 split at h
 ·rename_i q;exact⟨_,_,q,h⟩
 ·exact h.elim
theorem o2.imp{α:Type}{f:Zm->Option (α×Zm)}{δ:Zm}{K K':α->Zm->Prop}(h:o2 f δ K)(k:∀r δ',K r δ'->K' r δ'):o2 f δ K':=let⟨r,δ',e,q⟩:=h;⟨r,δ',e,k r δ' q⟩
theorem Zuq{P:Prop}[Decidable P]{a:RS}{D:Zic}(h:(if P then a else .bad:RS).fits D):P∧a.fits D:=by
 split at h
 ·exact⟨‹_›,h⟩
 ·exact h.elim
theorem Z2r(h:MS X io st (Yac (o2 fa))):MS X io st (oS (wE fa Wa)):=h.weak λD δ h=>Zsy h
theorem Zgi(h:MS X io st (Zvl i)):MS X io st (oS (Zho i)):=h.weak λD δ h=>by
 unfold oS Zho at h;unfold Zvl
 split at h
 ·rename_i q;(try rw[q]);exact h
 ·exact h.elim
theorem Z75(h:MS X io st (Z9u (o2 ta) (oS u) (oS w))):MS X io st (oS (J0 ta u w)):=h.weak λD δ h=>by
 unfold oS J0 at h
 split at h
 ·rename_i b δ' q
  refine⟨b,δ',q,?_⟩
  split at h
  ·rename_i hb;rw[if_pos hb];exact h
  ·rename_i hb;rw[if_neg hb];exact h
 ·exact h.elim
theorem Zi1(h:MS X io st (Z1o i (o2 fa))):MS X io st (oS (wE fa (Yt i))):=h.weak λD δ h=>Zsy h
theorem Zqp(h:MS X io st (Zql i (o2 fa))):MS X io st (oS (wE fa (Zc9 i))):=h.weak λD δ h=>Zsy h
section
variable {n:Nat}{caps:List Nat}{o q:Nat}{it:FI}{gg:FG}{t:FT}{me:FE}
theorem Zhx(h:MS X io st (if true=true then Zql i (Zid n caps (o2 it) (oG gg) (o2 t) (o2 me))else Z1o i (Zid n caps (o2 it) (oG gg) (o2 t) (o2 me)))):MS X io st (oS (wE (Z6 n caps it gg t me) (Zc9 i))) :=
 h.weak λD δ h=>by rw[if_pos rfl];exact Zsa (Zsy h)
theorem Zrp(h:MS X io st (if false=true then Zql i (Zid n caps (o2 it) (oG gg) (o2 t) (o2 me))else Z1o i (Zid n caps (o2 it) (oG gg) (o2 t) (o2 me)))):MS X io st (oS (wE (Z6 n caps it gg t me) (Yt i))) :=
 h.weak λD δ h=>by rw[if_neg Xu];exact Zsa (Zsy h)
end
theorem Zb9(h:MS X io st (Zlp i (o2 fa))):MS X io st (oS (J6 i fa)):=h.weak λD δ h=>by
 unfold oS J6 at h;unfold Zlp
 split at h
 case h_2=>exact h.elim
 rename_i q;(try rw[q])
 refine(Zsy h).imp λr δ' z=>?_
 split at z
 ·rename_i q2;(try rw[q2]);exact Zuq z
 ·exact z.elim
theorem Zwu(h:MS X io st (Z97 i (o2 fa) (o2 fb))):MS X io st (oS (Zyh i fa fb)):=h.weak λD δ h=>by
 refine(Zsy h).imp λr δ' z=>?_
 split at z
 case h_2=>exact z.elim
 rename_i q;(try rw[q])
 refine(Zsy z).imp λn δ2 z=>?_
 split at z
 case h_2=>exact z.elim
 rename_i k q2;(try rw[q2])
 show match ixN _ k with|some j=>_|none=>_
 split at z
 ·rename_i q3;(try rw[q3]);exact z
 ·exact z.elim
theorem Zf8(h:MS X io st (Z11 i (o2 fa) (o2 fb) (o2 fc))):MS X io st (oS (Zgr i fa fb fc)):=h.weak λD δ h=>by
 refine(Zsy h).imp λr δ' z=>?_
 split at z
 case h_2=>exact z.elim
 rename_i q;(try rw[q])
 refine(Zsy z).imp λn δ2 z=>?_
 split at z
 case h_2=>exact z.elim
 rename_i k q2;(try rw[q2])
 show match ixN _ k with|some j=>_|none=>_
 split at z
 case h_2=>exact z.elim
 rename_i q3;(try rw[q3])
 try dsimp only
 split at z
 case h_2=>exact z.elim
 rename_i q4;(try rw[q4])
 refine(Zsy z).imp λn' δ3 z=>?_
 split at z
 case h_2=>exact z.elim
 rename_i k' q5;(try rw[q5])
 show match ixN _ k' with|some j=>_|none=>_
 split at z
 ·rename_i q6;(try rw[q6]);exact z
 ·exact z.elim
theorem Ziq(h:MS X io st (Zkx i (oS u))):MS X io st (oS (Zdf i u)):=h.weak λD δ h=>by
 unfold oS Zdf at h;unfold Zkx
 split at h
 ·rename_i q;(try rw[q]);exact h
 ·exact h.elim
theorem Zhc{gg:FG}{d:Xa}{ds:List Xa}{δ:Zm}:forLoop gg u (d :: ds) δ=match gg d δ with
  | none=>.bad
  | some δ1=>match u δ1 with
   | .nx δ2=>forLoop gg u ds δ2
   | .ct δ2=>forLoop gg u ds δ2
   | .bk δ2=>.nx δ2
   | r=>r:=rfl
theorem Z3e{it:FI}{gg:FG}(h:MS X io st (Yay (o2 it) (oG gg) (oS u))):MS X io st (oS (Za2 it gg u)):=h.weak λD δ h=>by
 unfold oS Za2 at h
 split at h
 case h_2=>exact h.elim
 rename_i ds δ1 q
 refine⟨ds,δ1,q,λi δ'=>(forLoop gg u (ds.drop i) δ').fits D,by show RS.fits D (forLoop gg u (ds.drop 0) δ1);rw[List.drop_zero];exact h,λi d δ' hd z=>?_,λδ' z=>?_⟩
 ·obtain⟨hi,hdi⟩:=Xm.mp hd
  replace z:RS.fits D (forLoop gg u (ds.drop i) δ'):=z
  rw[Vq hi,hdi,Zhc]at z
  split at z
  case h_1=>exact z.elim
  rename_i δ2 q2
  refine⟨δ2,q2,?_⟩
  unfold oS
  cases q3:u δ2<;>rw[q3]at z<;>(try rw[q3])<;>exact z
 ·replace z:RS.fits D (forLoop gg u (ds.drop ds.length) δ'):=z
  rw[List.drop_length]at z;exact z
theorem Zon(h:MS X io st (Zw3 (o2 ta) (oS u))):MS X io st (oS (Zkb ta u)):=h.weak λD δ h=>by
 unfold oS Zkb at h
 split at h
 case isFalse=>exact h.elim
 rename_i hn
 refine⟨λn δ'=>(whileLoop ta u n δ').fits D,⟨_,h⟩,λn δ' z=>?_⟩
 cases n with
 | zero=>exact z.elim
 | succ n=>
  unfold whileLoop at z
  split at z
  case h_1=>exact z.elim
  rename_i b δ1 q
  refine⟨b,δ1,q,?_⟩
  split at z
  ·rename_i hb
   rw[if_pos hb]
   refine⟨λδ''=>(whileLoop ta u n δ'').fits D,λδ'' y=>⟨n,V1 n,y⟩,?_⟩
   unfold oS
   cases q3:u δ1<;>rw[q3]at z<;>exact z
  ·rename_i hb
   rw[if_neg hb]
   exact z
theorem Zem{n m:Nat}:∀{δ:Zm},whileLoop ta u n δ≠ .bad->whileLoop ta u (n+m) δ=whileLoop ta u n δ:=by
 induction n with
 | zero=>intro δ h;exact absurd rfl h
 | succ n ih=>
  intro δ h
  rw[Nat.succ_add]
  unfold whileLoop at h⊢
  cases q:ta δ with
  | none=>rfl
  | some x=>
   obtain⟨b,δ1⟩:=x
   rw[q]at h
   try dsimp only at h⊢
   split
   ·rename_i hb
    rw[if_pos hb]at h
    cases q3:u δ1<;>rw[q3]at h<;>first|exact ih h|rfl
   ·rfl
theorem Zm6{r:RS}{δ:Zm}(n:Nat)(h:whileLoop ta u n δ=r)(hr:r≠ .bad):Zkb ta u δ=r:=by
 have hn:∃n,whileLoop ta u n δ≠ .bad:=⟨n,by rw[h];exact hr⟩
 unfold Zkb
 rw[dif_pos hn]
 have h1:=Classical.choose_spec hn
 have e1:=Zem (m:=n) h1
 have e2:=Zem (m:=Classical.choose hn) (show whileLoop ta u n δ≠ .bad by rw[h];exact hr)
 rw[Nat.add_comm]at e2
 rw[←e1,e2,h]
theorem Zt0{cn:Str}:MS X io st (oS (Zth cn)):=Zv9.weak λD δ h=>h
class NoEx (f:FS):Prop where
 no:∀δ cn δ',f δ≠ .ex cn δ'
class NoExK (k:OT->Zm->RS):Prop where
 no:∀r δ cn δ',k r δ≠ .ex cn δ'
end
section
variable {P:XM}{w:Qo}{K:Xb}{mg:Str->Option Xc}{base:Heap}{x qual:Str}{st:Stmt}{f:Addr}{fd:Xv}{N ps:List Str}{n np nn:Nat}{S:FS}
theorem RS.told_fits{r:RS}{o:OT}{k:OT->Prop}(h:r.told= .ok o)(hk:k o):r.fits (Zzp k):=by
 cases r<;>unfold RS.told at h<;>first|(cases h;exact hk)|cases h
theorem Z7(F:Fun K x qual st f fd)(Sc:Zw N ps (Zo st))(hN:N.length=nn)(hp:np=ps.length)
  (hb:∀(cdv:Xc) (A:Ql) (outer:List Env) (s:Xd) (H:Hp) (E:XK),Room n (A.deeper (envOfC qual (Zo st) s.heap.objs.size f cdv))->MSs (Zxr CX0 P w K mg base N qual (Zo st) f cdv A outer s H E).nox [] (Zcd st) (oS S)) :
  FnOk P w K mg base CX0 (n+1) f fd ps (spD K (sD (Jy np nn S))):=by
 subst hN hp
 refine F.okD Sc (λds k h=>?_) λcdv A outer s H E hr=>⟨_,hb cdv A outer s H E hr,λds k h=>?_⟩
 ·obtain⟨r,h,_⟩:=h
  unfold Jy at h
  split at h
  ·assumption
  ·cases h
 ·obtain⟨r,h,hk⟩:=h
  unfold Jy at h
  split at h
  ·exact RS.told_fits h hk
  ·cases h
end
noncomputable def i2(g:Int->Int->Xa):Xa->Xa->Option Xa:=λd e=>match d,e with| .int i,.int j=>some (g i j)|_,_=>none
noncomputable def i2c(c:Int->Int->Bool)(g:Int->Int->Xa):Xa->Xa->Option Xa:=λd e=>match d,e with| .int i,.int j=>if c i j=true then some (g i j)else none|_,_=>none
theorem Ztg{g:Int->Int->Xa}:ByS (i2 g) (Zxc g):=λd e r k h hk=>by
 unfold i2 at h
 split at h
 ·cases h;exact hk
 ·cases h
theorem Zog{c:Int->Int->Bool}{C:Int->Int->Prop}{g:Int->Int->Xa}(hc:∀i j,c i j=true->C i j):ByS (i2c c g) (d2I C g):=λd e r k h hk=>by
 unfold i2c at h
 split at h
 ·split at h
  ·cases h;exact⟨hc _ _ ‹_›,hk⟩
  ·cases h
 ·cases h
noncomputable def Zxv(a b:Int):Bool:=!(decide (JF a>shortFactorBits)&&decide (JF b>shortFactorBits)&&U6 (JF a+JF b))
noncomputable def Z3x(_ j:Int):Bool:=decide (j≠0)&&decide (j.natAbs.log2<9000)
noncomputable def Z91(_ j:Int):Bool:=decide (j≠0)
noncomputable def Ydf(i j:Int):Bool:=decide (0≤j∧j≤1000000∧i.natAbs<2^64)
theorem Zhv{a b:Int}:Zxv a b=true↔IntMulOk a b:=by
 unfold Zxv IntMulOk
 rw[Bool.not_eq_true',Bool.not_eq_true]
noncomputable def Wx:=i2 λi j=>.int (i+j)
noncomputable def gSb:=i2 λi j=>.int (i-j)
noncomputable def Jk:=i2c Zxv λi j=>.int (i*j)
noncomputable def Wm:=i2c Z3x λi j=>.int (i.fdiv j)
noncomputable def Y5:=i2c Z91 λi j=>.int (i.fmod j)
noncomputable def Zv5:=i2c Ydf λi j=>.int (i^j.toNat)
noncomputable def gLt:=i2 λi j=>.bool (decide (i<j))
noncomputable def gLe:=i2 λi j=>.bool (decide (i≤j))
noncomputable def gGt:=i2 λi j=>.bool (decide (j<i))
noncomputable def gGe:=i2 λi j=>.bool (decide (j≤i))
theorem Z7l:ByS Wx (Zxc λi j=>.int (i+j)):=Ztg
theorem Z8y:ByS gSb (Zxc λi j=>.int (i-j)):=Ztg
theorem Z9p:ByS Jk (d2I MulOk λi j=>.int (i*j)):=Zog λi j h=>⟨Zhv.mp h⟩
theorem Z4x:ByS Wm (d2I Yae λi j=>.int (i.fdiv j)):=Zog λi j h=>⟨by
 unfold Z3x at h
 rw[Xo]at h
 exact⟨of_decide_eq_true h.1,of_decide_eq_true h.2⟩⟩
theorem Z7f:ByS Y5 (d2I (λ_ j=>j≠0) λi j=>.int (i.fmod j)):=Zog λi j h=>of_decide_eq_true h
theorem Z7a:ByS Zv5 (d2I Ybe λi j=>.int (i^j.toNat)):=Zog λi j h=>⟨(of_decide_eq_true h:0≤j∧j≤1000000∧i.natAbs<2^64)⟩
theorem Z9t:ByS gLt (Zxc λi j=>.bool (decide (i<j))):=Ztg
theorem Z6y:ByS gGt (Zxc λi j=>.bool (decide (j<i))):=Ztg
theorem Z7c:ByS gGe (Zxc λi j=>.bool (decide (j≤i))):=Ztg
noncomputable def gEq:Xa->Xa->Option Xa:=λd e=>if(Be d&&Be e)=true then some (.bool (Qy d e))else none
noncomputable def gNe:Xa->Xa->Option Xa:=λd e=>if(Be d&&Be e)=true then some (.bool (!Qy d e))else none
theorem Zxj:ByS gEq dEq:=λd e r k h hk=>by
 unfold gEq at h
 split at h
 ·rename_i q
  rw[Xo]at q
  cases h
  exact⟨⟨q.1⟩,⟨q.2⟩,hk⟩
 ·cases h
theorem Yas:ByS gNe dNe:=λd e r k h hk=>by
 unfold gNe at h
 split at h
 ·rename_i q
  rw[Xo]at q
  cases h
  exact⟨⟨q.1⟩,⟨q.2⟩,hk⟩
 ·cases h
noncomputable def gIs:Xa->Xa->Option Xa:=λd e=>match e with| .none=>some (.bool (Zkp d))|_=>none
noncomputable def Z5d:Xa->Xa->Option Xa:=λd e=>match e with| .none=>some (.bool (!Zkp d))|_=>none
noncomputable def Ztw(neg:Bool):Xa->Xa->Option Xa:=λd e=>match Zj2 e with
 | some ds=>if(scD d&&ds.all scD)=true then some (.bool (if neg then !memS d ds else memS d ds))else none
 | none=>none
theorem Zvc{neg:Bool}:ByS (Ztw neg) (dIn neg):=λd e r k h hk=>by
 unfold Ztw at h
 split at h
 case h_2=>cases h
 rename_i ds q
 split at h
 case isFalse=>cases h
 rename_i q2
 rw[Xo]at q2
 cases h
 refine⟨q2.1,?_⟩
 cases e<;>cases q
 ·exact⟨q2.2,hk⟩
 ·exact⟨q2.2,hk⟩
noncomputable def gIx:Xa->Xa->Option OT:=λd e=>(ixD d e).bind λx=>some (.fz x)
theorem Yca:ByO gIx dIx:=λd e r k h hk=>by
 obtain⟨x,h1,h2⟩:=bs h
 cases h2
 unfold dIx
 rw[h1]
 exact hk
noncomputable def Zjj:Xa->Xa->Option OT:=λd e=>match d,e with| .list ds,.list es=>if ds.length+es.length≤Xq then some (.nd ((ds ++ es).map OT.fz))else none|_,_=>none
theorem Zhp:ByO Zjj dCat:=λd e r k h hk=>by
 unfold Zjj at h
 split at h
 ·split at h
  ·cases h;exact⟨‹_›,hk⟩
  ·cases h
 ·cases h
noncomputable def Zbs:List Xa->Option Xa:=λds=>match ds with|[d]=>(Zun d).bind λn=>some (.int n)|_=>none
theorem Z7q:∀ds r k,Zbs ds=some r->k r->Z92 ds k:=λds r k h hk=>by
 unfold Zbs at h
 split at h
 ·obtain⟨n,h1,h2⟩:=bs h
  cases h2
  show match Zun _ with|some n=>_|none=>_
  rw[h1]
  exact hk
 ·cases h
noncomputable def Z1n:List Xa->Option Xa:=λds=>match ds with|[.int i]=>some (.int (if i<0 then -i else i))|_=>none
theorem Z04:∀ds r k,Z1n ds=some r->k r->Ybr ds k:=λds r k h hk=>by
 unfold Z1n at h
 split at h
 ·cases h;exact hk
 ·cases h
noncomputable def Zph:List Xa->Option Xa:=λds=>match ds with|[.int i,.int j]=>some (.int (if j>i then j else i))|_=>none
theorem Zu7:∀ds r k,Zph ds=some r->k r->Ybg ds k:=λds r k h hk=>by
 unfold Zph at h
 split at h
 ·cases h;exact hk
 ·cases h
noncomputable def Z1j:List Xa->Option Xa:=λds=>match ds with|[.int i,.int j]=>some (.int (if j<i then j else i))|_=>none
theorem Z5o:∀ds r k,Z1j ds=some r->k r->Z96 ds k:=λds r k h hk=>by
 unfold Z1j at h
 split at h
 ·cases h;exact hk
 ·cases h
noncomputable def Zm9:List Xa->Option Xa:=λds=>match ds with|[.int i]=>some (.int i)|[.bool b]=>some (.int (if b then 1 else 0))|_=>none
theorem Zvv:∀ds r k,Zm9 ds=some r->k r->Ybw ds k:=λds r k h hk=>by
 unfold Zm9 at h
 split at h
 ·cases h;exact hk
 ·cases h;exact hk
 ·cases h
noncomputable def Zpx:List Xa->Option OT:=λds=>match ds with|[d]=>(Zj2 d).bind λes=>some (.nd (es.map OT.fz))|_=>none
theorem Zw2:∀ds r k,Zpx ds=some r->k r->Z15 ds k:=λds r k h hk=>by
 unfold Zpx at h
 split at h
 ·obtain⟨n,h1,h2⟩:=bs h
  cases h2
  show match Zj2 _ with|some n=>_|none=>_
  rw[h1]
  exact hk
 ·cases h
noncomputable def Zgf:List Xa->Option (List Int)
 | []=>some []
 | .int i :: r=>(Zgf r).bind λl=>some (i :: l)
 | _ :: _=>none
theorem Zfw:∀{ds:List Xa} {ns:List Int},Zgf ds=some ns->ds=ns.map Xk
 | [],_,h=>by cases h;rfl
 | .int i :: r,_,h=>by
  obtain⟨l,h1,h2⟩:=bs h
  cases h2
  rw[Zfw h1];rfl
 | .none :: _,_,h=>by cases h
 | .bool _ :: _,_,h=>by cases h
 | .str _ :: _,_,h=>by cases h
 | .list _ :: _,_,h=>by cases h
 | .tuple _ :: _,_,h=>by cases h
 | .dict _ :: _,_,h=>by cases h
@[simp] theorem Zea:∀ns:List Int,Zgf (ns.map Xk)=some ns
 | []=>rfl
 | n :: ns=>by rw[Qs,Zgf,Zea ns];rfl
noncomputable def Ztu:List Xa->Option Xa:=λds=>match ds with|[.list es]=>(Zgf es).bind λns=>some (.int ns.sum)|_=>none
theorem Zui:∀ds r k,Ztu ds=some r->k r->Z9y ds k:=λds r k h hk=>by
 unfold Ztu at h
 split at h
 ·obtain⟨n,h1,h2⟩:=bs h
  cases h2
  exact⟨n,by rw[Zfw h1],hk⟩
 ·cases h
section
variable {X:Cx}{io:List Nat}{p c:Bool}{e tg:Expr}{es:List Expr}{st:Stmt}{fa fb fc:FE}{ra:FA}{i:Nat}
noncomputable def Ybt(a:FA):FE:=λδ=>(a δ).bind λp=>match OT.datas p.1 with|[.int j]=>if rOk j=true∧j.toNat≤Xq then some (.nd ((Zgg 0 j.toNat).map OT.fz),p.2)else none|_=>none
noncomputable def Zz4(a b:FE):FE:=λδ=>(a δ).bind λp=>(b p.2).bind λq=>match q.1.data with| .int k=>if rOk k=true∧k.toNat≤Xq then some (.nd (X4 k.toNat (.fz p.1.data)),p.2)else none|_=>none
theorem Zw6(h:ME X io p c e (Yaw (o2 fa) (o2 fb))):ME X io p c e (o2 (Zz4 fa fb)):=h.weak λδ K h=>by
 obtain⟨r,δ',h,k⟩:=h
 obtain⟨⟨x,δ1⟩,h1,h⟩:=bs h
 obtain⟨⟨y,δ2⟩,h2,h⟩:=bs h
 refine⟨x,δ1,h1,y,δ2,h2,?_⟩
 try dsimp only at h⊢
 split at h
 case h_2=>cases h
 rename_i q
 (try rw[q])
 split at h
 case isFalse=>cases h
 rename_i b
 cases h
 have z:=Zec b.1
 exact⟨⟨by omega,by omega,b.2⟩,k⟩
end
variable {G:Xb}
section
variable {X:Cx}{io:List Nat}{p c:Bool}{e a b:Expr}{es:List Expr}{m ma mb:MEt}{mr:MAt}{pos apos cpos px py pt sp kp:Pos}{i j:Nat}{x y:Str}{fa fb:FE}{ra:FA}{st:Stmt}
noncomputable def Z50(m:MAt):MEt:=λδ K=>m δ λrs δ'=>rs.length≤Xq∧K (.tp rs) δ'
theorem Z57{x1}(h:MA X io p c es mr):ME X io p c (.Tuple es x1 pos) (Z50 mr):=by
 obtain⟨tA,A,sa⟩:=h
 refine⟨_,Zwt A,λC H σ δ fp ex K Q R h k=>?_⟩
 refine sa C H σ δ fp ex _ _ R h λH1 vs rs δ1 fp1 new1 r1 h1=>⟨by rw[r1.own.length];exact h1.1,λq hq=>?_⟩
 have s:=Yu hq (.tup vs)
 have S:=r1.stp.trans (p':=true) (Stp.same (p:=true) (δ:=δ1) (fp:=fp1) s s.al)
 rw[Bool.and_true]at S
 exact k _ _ _ δ1 fp1 new1 ⟨(r1.rel.made (new:=[]) s λa m=>nomatch m).drop λa z=>.inl z,S,.tp Yo (r1.own.same s),r1.nd,r1.fresh⟩ h1.2
noncomputable def Zuk(a:FA):FE:=λδ=>(a δ).bind λp=>if p.1.length≤Xq then some (.tp p.1,p.2)else none
theorem Zys(h:ME X io p c e (Z50 (o2 ra))):ME X io p c e (o2 (Zuk ra)):=h.weak λδ K h=>by
 obtain⟨r,δ',h,k⟩:=h
 obtain⟨⟨x,δ1⟩,h1,h⟩:=bs h
 refine⟨x,δ1,h1,?_⟩
 dsimp only at h
 split at h
 ·rename_i q;cases h;exact⟨q,k⟩
 ·cases h
noncomputable def Zwo(i c:Nat)(e:FE):FS:=λδ=>match δ[i]? with
 | some (some (.tp ts))=>match ts[c]? with
  | some (.nd us)=>wE e (λr _=>if us.length<Xq then .nx (δ.set i (some (.tp (ts.set c (.nd (us ++ [.fz r.data]))))))else .bad) δ
  | _=>.bad
 | _=>.bad
noncomputable def Ybd(i j:Nat)(a:FA):FS:=λδ=>match a δ with
 | some (rs,δ1)=>match OT.datas rs with
  | [d,e]=>.nx ((δ1.set i (some (.fz d))).set j (some (.fz e)))
  | _=>.bad
 | none=>.bad
end
class NoStar (e:Expr):Prop where
 h:∀es env,Xr (e :: es) env=(false,eval e env) :: Xr es env
instance nx_Name{x:Str}{p:Pos}:NoStar (.Name x p):=⟨λ_ _=>rfl⟩
instance nx_Constant{x k}{p:Pos}:NoStar (.Constant x k p):=⟨λ_ _=>rfl⟩
instance nx_BinOp{a o b}{p:Pos}:NoStar (.BinOp a o b p):=⟨λ_ _=>rfl⟩
instance nx_UnaryOp{o a}{p:Pos}:NoStar (.UnaryOp o a p):=⟨λ_ _=>rfl⟩
instance nx_Compare{a o b}{p:Pos}:NoStar (.Compare a o b p):=⟨λ_ _=>rfl⟩
instance nx_Call{f a k}{p:Pos}:NoStar (.Call f a k p):=⟨λ_ _=>rfl⟩
instance nx_List{a}{p:Pos}:NoStar (.List a p):=⟨λ_ _=>rfl⟩
instance nx_Tuple{a k}{p:Pos}:NoStar (.Tuple a k p):=⟨λ_ _=>rfl⟩
instance nx_Subscript{a b}{p:Pos}:NoStar (.Subscript a b p):=⟨λ_ _=>rfl⟩
instance nx_ListComp{a b s}{p:Pos}:NoStar (.ListComp a b s p):=⟨λ_ _=>rfl⟩
theorem Zf{X:Cx}{io:List Nat}{p p' c c' p2 c2:Bool}{e:Expr}{es:List Expr}{fa:FE}{ra:FA}[NoStar e](ha:ME X io p c e (o2 fa))(hr:MA X io p' c' es (o2 ra))(hc:p'=true∨c=true:=by first|exact QQ rfl|exact Qx rfl)(h2:(p&&p')=p2:=by rfl)(h3:(c&&c')=c2:=by rfl):MA X io p2 c2 (e :: es) (o2 (Za fa ra)) :=
 h2▸h3▸Z0c (Zyc ha hr hc (NoStar.h es X.env))
theorem Zg3{X:Cx}{io:List Nat}{p p' c c':Bool}{e:Expr}{m:MEt}(h:ME X io p c e m)(h2:p=p':=by rfl)(h3:c=c':=by rfl):ME X io p' c' e m:=h2▸h3▸h
structure Gives(P:XM)(w:Qo)(it:Addr)(f:List Addr)(St:Heap->Prop)(x:Xc)(St':Heap->Prop):Prop where
 mem:it∈f
 run:∀{A:Ql} {E:Xc->Xd->Prop} {s:Xd} {Q:Xc->Xd->Prop},St s.heap->(∀h',St' h'->Vo it s.heap h'->Q x { s with heap:=h' })->XN (X7 P w) A (QR (.ref it)) Q E s
 keep:∀h h',(∀c∈f,∀o,h.get? c=some o->h'.get? c=some o)->St h->St h'
 keep':∀h h',(∀c∈f,∀o,h.get? c=some o->h'.get? c=some o)->St' h->St' h'
structure Zkh(P:XM)(w:Qo)(it:Addr)(f:List Addr)(St:Heap->Prop):Prop where
 mem:it∈f
 run:∀{A:Ql} {E:Xc->Xd->Prop} {s:Xd} {Q:Xc->Xd->Prop},A.handled=none->St s.heap->(∀h' e,Heap.ExtBut it s.heap h'->(∃o,h'.get? e=some o∧o.cls= .type "StopIteration")->E (.ref e) { s with heap:=h' })->XN (X7 P w) A (QR (.ref it)) Q E s
 keep:∀h h',(∀c∈f,∀o,h.get? c=some o->h'.get? c=some o)->St h->St h'
structure ZA(z TI TO i1 i2:Addr)(f1 f2:List Addr):Prop where
 TIz:TI≠z
 TOz:TO≠z
 a1:∀c∈f1,c≠z∧c≠TO∧c≠i2
 a2:∀c∈f2,c≠z∧c≠TO∧c≠i1
section
variable {P:XM}{w:Qo}{A:Ql}{E:Xc->Xd->Prop}{s:Xd}
theorem Zkl{T:Addr}{a b x:Xc}{k:Nat}{Q:Unit->Xd->Prop}(hT:Br s.heap T a b)(h:∀h',h'.get? T=some { cls:=.type "tuple",data:=.seq ((#[a,b]:Array Xc).setIfInBounds k x) }->Vo T s.heap h'->Q () { s with heap:=h' }) :
  XN (X7 P w) A (updateSeq T (·.setIfInBounds k x)) Q E s:=wpAny_updateSeq_pair hT h
theorem Zrz{z TI TO i1 i2:Addr}{f1 f2:List Addr}{S1 T1 S2 T2:Heap->Prop}{x y a b:Xc}{Q:Xc->Xd->Prop}(D:ZA z TI TO i1 i2 f1 f2)(G1:Gives P w i1 f1 S1 x T1)(G2:Gives P w i2 f2 S2 y T2)
  (hz:IsZip s.heap z TI TO .none) (hTI:Br s.heap TI (.ref i1) (.ref i2)) (hTO:Br s.heap TO a b) (h1:S1 s.heap) (h2:S2 s.heap)
  (hQ:∀h',IsZip h' z TI TO (rawInt s.heap.objs.size)->Br h' TO x y->T1 h'->T2 h'->Br h' s.heap.objs.size x y ->
   (∀ c o,c∉[z,TO,i1,i2]->s.heap.get? c=some o->h'.get? c=some o)->Q (.ref s.heap.objs.size) { s with heap:=h' }) :
  XN (X7 P w) A (Ui.«zip.__next__» ⟨[.ref z],[]⟩) (λfin s'=>∃v,fin= .done (.ret v)∧Q v s') E s:=by
 obtain⟨i1z,i1O,i12⟩:=D.a1 i1 G1.mem
 obtain⟨i2z,i2O,i21⟩:=D.a2 i2 G2.mem
 have r1:z∉f1∧TO∉f1∧i2∉f1:=⟨λm=>(D.a1 z m).1 rfl,λm=>(D.a1 TO m).2.1 rfl,λm=>(D.a1 i2 m).2.2 rfl⟩
 have r2:z∉f2∧TO∉f2∧i1∉f2:=⟨λm=>(D.a2 z m).1 rfl,λm=>(D.a2 TO m).2.1 rfl,λm=>(D.a2 i1 m).2.2 rfl⟩
 have st:∀{b:Addr} {h h':Heap} {f:List Addr},Vo b h h'->b∉f->∀c∈f,∀o,h.get? c=some o->h'.get? c=some o:=λsb hb c hc o e=>sb.extBut _ _ (λq=>hb (q▸hc)) e
 show XN _ _ (field (.ref z) 2>>=_) _ _ _
 refine Xe (Bs hz rfl (x:=.bool false) rfl ?_)
 show XN _ _ (field (.ref z) 3>>=_) _ _ _
 refine Xe (Bs hz rfl (x:=.ref TI) rfl (Xe (BX hTI rfl ?_)))
 show XN _ _ (JS (.ref z)>>=_) _ _ _
 refine Xe ?_
 unfold JS
 refine Xe (Bs hz rfl (x:=.none) rfl (X5 ?_))
 simp only[if_true]
 refine Xe (wpAny_rule (Xe (Bs hz rfl (x:=.ref TO) rfl (Xe (Vg hz (by simp) λh3 z3 b3=>?_)))))
 replace z3:IsZip h3 z TI TO .ellipsis:=z3
 refine Xe ?_
 simp only[List.zipIdx_cons,List.zipIdx_nil,Ua,VB]
 refine Xe (Xe (wpAny_onRaise ?_))
 show XN _ _ (QR (.ref i1)>>=_) _ _ _
 refine Xe (G1.run (s:={ s with heap:=h3 }) (G1.keep _ _ (st b3 r1.1) h1) λh4 k4 b4=>X5 ?_)
 have o4:Br h4 TO a b:=b4.extBut _ _ i1O.symm (b3.extBut _ _ D.TOz hTO)
 refine Xe (BX o4 rfl (Xe (Zkl (s:={ s with heap:=h4 }) o4 λh5 o5 b5=>Xe (wpAny_letGo (X5 ?_)))))
 replace o5:Br h5 TO x b:=o5
 refine Xe (Xe (wpAny_onRaise ?_))
 show XN _ _ (QR (.ref i2)>>=_) _ _ _
 refine Xe (G2.run (s:={ s with heap:=h5 }) (G2.keep _ _ (st b5 r2.2.1) (G2.keep _ _ (st b4 r2.2.2) (G2.keep _ _ (st b3 r2.1) h2))) λh6 k6 b6=>X5 ?_)
 have o6:Br h6 TO x b:=b6.extBut _ _ i2O.symm o5
 refine Xe (BX o6 rfl (Xe (Zkl (s:={ s with heap:=h6 }) o6 λh7 o7 b7=>Xe (wpAny_letGo (X5 (X5 ?_))))))
 replace o7:Br h7 TO x y:=o7
 refine Xe (BX o7 rfl (Xe (wpAny_newTuple ?_)))
 have sz:h7.objs.size=s.heap.objs.size:=by rw[b7.1,b6.1,b5.1,b4.1,b3.1]
 have z7:IsZip h7 z TI TO .ellipsis:=b7.extBut _ _ D.TOz.symm (b6.extBut _ _ i2z.symm (b5.extBut _ _ D.TOz.symm (b4.extBut _ _ i1z.symm z3)))
 have t1:T1 h7:=G1.keep' _ _ (st b7 r1.2.1) (G1.keep' _ _ (st b6 r1.2.2) (G1.keep' _ _ (st b5 r1.2.1) k4))
 have t2:T2 h7:=G2.keep' _ _ (st b7 r2.2.1) k6
 have old:∀c o,c∉[z,TO,i1,i2]->s.heap.get? c=some o->h7.get? c=some o:=λc o n e=>by
  simp only[Xw,VP,or_false,not_or]at n
  exact b7.extBut _ _ n.2.1 (b6.extBut _ _ n.2.2.2 (b5.extBut _ _ n.2.1 (b4.extBut _ _ n.2.2.1 (b3.extBut _ _ n.1 e))))
 show XN _ _ (Uu (.ref z) (.ref h7.objs.size)>>=_) _ _ _
 refine Xe ?_
 unfold Uu
 have zp:IsZip (h7.push { cls:=.type "tuple",data:=.seq #[x,y] }) z TI TO .ellipsis:=Xj _ z7
 refine Xe (Vg zp (by simp) λh8 z8 b8=>?_)
 replace z8:IsZip h8 z TI TO (rawInt h7.objs.size):=z8
 refine Vg z8 (by simp) λh9 z9 b9=>?_
 replace z9:IsZip h9 z TI TO (rawInt h7.objs.size):=z9
 have up:∀c o,c≠z->h7.get? c=some o->h9.get? c=some o:=λc o n e=>b9.extBut _ _ n (b8.extBut _ _ n (Xj _ e))
 have nz:h7.objs.size≠z:=XJ (Xz z7)
 have p9:Br h9 h7.objs.size x y:=b9.extBut _ _ nz (b8.extBut _ _ nz (Qa _ rfl))
 refine X5 ⟨_,rfl,?_⟩
 show Q (.ref h7.objs.size) _
 rw[sz]at z9 p9⊢
 exact hQ h9 z9 (up _ _ D.TOz o7) (G1.keep' _ _ (λc hc o e=>up c o (λq=>r1.1 (q▸hc)) e) t1) (G2.keep' _ _ (λc hc o e=>up c o (λq=>r2.1 (q▸hc)) e) t2) p9 λc o n e=>up c o (λq=>n (by simp[q])) (old c o n e)
theorem Zuc{z TI TO i1 i2:Addr}{f1 f2:List Addr}{S1 T1 S2:Heap->Prop}{a b:Xc}{Q:Fin->Xd->Prop}(hh:A.handled=none)(D:ZA z TI TO i1 i2 f1 f2)(g1:Zkh P w i1 f1 S1∨(∃x,Gives P w i1 f1 S1 x T1)∧Zkh P w i2 f2 S2)
  (hz:IsZip s.heap z TI TO .none) (hTI:Br s.heap TI (.ref i1) (.ref i2)) (hTO:Br s.heap TO a b) (h1:S1 s.heap) (h2:S2 s.heap)
  (hE:∀h' e,(∀c o,c∉[z,TO,i1,i2]->s.heap.get? c=some o->h'.get? c=some o)->(∃o,h'.get? e=some o∧o.cls= .type "StopIteration")->E (.ref e) { s with heap:=h' }) :
  XN (X7 P w) A (Ui.«zip.__next__» ⟨[.ref z],[]⟩) Q E s:=by
 have r1:z∉f1∧TO∉f1∧i2∉f1:=⟨λm=>(D.a1 z m).1 rfl,λm=>(D.a1 TO m).2.1 rfl,λm=>(D.a1 i2 m).2.2 rfl⟩
 have r2:z∉f2∧TO∉f2∧i1∉f2:=⟨λm=>(D.a2 z m).1 rfl,λm=>(D.a2 TO m).2.1 rfl,λm=>(D.a2 i1 m).2.2 rfl⟩
 have st:∀{b:Addr} {h h':Heap} {f:List Addr},Vo b h h'->b∉f->∀c∈f,∀o,h.get? c=some o->h'.get? c=some o:=λsb hb c hc o e=>sb.extBut _ _ (λq=>hb (q▸hc)) e
 show XN _ _ (field (.ref z) 2>>=_) _ _ _
 refine Xe (Bs hz rfl (x:=.bool false) rfl ?_)
 show XN _ _ (field (.ref z) 3>>=_) _ _ _
 refine Xe (Bs hz rfl (x:=.ref TI) rfl (Xe (BX hTI rfl ?_)))
 show XN _ _ (JS (.ref z)>>=_) _ _ _
 refine Xe ?_
 unfold JS
 refine Xe (Bs hz rfl (x:=.none) rfl (X5 ?_))
 simp only[if_true]
 refine Xe (wpAny_rule (Xe (Bs hz rfl (x:=.ref TO) rfl (Xe (Vg hz (by simp) λh3 z3 b3=>?_)))))
 replace z3:IsZip h3 z TI TO .ellipsis:=z3
 refine Xe ?_
 simp only[List.zipIdx_cons,List.zipIdx_nil,Ua,VB]
 refine Xe (Xe (wpAny_onRaise ?_))
 show XN _ _ (QR (.ref i1)>>=_) _ _ _
 rcases g1 with G1|⟨⟨x,G1⟩,G2⟩
 ·obtain⟨i1z,i1O,i12⟩:=D.a1 i1 G1.mem
  refine Xe (G1.run (s:={ s with heap:=h3 }) hh (G1.keep _ _ (st b3 r1.1) h1) λh4 e b4 he=>?_)
  obtain⟨oe,hoe,hce⟩:=he
  have z4:IsZip h4 z TI TO .ellipsis:=b4 _ _ i1z.symm z3
  have ez:e≠z:=λq=>by subst q;rw[z4]at hoe;cases hoe;simp at hce
  refine Vg z4 (by simp) λh5 _ b5=>hE h5 e (λc o n q=>?_) ⟨oe,b5.extBut _ _ ez hoe,hce⟩
  simp only[Xw,VP,or_false,not_or]at n
  exact b5.extBut _ _ n.1 (b4 _ _ n.2.2.1 (b3.extBut _ _ n.1 q))
 ·obtain⟨i1z,i1O,i12⟩:=D.a1 i1 G1.mem
  obtain⟨i2z,i2O,i21⟩:=D.a2 i2 G2.mem
  refine Xe (G1.run (s:={ s with heap:=h3 }) (G1.keep _ _ (st b3 r1.1) h1) λh4 k4 b4=>X5 ?_)
  have o4:Br h4 TO a b:=b4.extBut _ _ i1O.symm (b3.extBut _ _ D.TOz hTO)
  refine Xe (BX o4 rfl (Xe (Zkl (s:={ s with heap:=h4 }) o4 λh5 o5 b5=>Xe (wpAny_letGo (X5 ?_)))))
  refine Xe (Xe (wpAny_onRaise ?_))
  show XN _ _ (QR (.ref i2)>>=_) _ _ _
  refine Xe (G2.run (s:={ s with heap:=h5 }) hh (G2.keep _ _ (st b5 r2.2.1) (G2.keep _ _ (st b4 r2.2.2) (G2.keep _ _ (st b3 r2.1) h2))) λh6 e b6 he=>?_)
  obtain⟨oe,hoe,hce⟩:=he
  have z6:IsZip h6 z TI TO .ellipsis:=b6 _ _ i2z.symm (b5.extBut _ _ D.TOz.symm (b4.extBut _ _ i1z.symm z3))
  have ez:e≠z:=λq=>by subst q;rw[z6]at hoe;cases hoe;simp at hce
  refine Vg z6 (by simp) λh7 _ b7=>hE h7 e (λc o n q=>?_) ⟨oe,b7.extBut _ _ ez hoe,hce⟩
  simp only[Xw,VP,or_false,not_or]at n
  exact b7.extBut _ _ n.1 (b6 _ _ n.2.2.2 (b5.extBut _ _ n.2.1 (b4.extBut _ _ n.2.2.1 (b3.extBut _ _ n.1 q))))
theorem Zqa{z TI TO i1 i2:Addr}{f1 f2:List Addr}{S1 T1 S2 T2:Heap->Prop}{x y a b:Xc}{Q:Option Xc->Xd->Prop}(D:ZA z TI TO i1 i2 f1 f2)(G1:Gives P w i1 f1 S1 x T1)(G2:Gives P w i2 f2 S2 y T2)
  (hz:IsZip s.heap z TI TO .none) (hTI:Br s.heap TI (.ref i1) (.ref i2)) (hTO:Br s.heap TO a b) (h1:S1 s.heap) (h2:S2 s.heap)
  (hQ:∀h',IsZip h' z TI TO (rawInt s.heap.objs.size)->Br h' TO x y->T1 h'->T2 h'->Br h' s.heap.objs.size x y ->
   (∀ c o,c∉[z,TO,i1,i2]->s.heap.get? c=some o->h'.get? c=some o)->Q (some (.ref s.heap.objs.size)) { s with heap:=h' }):XN (X7 P w) A (pyNext (.ref z)) Q E s:=by
 have hT:s.TypeIs (.ref z) "zip" :=⟨_,hz,rfl⟩
 unfold pyNext
 exact Xe (wpAny_attempt (VL (name:=Str.ofString "__next__") hT F.slot_zip_next (Vs F.slot_zip_next hT F.entry_zip_next (Zrz D G1 G2 hz hTI hTO h1 h2 λh' a1 a2 a3 a4 a5 a6=>X5 (hQ h' a1 a2 a3 a4 a5 a6)) (F.args_zip_next_1 _))))
theorem Zrs{z TI TO i1 i2:Addr}{f1 f2:List Addr}{S1 T1 S2:Heap->Prop}{a b:Xc}{Q:Option Xc->Xd->Prop}(hh:A.handled=none)(D:ZA z TI TO i1 i2 f1 f2)(g1:Zkh P w i1 f1 S1∨(∃x,Gives P w i1 f1 S1 x T1)∧Zkh P w i2 f2 S2)
  (hz:IsZip s.heap z TI TO .none) (hTI:Br s.heap TI (.ref i1) (.ref i2)) (hTO:Br s.heap TO a b) (h1:S1 s.heap) (h2:S2 s.heap)
  (hQ:∀h',(∀c o,c∉[z,TO,i1,i2]->s.heap.get? c=some o->h'.get? c=some o)->Q none { s with heap:=h' }):XN (X7 P w) A (pyNext (.ref z)) Q E s:=by
 have hT:s.TypeIs (.ref z) "zip" :=⟨_,hz,rfl⟩
 unfold pyNext
 refine Xe (wpAny_attempt (VL (name:=Str.ofString "__next__") hT F.slot_zip_next (Vs F.slot_zip_next hT F.entry_zip_next (Zuc hh D g1 hz hTI hTO h1 h2 λh' e hk he=>?_) (F.args_zip_next_1 _))))
 obtain⟨o,ho,hc⟩:=he
 exact Xe (wpAny_isInstance (T :="StopIteration") (b:=true) ⟨o,ho,hc⟩ isSubtype_stop (X5 (hQ _ hk)))
theorem Zsq{it t:Addr}{i:Nat}{items:Array Xc}{x:Xc}(hx:items[i]? =some x):Gives P w it [it,t] (λh=>IsTupIter h it t i∧IsTup h t items) x (λh=>IsTupIter h it t (i+1)) where
 mem:=by simp
 run:=fun{A E s Q} ⟨hit,ht⟩ hQ=>by
  obtain⟨o,ho,hc,hd⟩:=id hit
  obtain⟨ol,hol,_,nl,hdl⟩:=ht
  unfold QR
  refine Xe (VL (name:=Str.ofString "__next__") hit.typeIs UG (Vs UG hit.typeIs entry_tupleiter_next ?_ (args_tupleiter_next _)))
  show XN _ _ (field (.ref it) 0>>=_) _ _ s
  refine Xe (Bs ho hd (x:=.ref t) rfl ?_)
  show XN _ _ (if(Q4 t==QH)=true then _ else _) _ _ s
  rw[if_neg (show¬((Q4 t==QH)=true)from Xu)]
  show XN _ _ (field (.ref it) 1>>=_) _ _ s
  refine Xe (Bs ho hd (x:=.int i 0) rfl ?_)
  show XN _ _ (seqItems? (.ref t)>>=_) _ _ s
  refine Xe (BX hol hdl ?_)
  simp only[Qn,hx]
  refine Xe (wpAny_setField ho hd (by simp) (X5 ⟨x,rfl,X5 (hQ _ ?_ (Heap.SameBut.update ..))⟩))
  exact⟨_,Heap.get?_update_self _ ho (Obj.isFreed_of_fields (Obj.data_mapFields hd _)),(Obj.cls_mapFields ..).trans hc,by rw[Obj.data_mapFields hd];simp[rawInt]⟩
 keep:=λh h' k ⟨⟨o,a1,a2⟩,⟨o',b1,b2⟩⟩=>⟨⟨o,k it (by simp) o a1,a2⟩,⟨o',k t (by simp) o' b1,b2⟩⟩
 keep':=λh h' k ⟨o,a1,a2⟩=>⟨o,k it (by simp) o a1,a2⟩
theorem Zt1{it t:Addr}{i:Nat}{items:Array Xc}(hx:items[i]? =none):Zkh P w it [it,t] (λh=>IsTupIter h it t i∧IsTup h t items) where
 mem:=by simp
 run:=fun{A E s Q} hh ⟨hit,ht⟩ hE=>by
  obtain⟨o,ho,hc,hd⟩:=id hit
  obtain⟨ol,hol,_,nl,hdl⟩:=ht
  unfold QR
  refine Xe (VL (name:=Str.ofString "__next__") hit.typeIs UG (Vs UG hit.typeIs entry_tupleiter_next ?_ (args_tupleiter_next _)))
  show XN _ _ (field (.ref it) 0>>=_) _ _ s
  refine Xe (Bs ho hd (x:=.ref t) rfl ?_)
  show XN _ _ (if(Q4 t==QH)=true then _ else _) _ _ s
  rw[if_neg (show¬((Q4 t==QH)=true)from Xu)]
  show XN _ _ (field (.ref it) 1>>=_) _ _ s
  refine Xe (Bs ho hd (x:=.int i 0) rfl ?_)
  show XN _ _ (seqItems? (.ref t)>>=_) _ _ s
  refine Xe (BX hol hdl ?_)
  simp only[Qn,hx]
  refine Xe (wpAny_rule (Xe (wpAny_setField ho hd (by simp) ?_)))
  show XN _ _ (newExc (.type "StopIteration") []>>=_) _ _ _
  refine Xe ?_
  simp only[newExc,newTuple]
  refine Xe (wpAny_newObj_type ?_ (by size_fits))
  refine Xe (m:=firstArgMember _ _) (wpAny_of_eq (a:=QH) (by first|rfl|(simp only[firstArgMember];rfl)) ?_)
  refine wpAny_newObj_type ?_ (by size_fits)
  simp only[raiseNew]
  refine Xe (wpAny_handled ?_)
  first|rw[show A.in1.handled=none from hh]|rw[hh]
  exact Xe (X5 (wpAny_throw (hE _ _ (((Heap.SameBut.update ..).extBut.push _).push _) ⟨_,Qa _ rfl,rfl⟩)))
 keep:=λh h' k ⟨⟨o,a1,a2⟩,⟨o',b1,b2⟩⟩=>⟨⟨o,k it (by simp) o a1,a2⟩,⟨o',k t (by simp) o' b1,b2⟩⟩
end
noncomputable abbrev zT1(h:Heap)(a:Addr):Heap:=h.push { cls:=.type "tuple_iterator",data:=.fields #[.ref a,.int 0 0] }
noncomputable abbrev zT2(h:Heap)(a b:Addr):Heap:=(zT1 h a).push { cls:=.type "tuple_iterator",data:=.fields #[.ref b,.int 0 0] }
noncomputable abbrev zT3(h:Heap)(a b:Addr):Heap:=(zT2 h a b).push { cls:=.type "tuple",data:=.seq #[.ref h.objs.size,.ref (zT1 h a).objs.size] }
noncomputable abbrev zT4(h:Heap)(a b:Addr):Heap:=(zT3 h a b).push { cls:=.type "tuple",data:=.seq #[.none,.none] }
noncomputable abbrev zT5(h:Heap)(a b:Addr):Heap:=(zT4 h a b).push { cls:=.type "zip",data:=.fields #[.none,.bool false,.bool false,.ref (zT2 h a b).objs.size,.ref (zT3 h a b).objs.size] }
theorem Zv0(a b:Addr)(xs ys:Array Xc) :
  Meets (Ui.«zip.__new__» ⟨[.type "zip",.ref a,.ref b],[]⟩) (λ_ R s=>IsTup s.heap a xs∧IsTup s.heap b ys∧R (.ok (.ret (.ref (zT4 s.heap a b).objs.size))) { s with heap:=zT5 s.heap a b }) :=
 .of_wp λprog w A R s h=>by
  obtain⟨hp,g,d,tk,os⟩:=s
  obtain⟨h1,h2,h⟩:=h
  have hsub:=sub_zip
  have hL1:IsTup (Xd.heap ⟨hp,g,d,tk,os⟩) a xs:=h1
  have hL2:IsTup (Xd.heap ⟨hp.push { cls:=.type "tuple_iterator",data:=.fields #[.ref a,.int 0 0] },g,d,tk,os⟩) b ys:=h2.push _
  wp_walk using iter_tuple hL1,iter_tuple hL2
  exact⟨_,rfl,h⟩
section
variable {P:XM}{w:Qo}{A:Ql}{E:Xc->Xd->Prop}{s:Xd}
theorem Zrb{a b:Addr}{xs ys:Array Xc}{Q:Xc->Xd->Prop}(h1:IsTup s.heap a xs)(h2:IsTup s.heap b ys)
  (h:∀h' n,n=s.heap.objs.size->IsZip h' (n+4) (n+2) (n+3) .none->Br h' (n+2) (.ref n) (.ref (n+1))->Br h' (n+3) .none .none->IsTupIter h' n a 0->IsTupIter h' (n+1) b 0 ->
   (∀ c o,s.heap.get? c=some o->h'.get? c=some o)->Q (.ref (n+4)) { s with heap:=h' }):XN (X7 P w) A (call (.type "zip") [.ref a,.ref b]) Q E s:=by
 refine callType_new F.called_zip (by decide) (F.typeCall_zip_2 _ _) (F.newCall_zip_2 _ _) (λobj=>F.args_object_init_3 obj _ _) F.entry_zip_new (Zv0 a b xs ys) ⟨h1,h2,?_⟩
 have e1:(zT1 s.heap a).objs.size=s.heap.objs.size+1:=JB ..
 have e2:(zT2 s.heap a b).objs.size=s.heap.objs.size+2:=by rw[JB,e1]
 have e3:(zT3 s.heap a b).objs.size=s.heap.objs.size+3:=by rw[JB,e2]
 have e4:(zT4 s.heap a b).objs.size=s.heap.objs.size+4:=by rw[JB,e3]
 have up:∀{c o},(zT1 s.heap a).get? c=some o->(zT5 s.heap a b).get? c=some o:=λx=>Xj _ (Xj _ (Xj _ (Xj _ x)))
 have p5:(zT5 s.heap a b).get? (zT4 s.heap a b).objs.size=some _:=Qa _ rfl
 have p4:(zT5 s.heap a b).get? (zT3 s.heap a b).objs.size=some _:=Xj _ (Qa _ rfl)
 have p3:(zT5 s.heap a b).get? (zT2 s.heap a b).objs.size=some _:=Xj _ (Xj _ (Qa _ rfl))
 have p2:(zT5 s.heap a b).get? (zT1 s.heap a).objs.size=some _:=Xj _ (Xj _ (Xj _ (Qa _ rfl)))
 have p1:(zT5 s.heap a b).get? s.heap.objs.size=some _:=up (Qa _ rfl)
 show _∧_
 rw[e2,e3,e4]at p5
 rw[e1,e2]at p3
 rw[e3]at p4
 rw[e1]at p2
 rw[e4]
 exact⟨⟨_,p5,rfl⟩,h _ _ rfl p5 p3 p4 ⟨_,p1,rfl,rfl⟩ ⟨_,p2,rfl,rfl⟩ λc o x=>up (Xj _ x)⟩
end
theorem nn{n a b:Nat}(h:a≠b):n+a≠n+b:=λe=>h (Nat.add_left_cancel e)
theorem n0{n b:Nat}(h:0≠b):n≠n+b:=λe=>h (Nat.add_left_cancel (n:=n) e)
theorem nlt{n a c:Nat}(h:a<n):a≠n+c:=Xp (Qd h (Vp ..))
theorem ZA.new{n a b:Nat}(h1:a<n)(h2:b<n):ZA (n+4) (n+2) (n+3) n (n+1) [n,a] [n+1,b] where
 TIz:=(by first|exact nn (by decide)|exact n0 (by decide)|exact(n0 (by decide)).symm|exact nlt h1|exact nlt h2|exact(nlt h1).symm|exact(nlt h2).symm|exact Xp h1|exact Xp h2|exact XJ h1|exact XJ h2|omega)
 TOz:=(by first|exact nn (by decide)|exact n0 (by decide)|exact(n0 (by decide)).symm|exact nlt h1|exact nlt h2|exact(nlt h1).symm|exact(nlt h2).symm|exact Xp h1|exact Xp h2|exact XJ h1|exact XJ h2|omega)
 a1:=λc hc=>by
  simp only[Xw,VP,or_false]at hc
  rcases hc with rfl|rfl
  ·exact⟨(by first|exact nn (by decide)|exact n0 (by decide)|exact(n0 (by decide)).symm|exact nlt h1|exact nlt h2|exact(nlt h1).symm|exact(nlt h2).symm|exact Xp h1|exact Xp h2|exact XJ h1|exact XJ h2|omega),(by first|exact nn (by decide)|exact n0 (by decide)|exact(n0 (by decide)).symm|exact nlt h1|exact nlt h2|exact(nlt h1).symm|exact(nlt h2).symm|exact Xp h1|exact Xp h2|exact XJ h1|exact XJ h2|omega),(by first|exact nn (by decide)|exact n0 (by decide)|exact(n0 (by decide)).symm|exact nlt h1|exact nlt h2|exact(nlt h1).symm|exact(nlt h2).symm|exact Xp h1|exact Xp h2|exact XJ h1|exact XJ h2|omega)⟩
  ·exact⟨(by first|exact nn (by decide)|exact n0 (by decide)|exact(n0 (by decide)).symm|exact nlt h1|exact nlt h2|exact(nlt h1).symm|exact(nlt h2).symm|exact Xp h1|exact Xp h2|exact XJ h1|exact XJ h2|omega),(by first|exact nn (by decide)|exact n0 (by decide)|exact(n0 (by decide)).symm|exact nlt h1|exact nlt h2|exact(nlt h1).symm|exact(nlt h2).symm|exact Xp h1|exact Xp h2|exact XJ h1|exact XJ h2|omega),(by first|exact nn (by decide)|exact n0 (by decide)|exact(n0 (by decide)).symm|exact nlt h1|exact nlt h2|exact(nlt h1).symm|exact(nlt h2).symm|exact Xp h1|exact Xp h2|exact XJ h1|exact XJ h2|omega)⟩
 a2:=λc hc=>by
  simp only[Xw,VP,or_false]at hc
  rcases hc with rfl|rfl
  ·exact⟨(by first|exact nn (by decide)|exact n0 (by decide)|exact(n0 (by decide)).symm|exact nlt h1|exact nlt h2|exact(nlt h1).symm|exact(nlt h2).symm|exact Xp h1|exact Xp h2|exact XJ h1|exact XJ h2|omega),(by first|exact nn (by decide)|exact n0 (by decide)|exact(n0 (by decide)).symm|exact nlt h1|exact nlt h2|exact(nlt h1).symm|exact(nlt h2).symm|exact Xp h1|exact Xp h2|exact XJ h1|exact XJ h2|omega),(by first|exact nn (by decide)|exact n0 (by decide)|exact(n0 (by decide)).symm|exact nlt h1|exact nlt h2|exact(nlt h1).symm|exact(nlt h2).symm|exact Xp h1|exact Xp h2|exact XJ h1|exact XJ h2|omega)⟩
  ·exact⟨(by first|exact nn (by decide)|exact n0 (by decide)|exact(n0 (by decide)).symm|exact nlt h1|exact nlt h2|exact(nlt h1).symm|exact(nlt h2).symm|exact Xp h1|exact Xp h2|exact XJ h1|exact XJ h2|omega),(by first|exact nn (by decide)|exact n0 (by decide)|exact(n0 (by decide)).symm|exact nlt h1|exact nlt h2|exact(nlt h1).symm|exact(nlt h2).symm|exact Xp h1|exact Xp h2|exact XJ h1|exact XJ h2|omega),(by first|exact nn (by decide)|exact n0 (by decide)|exact(n0 (by decide)).symm|exact nlt h1|exact nlt h2|exact(nlt h1).symm|exact(nlt h2).symm|exact Xp h1|exact Xp h2|exact XJ h1|exact XJ h2|omega)⟩
theorem ZA.new2(n:Nat):(n+2:Nat)≠n+3∧(n+2:Nat)≠n∧(n+2:Nat)≠n+1:=⟨nn (by decide),(n0 (by decide)).symm,nn (by decide)⟩
section
variable {X:Cx}{io:List Nat}{p c:Bool}{a b:Expr}{mr:MAt}
noncomputable def Z2j(ds:List Xa):Option (List Xa):=match ds with|[.list as,.list bs]=>some (Zo6 as bs)|[.tuple as,.tuple bs]=>some (Zo6 as bs)|_=>none
noncomputable def Zdb(a:FA):FI:=λδ=>(a δ).bind λp=>(Z2j (OT.datas p.1)).bind λds=>some (ds,p.2)
end
variable {G:Xb}
section
variable {X:Cx}{io:List Nat}{p c:Bool}{a b e:Expr}{mr:MAt}{ra:FA}{i:Nat}
noncomputable def isFn(y:Str)(d:Xa):Bool:=match d with| .dict [(.str x,.bool true)]=>decide (x=y)|_=>false
end
section
variable {X:Cx}{io:List Nat}{p c:Bool}{a:Expr}{mr:MAt}{ra:FA}
end
variable {G:Xb}
theorem Z4w{α:Type}{p:α->Prop}{a b c d:α}(h1:p a)(h2:p b)(h3:p c)(h4:p d):∀x∈[a,b,c,d],p x:=by
 intro x hx
 rcases Xw.mp hx with rfl|hx
 ·exact h1
 rcases Xw.mp hx with rfl|hx
 ·exact h2
 rcases Xw.mp hx with rfl|hx
 ·exact h3
 rcases Qj.mp hx with rfl
 exact h4
theorem Z7g{α:Type}{p:α->Prop}{a b c d e:α}(h1:p a)(h2:p b)(h3:p c)(h4:p d)(h5:p e):∀x∈[a,b,c,d,e],p x:=λx hx=>(Xw.mp hx).elim (λq=>q▸h1) (Z4w h2 h3 h4 h5 x)
theorem no4{α:Type}{a b c d x:α}(h1:x≠a)(h2:x≠b)(h3:x≠c)(h4:x≠d):x∉[a,b,c,d]:=λhx=>Z4w (p:=λy=>x≠y) h1 h2 h3 h4 x hx rfl
noncomputable def SqB(K:Xb)(t:Bool)(H:Hp)(a:Addr)(xs:List V):Prop:=match t with|true=>H a=some (.tup xs)|false=>SqL K H a xs
noncomputable def IsB(t:Bool)(h:Heap)(a:Addr)(its:Array Xc):Prop:=match t with|true=>IsTup h a its|false=>h.IsList a its
noncomputable def ItB(t:Bool)(h:Heap)(it a:Addr)(i:Nat):Prop:=match t with|true=>IsTupIter h it a i|false=>h.IsListIter it a i
theorem ItB.at{t:Bool}{h h':Heap}{it a:Addr}{i:Nat}(x:ItB t h it a i)(k:∀o,h.get? it=some o->h'.get? it=some o):ItB t h' it a i:=by
 cases t with
 | false=>exact Heap.IsListIter.at x k
 | true=>
  obtain⟨o,ho,r⟩:=x
  exact⟨o,k o ho,r⟩
theorem ItB.obj{t:Bool}{h:Heap}{it a:Addr}{i:Nat}(x:ItB t h it a i):∃o,h.get? it=some o∧∀v,o.data≠ .cell v:=by
 cases t with
 | false=>
  obtain⟨o,ho,_,d⟩:=x
  exact⟨o,ho,λv q=>by rw[d]at q;cases q⟩
 | true=>
  obtain⟨o,ho,_,d⟩:=x
  exact⟨o,ho,λv q=>by rw[d]at q;cases q⟩
theorem IsB.lt{t:Bool}{h:Heap}{a:Addr}{its:Array Xc}(x:IsB t h a its):a<h.objs.size:=by
 cases t with
 | false=>
  obtain⟨o,ho,_⟩:=x
  exact Xz ho
 | true=>
  obtain⟨o,ho,_⟩:=x
  exact Xz ho
theorem SqB.its{X:Cx}{pins:List (Addr×Obj)}{σ:St}{H:Hp}{s:Xd}{t:Bool}{a:Addr}{xs:List V}(I:Inv X pins σ H s)(h:SqB X.K t H a xs):∃its:List Xc,Vals xs its∧IsB t s.heap a its.toArray:=by
 cases t with
 | false=>
  obtain⟨its,r,p,_⟩:=I.list h
  exact⟨its,r,p.isList⟩
 | true=>
  obtain⟨_,its,r,p⟩:=(show ObjOk X.prog X.w H s.heap a (.tup xs)from I.hok a _ h)
  exact⟨its,r,p⟩
theorem SqB.inj{X:Cx}{pins:List (Addr×Obj)}{σ:St}{H:Hp}{s:Xd}{t:Bool}{a:Addr}{xs ys:List V}(I:Inv X pins σ H s)(h:SqB X.K t H a xs)(k:SqB X.K t H a ys):xs=ys:=by
 cases t with
 | false=>exact I.list_inj h k
 | true=>
  have:=(show H a=some (.tup xs)from h).symm.trans k
  cases this
  rfl
section
variable {P:XM}{w:Qo}
theorem Zsc{t:Bool}{it a:Addr}{i:Nat}{items:Array Xc}{x:Xc}(hx:items[i]? =some x):Gives P w it [it,a] (λh=>ItB t h it a i∧IsB t h a items) x (λh=>ItB t h it a (i+1)):=by
 cases t with
 | true=>exact Zsq hx
 | false=>
  exact⟨.head _,λst hQ=>wpAny_nextOf_list_item st.1 st.2 hx hQ,λh h' k st=>⟨Heap.IsListIter.at st.1 λo e=>k it (.head _) o e,by
   obtain⟨o,ho,r⟩:=st.2
   exact⟨o,k a (.tail _ (.head _)) o ho,r⟩⟩,λh h' k st=>Heap.IsListIter.at st λo e=>k it (.head _) o e⟩
theorem Z5h{t:Bool}{it a:Addr}{i:Nat}{items:Array Xc}(hx:items[i]? =none):Zkh P w it [it,a] (λh=>ItB t h it a i∧IsB t h a items):=by
 cases t with
 | true=>exact Zt1 hx
 | false=>
  exact⟨.head _,λhh st hE=>wpAny_nextOf_list_end hh st.1 st.2 hx hE,λh h' k st=>⟨Heap.IsListIter.at st.1 λo e=>k it (.head _) o e,by
   obtain⟨o,ho,r⟩:=st.2
   exact⟨o,k a (.tail _ (.head _)) o ho,r⟩⟩⟩
end
noncomputable def Ybk(K:Xb)(t:Bool)(a b:Addr):It :=
 ⟨λi H=>∃xs ys x y,SqB K t H a xs∧SqB K t H b ys∧xs[i]? =some x∧ys[i]? =some y,
   λi H v H'=>∃p x y,H p=none∧v= .ref p∧H'=upd H p (.tup [x,y])∧(∀xs,SqB K t H a xs->xs[i]? =some x)∧∀ys,SqB K t H b ys->ys[i]? =some y,
   λi H=>∃xs ys,SqB K t H a xs∧SqB K t H b ys∧(xs.length≤i∨ys.length≤i)⟩
noncomputable def Ybu(t:Bool)(z TI TO i1 i2 a b:Addr)(i:Nat)(h:Heap):Prop:=IsZip h z TI TO .none∧Br h TI (.ref i1) (.ref i2)∧(∃x y,Br h TO x y)∧ItB t h i1 a i∧ItB t h i2 b i
theorem Ztk{P:XM}{w:Qo}{K:Xb}{es:List Expr}{kk:Nat}{pos:Pos}{t:Bool}{z TI TO i1 i2 a b:Addr}(D:ZA z TI TO i1 i2 [i1,a] [i2,b])(D2:TI≠TO∧TI≠i1∧TI≠i2):Turn P w K (.Tuple es kk pos) (Ybk K t a b) [z,TI,TO,i1,i2] z (Ybu t z TI TO i1 i2 a b) where
 mem:=.head _
 obj:=λi h st=>by
  obtain⟨s1,s2,⟨x,y,s3⟩,s4,s5⟩:=st
  exact Z7g ⟨_,s1,λv q=>by cases q⟩ ⟨_,s2,λv q=>by cases q⟩ ⟨_,s3,λv q=>by cases q⟩ s4.obj s5.obj
 keep:=λi h h' st k=>by
  obtain⟨s1,s2,⟨x,y,s3⟩,s4,s5⟩:=st
  have m2:TI∈[z,TI,TO,i1,i2]:=.tail _ (.head _)
  have m3:TO∈[z,TI,TO,i1,i2]:=.tail _ (.tail _ (.head _))
  have m4:i1∈[z,TI,TO,i1,i2]:=.tail _ (.tail _ (.tail _ (.head _)))
  have m5:i2∈[z,TI,TO,i1,i2]:=.tail _ (.tail _ (.tail _ (.tail _ (.head _))))
  exact⟨k z (.head _) _ s1,k TI m2 _ s2,⟨x,y,k TO m3 _ s3⟩,s4.at (k i1 m4),s5.at (k i2 m5)⟩
 item:=by
  intro X hP hw hK hc i pins s σ H E I hf st hg
  subst hP hw hK
  obtain⟨s1,s2,⟨x0,y0,s3⟩,s4,s5⟩:=st
  obtain⟨xs,ys,x,y,hx,hy,ex,ey⟩:=hg
  obtain⟨its,rx,px⟩:=hx.its I
  obtain⟨its',ry,py⟩:=hy.its I
  obtain⟨u,hu,ru⟩:=rx.get ex
  obtain⟨u',hu',ru'⟩:=ry.get ey
  rw[←List.getElem?_toArray]at hu hu'
  refine Zqa D (Zsc hu) (Zsc hu') s1 s2 s3 ⟨s4,px⟩ ⟨s5,py⟩ λh' g1 g2 g3 g4 g5 g6=>?_
  refine⟨_,rfl,wpAny_letOwnedTupleGo_zip (s:={ s with heap:=h' }) g1 λh2 z2 sb=>?_⟩
  have up:∀c o,c≠z->h'.get? c=some o->h2.get? c=some o:=λc o n e=>(sb.2 c n).trans e
  have kp:∀c o,c∉[z,TO,i1,i2]->s.heap.get? c=some o->h2.get? c=some o:=λc o n e=>up c o (λq=>n (q▸ .head _)) (g6 c o n e)
  have t5:Br h2 s.heap.objs.size u u':=up _ _ (XJ (Xz s1)) g5
  have i1z:=(D.a1 i1 (.head _)).1
  have i2z:=(D.a2 i2 (.head _)).1
  have n3:=g3.at (up i1 · i1z)
  have n4:=g4.at (up i2 · i2z)
  obtain⟨f1,f2,f3,f4,f5⟩:(Zk1 X pins H z∧Zk1 X pins H TI∧Zk1 X pins H TO∧Zk1 X pins H i1∧Zk1 X pins H i2):=⟨hf _ (.head _),hf _ (.tail _ (.head _)),hf _ (.tail _ (.tail _ (.head _))),hf _ (.tail _ (.tail _ (.tail _ (.head _)))),hf _ (.tail _ (.tail _ (.tail _ (.tail _ (.head _)))))⟩
  have I2:Inv X pins σ (upd H s.heap.objs.size (.tup [x,y])) { s with heap:=h2 } :=
   I.turnTup (ch:=[z,TO,i1,i2]) (its:=[u,u']) (Z4w f1 f3 f4 f5) kp (Z4w ⟨_,z2⟩ ⟨_,up _ _ D.TOz g2⟩ (n3.obj.imp λ_ q=>q.1) (n4.obj.imp λ_ q=>q.1)) (Qi _) Z4t (.cons ru (.cons ru' .nil)) ⟨_,t5,rfl,0,rfl⟩
  have lt:∀{c:Addr} {o:Obj},s.heap.get? c=some o->Zk1 X pins H c->upd H s.heap.objs.size (.tup [x,y]) c=none:=λe f=>by rw[Z9 (Xp (Xz e))];exact f.1
  refine⟨.ref s.heap.objs.size,_,I2,rfl,⟨_,x,y,I.fresh,rfl,rfl,λzs hz=>by rw[hz.inj I hx];exact ex,λzs hz=>by rw[hz.inj I hy];exact ey⟩,⟨z2,kp TI _ (no4 D.TIz D2.1 D2.2.1 D2.2.2) s2,⟨_,_,up _ _ D.TOz g2⟩,n3,n4⟩,?_⟩
  obtain⟨o4,e4,_⟩:=s4.obj
  obtain⟨o5,e5,_⟩:=s5.obj
  exact Z7g (lt s1 f1) (lt s2 f2) (lt s3 f3) (lt e4 f4) (lt e5 f5)
 done:=by
  intro X hP hw hK hc i pins s σ H E I hf st hg
  subst hP hw hK
  obtain⟨s1,s2,⟨x0,y0,s3⟩,s4,s5⟩:=st
  obtain⟨xs,ys,hx,hy,he⟩:=hg
  obtain⟨its,rx,px⟩:=hx.its I
  obtain⟨its',ry,py⟩:=hy.its I
  have l1:=rx.length
  have l2:=ry.length
  refine Zrs (I.ok.hd hc) D (S1:=λh=>ItB t h i1 a i∧IsB t h a its.toArray) (T1:=λh=>ItB t h i1 a (i+1)) (S2:=λh=>ItB t h i2 b i∧IsB t h b its'.toArray) ?_ s1 s2 s3 ⟨s4,px⟩ ⟨s5,py⟩ λh' k=>⟨rfl,I.turnAll (ch:=[z,TO,i1,i2]) (Z4w (hf _ (.head _)) (hf _ (.tail _ (.tail _ (.head _)))) (hf _ (.tail _ (.tail _ (.tail _ (.head _))))) (hf _ (.tail _ (.tail _ (.tail _ (.tail _ (.head _))))))) k⟩
  cases q:its.toArray[i]? with
  | none=>exact .inl (Z5h q)
  | some v=>
   refine .inr ⟨⟨v,Zsc q⟩,Z5h ?_⟩
   have:=(Array.getElem?_eq_some_iff.mp q).1
   rw[Xx]at this
   rw[Array.getElem?_eq_none_iff,Xx]
   omega
 self:=λ_ _ _ _ _ st h=>wpAny_pyIter_zip st.1 h
theorem Zsm{P:XM}{w:Qo}{A:Ql}{E:Xc->Xd->Prop}{s:Xd}{t:Bool}{a b:Addr}{xs ys:Array Xc}{Q:Xc->Xd->Prop}(h1:IsB t s.heap a xs)(h2:IsB t s.heap b ys)
  (h:∀h' n,n=s.heap.objs.size->IsZip h' (n+4) (n+2) (n+3) .none->Br h' (n+2) (.ref n) (.ref (n+1))->Br h' (n+3) .none .none->ItB t h' n a 0->ItB t h' (n+1) b 0 ->
   (∀ c o,s.heap.get? c=some o->h'.get? c=some o)->Q (.ref (n+4)) { s with heap:=h' }):XN (X7 P w) A (call (.type "zip") [.ref a,.ref b]) Q E s:=by
 cases t with
 | true=>exact Zrb h1 h2 h
 | false=>exact call_zip_2 h1 h2 λh' g1 g2 g3 g4 g5 _ g7=>h h' _ rfl g1 g2 g3 g4 g5 g7
noncomputable def Z8b(K:Xb)(ta:TA):TI:=λσ H R=>ta σ H λvs H1=>∃t a b,vs=[.ref a,.ref b]∧(∃xs,SqB K t H1 a xs)∧(∃ys,SqB K t H1 b ys)∧R (Ybk K t a b) H1
theorem Zyy{X:Cx}{K:Xb}{a b:Expr}{ta:TA}{p pos pt:Pos}{es:List Expr}{kk:Nat}(hK:X.K=K)(hg:Gl X "zip")(hm:X.mg "zip"=none)(hv:Qk "zip"=some (.type "zip"))(ha:PA X [a,b] ta)
  (he:Xr [a,b] X.env=(false,eval a X.env) :: Xr [b] X.env:=by rfl) (hpl:(BJ pos (Xr [b] X.env)).any (·.1)=false:=by rfl) :
  PI X (.Tuple es kk pt) (.Call (.Name "zip" p) [a,b] [] pos) (Z8b K ta):=by
 subst hK
 intro pins s σ H R I h
 refine wpAny_Call_Name_kw (Zif I hg hm hv ?_ (by decide) (by decide))
 refine Ba (thn (ha pos pins s σ H _ I h) λus s1 q=>?_) he hpl
 obtain⟨vs,H1,I1,r1,t,l1,l2,e1,⟨xs,hx⟩,⟨ys,hy⟩,q⟩:=q
 subst e1
 obtain⟨u,u',rfl,ru,ru'⟩:=vals2 r1
 cases(show u=Q4 l1 from ru)
 cases(show u'=Q4 l2 from ru')
 obtain⟨its,rx,px⟩:=hx.its I1
 obtain⟨its',ry,py⟩:=hy.its I1
 refine Zsm px py λh' n en g1 g2 g3 g4 g5 g7=>?_
 have I2:Inv X pins σ H1 { s1 with heap:=h' }:=I1.kept (t':=s1.toks) g7
 refine wpAny_pyIter_zip (s:={ s1 with heap:=h' }) g1 ?_
 refine⟨_,[_,_,_,_,_],Ybu _ _ _ _ _ _ _ _,_,H1,rfl,I2,Ztk (ZA.new (en▸px.lt) (en▸py.lt)) (ZA.new2 n),⟨g1,g2,⟨_,_,g3⟩,g4,g5⟩,?_,q⟩
 subst en
 have ok:∀k:Nat,Zk1 X pins H1 (s1.heap.objs.size+k):=λk=>I1.fpOk (Vp _ _) (I1.hok.fresh (Vp _ _))
 exact Z7g (ok 4) (ok 2) (ok 3) (ok 0) (ok 1)
section
variable {X:Cx}{io:List Nat}{p c:Bool}{a b:Expr}{mr:MAt}{ra:FA}
noncomputable def Z6q(t:Bool)(as:List Xa):Xa:=match t with|true=>.tuple as|false=>.list as
theorem Rel.keptSq{C:MC G}{H:Hp}{σ:St}{δ:Zm}{fp:Fp}{ex:Addr->Prop}{v:V}{t:Bool}{ds:List Xa}(R:Rel C io H σ δ fp ex)(q:Da G H (λa=>c=true->Lf C fp ex a) v (Z6q t ds)) :
  ∃a xs,v= .ref a∧∀H':Hp,(∀b o,H b=some o->(c=false∨¬Foot fp b)->H' b=some o)->SqB G t H' a xs∧Das G H' (λa=>c=true->(Lf C fp ex a∧H a≠none)) xs ds:=by
 cases t with
 | false=>exact R.keptList q
 | true=>
  generalize hd:Z6q true ds=d at q
  cases q with
  | tup e r=>
   cases hd
   rename_i a0 xs0
   refine⟨a0,xs0,rfl,λH' kp=>?_⟩
   obtain⟨f1,f2⟩:=R.kept kp
   exact⟨f2 _ (.tup _) e,r.frame f1 f2⟩
  | _=>cases hd
theorem Ztz{ds es:List Xa}(h:Z2j ds=some es):∃t as bs,ds=[Z6q t as,Z6q t bs]∧es=Zo6 as bs:=by
 unfold Z2j at h
 split at h
 ·cases h;exact⟨false,_,_,rfl,rfl⟩
 ·cases h;exact⟨true,_,_,rfl,rfl⟩
 ·cases h
noncomputable def iZB(mr:MAt):MIt:=λδ K=>mr δ λrs δ'=>∃es,Z2j (OT.datas rs)=some es∧K es δ'
theorem Zdt{p' pos pt:Pos}{es:List Expr}{kk:Nat}(hg:Gl X "zip")(hm:X.mg "zip"=none)(hv:Qk "zip"=some (.type "zip"))(ha:MA X io p c [a,b] mr)
  (he:Xr [a,b] X.env=(false,eval a X.env) :: Xr [b] X.env:=by rfl) (hpl:(BJ pos (Xr [b] X.env)).any (·.1)=false:=by rfl):MI X io p c (.Tuple es kk pt) (.Call (.Name "zip" p') [a,b] [] pos) (iZB mr):=by
 obtain⟨_,A,s⟩:=ha
 refine⟨_,Zyy rfl hg hm hv A he hpl,λC H σ δ fp ex K' Q R h kk=>s C H σ δ fp ex _ _ R h λH1 vs rs δ1 fp1 new r1 h1=>?_⟩
 have q:=r1.das R
 obtain⟨es,hz,h1⟩:=h1
 obtain⟨t,as,bs,e,rfl⟩:=Ztz hz
 rw[e]at q
 cases q with
 | cons q1 q2=>
  cases q2 with
  | cons q2 q3=>
   cases q3
   have R1:=r1.base
   obtain⟨l1,xs,rfl,k1⟩:=R1.keptSq q1
   obtain⟨l2,ys,rfl,k2⟩:=R1.keptSq q2
   refine⟨t,l1,l2,rfl,⟨_,(k1 H1 λ_ _ e _=>e).1⟩,⟨_,(k2 H1 λ_ _ e _=>e).1⟩,kk _ H1 _ δ1 fp1 R1 r1.stp (λH' kp i=>?_) h1⟩
   obtain⟨s1,d1⟩:=k1 H' kp
   obtain⟨s2,d2⟩:=k2 H' kp
   refine⟨λd hd=>?_,λhd=>⟨_,_,s1,s2,by rw[d1.length,d2.length];exact Zrm hd⟩⟩
   obtain⟨x,y,hx,hy,rfl⟩:=Zuj hd
   obtain⟨u,hu,qu⟩:=d1.get hx
   obtain⟨w,hw,qw⟩:=d2.get hy
   refine⟨⟨_,_,u,w,s1,s2,hu,hw⟩,λv H'' hyl=>?_⟩
   obtain⟨t',u',w',ht,rfl,rfl,hu',hw'⟩:=hyl
   cases hu.symm.trans (hu' _ s1)
   cases hw.symm.trans (hw' _ s2)
   exact⟨Yu ht _,.tup Yo (.cons (qu.same (Yu ht _)) (.cons (qw.same (Yu ht _)) .nil))⟩
theorem Zd0{tg e:Expr}(g:MI X io p c tg e (iZB (o2 ra))):MI X io p c tg e (o2 (Zdb ra)):=g.weak λδ K h=>by
 obtain⟨r,δ',h,k⟩:=h
 obtain⟨⟨x,δ1⟩,h1,h⟩:=bs h
 obtain⟨ds,h2,h⟩:=bs h
 cases h
 exact⟨x,_,h1,_,h2,k⟩
end
end L2
namespace L2
open PySem PySem.Spec PyProof.Rows PySem.W
noncomputable def kEv{α:Type}(lt:Nat->Nat->Bool):KasT α->α
 | .ret a=>a
 | .ask i j k=>kEv lt (k (lt i j))
noncomputable def kGood{α:Type}(n:Nat)(P:α->Prop):KasT α->Prop
 | .ret a=>P a
 | .ask i j k=>i<n∧j<n∧∀b,kGood n P (k b)
theorem kGood.bind{α β:Type}{n:Nat}{P:α->Prop}{R:β->Prop}{f:α->KasT β}(hf:∀a,P a->kGood n R (f a)){t:KasT α}(h:kGood n P t):kGood n R (t.bind f):=by
 induction t with
 | ret a=>exact hf a h
 | ask i j k ih=>exact⟨h.1,h.2.1,λb=>ih b (h.2.2 b)⟩
theorem kGood.ev{α:Type}{n:Nat}{P:α->Prop}{lt:Nat->Nat->Bool}{t:KasT α}(h:kGood n P t):P (kEv lt t):=by
 induction t with
 | ret a=>exact h
 | ask i j k ih=>exact ih _ (h.2.2 _)
theorem kGood.wp{α:Type}{n:Nat}{P:α->Prop}{lt:Nat->Nat->Bool}{cmp:Nat->Nat->(Bool->Xd->Prop)->Xd->Prop}{s:Xd}{Q:α->Xd->Prop}(hc:∀i j C,i<n->j<n->C (lt i j) s->cmp i j C s){t:KasT α}(h:kGood n P t)(q:Q (kEv lt t) s):t.kasWp cmp Q s:=by
 induction t with
 | ret a=>exact q
 | ask i j k ih=>exact hc i j _ h.1 h.2.1 (ih _ (h.2.2 _) q)
noncomputable def kP(n:Nat)(p:Array Nat):Prop:=p.toList.Perm (Xn n)
theorem kP.at{n:Nat}{p:Array Nat}(h:kP n p)(h0:0<n)(i:Nat):p.getD i 0<n:=by
 by_cases c:i<p.size
 ·have e:p.getD i 0=p[i]:=by simp[Array.getD,c]
  rw[e]
  exact QB.mp (h.mem_iff.mp (Array.getElem_mem_toList c))
 ·have e:p.getD i 0=0:=by simp[Array.getD,c]
  rw[e];exact h0
theorem kP.rev{n:Nat}{p:Array Nat}(h:kP n p)(i j:Nat):kP n (kas_rev p i j):=(Array.perm_iff_toList_perm.mp (mirror_perm p i j _)).trans h
theorem kP.bub{n:Nat}{p:Array Nat}(h:kP n p)(i j:Nat):kP n (bubble p i j):=(Array.perm_iff_toList_perm.mp (bubble_perm p i j)).trans h
theorem Zpg{n:Nat}{p:Array Nat}(h:kP n p)(h0:0<n)(f m:Nat):kGood n (λ_=>True) (kas_asc p f m):=by
 induction f generalizing m with
 | zero=>exact trivial
 | succ f ih=>
  refine⟨h.at h0 _,h.at h0 _,λb=>?_⟩
  cases b
  ·exact ih _
  ·exact trivial
theorem Zqs{n:Nat}(h0:0<n)(f:Nat){p:Array Nat}(h:kP n p)(m q:Nat):kGood n (λr:Array Nat×Nat×Nat=>kP n r.1) (kas_desc f p m q):=by
 induction f generalizing p m q with
 | zero=>exact h
 | succ f ih=>
  refine⟨h.at h0 _,h.at h0 _,λb=>?_⟩
  cases b
  ·refine⟨h.at h0 _,h.at h0 _,λb=>?_⟩
   cases b
   ·exact ih h _ _
   ·exact h
  ·show kGood n _ (if q>0 then _ else _)
   split
   ·exact ih (h.rev _ _) _ _
   ·exact ih h _ _
theorem Zlw{n:Nat}{p:Array Nat}(h:kP n p)(h0:0<n)(m r:Nat):kGood n (λr:Nat×Array Nat=>kP n r.2) (kas_tail3 m r p):=by
 refine kGood.bind (P:=λ_=>True) (λa _=>?_) (Zpg (h.rev _ _) h0 _ _)
 exact h.rev _ _
theorem Zf0{n:Nat}{p:Array Nat}(h:kP n p)(h0:0<n)(m r:Nat):kGood n (λr:Nat×Array Nat=>kP n r.2) (kas_descPart m r p) :=
 (Zqs h0 _ h _ _).bind λx hx=>by
  show kGood n _ (if x.2.2>0 then _ else _)
  split
  ·exact Zlw (hx.rev _ _) h0 _ _
  ·exact Zlw hx h0 _ _
theorem Zpp{n:Nat}{p:Array Nat}(h:kP n p)(h0:0<n)(r:Nat):kGood n (λr:Nat×Array Nat=>kP n r.2) (kas_count r p) :=
 (Zpg h h0 _ _).bind λm _=>by
  show kGood n _ (if(m==r)=true then _ else if m>1 then _ else _)
  split
  ·exact h
  ·split
   ·refine⟨h.at h0 _,h.at h0 _,λb=>?_⟩
    cases b
    ·exact Zf0 (h.rev _ _) h0 _ _
    ·exact h
   ·exact Zf0 h h0 _ _
theorem Zpz{n:Nat}{p:Array Nat}(h:kP n p)(h0:0<n)(k f l r:Nat):kGood n (λ_=>True) (kas_place p k f l r):=by
 induction f generalizing l r with
 | zero=>exact trivial
 | succ f ih=>
  show kGood n _ (if l≥r then _ else _)
  split
  ·exact trivial
  ·refine⟨h.at h0 _,h.at h0 _,λb=>?_⟩
   cases b
   ·exact ih _ _
   ·exact ih _ _
theorem Zu6{n:Nat}(h0:0<n)(f:Nat){p:Array Nat}(h:kP n p)(k:Nat):kGood n (kP n) (kas_bin f p k):=by
 induction f generalizing p k with
 | zero=>exact h
 | succ f ih=>exact(Zpz h h0 _ _ _ _).bind λl _=>ih (h.bub _ _) _
theorem Zmr{n:Nat}(h0:0<n):kGood n (kP n) (kas_sort n) :=
 (Zpp (p:=JZ (Xn n)) (.refl _) h0 n).bind λr hr=>by
  show kGood n _ (if r.1<n then _ else _)
  split
  ·exact Zu6 h0 _ hr _
  ·exact hr
noncomputable def Z1i(lt:Nat->Nat->Bool)(n:Nat):List Nat:=(kEv lt (kas_sort n)).toList
theorem Zi9{lt:Nat->Nat->Bool}{n:Nat}(h0:0<n):(Z1i lt n).Perm (Xn n):=(Zmr h0).ev (P:=kP n)
end L2
namespace L2
open PySem PySem.Spec PyProof.Rows PySem.W PySem.SeqAt
open AutoSeq1 (wpAny_loadPart')
open MeetsSeq MeetsSeq2 MeetsSeq3 SeqRoads2
noncomputable def ltI:List Int->List Int->Bool
 | [],[]=>false
 | [],_ :: _=>true
 | _ :: _,[]=>false
 | x :: xs,y :: ys=>if x=y then ltI xs ys else decide (x<y)
theorem Zpa{vs:List Xc}{ns:List Int}(h:Bx vs ns)(i:Nat)(hi:i<vs.length):∃x t,vs[i]? =some (.int x t)∧ns.drop i=x :: ns.drop (i+1):=by
 induction h generalizing i with
 | nil=>exact absurd hi (Nat.not_lt_zero i)
 | cons n t h ih=>
  cases i with
  | zero=>exact⟨n,t,rfl,rfl⟩
  | succ i=>exact ih i (Nat.lt_of_succ_lt_succ hi)
theorem Zh0{vs:List Xc}{ns:List Int}(h:Bx vs ns):vs.length=ns.length:=by
 induction h with
 | nil=>rfl
 | cons n t h ih=>exact congrArg Nat.succ ih
theorem Zl0{xs ys:List Int}(h:xs=[]∨ys=[]):ltI xs ys=decide (xs.length<ys.length):=by
 cases xs<;>cases ys<;>first|rfl|(rcases h with h|h<;>cases h)|exact(decide_eq_true (Nat.succ_pos _)).symm
theorem Zsg(l b:Addr)(items items2:Array Xc)(n n2:Nat)(dd dd2:Option Addr)(sl sl2:Array (Option Xc)){xs ys:List Int}(h1:Bx items.toList xs)(h2:Bx items2.toList ys)(k:Nat) :
  ∀i:Nat,items.size-i=k->i≤items.size->i≤items2.size->Meets (Ui.«list.__eq__.loop» ⟨[.ref l,.ref b,rawInt i,rawInt 0],[]⟩)
   (λA R s=>s.heap.get? l=some { cls:=.type "list",dict:=dd,data:=.seq items n,slots:=sl }∧s.heap.get? b=some { cls:=.type "list",dict:=dd2,data:=.seq items2 n2,slots:=sl2 }∧
    R (.ok (.ret (.bool (ltI (xs.drop i) (ys.drop i))))) s):=by
 have e1:items.size=xs.length:=Zh0 h1
 have e2:items2.size=ys.length:=Zh0 h2
 have fin:∀i,i≤items.size->i≤items2.size->(i=items.size∨i=items2.size)->ltI (xs.drop i) (ys.drop i)=decide (items.size<items2.size):=λi u1 u2 c=>by
  rw[Zl0 (c.imp (λc=>VF (by omega)) λc=>VF (by omega)),JV,JV]
  exact decide_eq_decide.mpr (by omega)
 induction k with
 | zero=>
  intro i hk u1 u2 prog w A R s h
  obtain⟨hp,g,d,tk,os⟩:=s;obtain⟨hl,hb,h⟩:=h
  wp_walk using Q0 hl,Q0 hb
  have hi1:items[((i:Nat):Int).toNat]? =none:=by simp;omega
  rw[fin i u1 u2 (.inl (by omega))]at h
  rw[hi1]
  wp_walk using Q0 hl,Q0 hb
  exact h
 | succ k ih=>
  intro i hk u1 u2 prog w A R s h
  obtain⟨hp,g,d,tk,os⟩:=s;obtain⟨hl,hb,h⟩:=h
  have hlt:i<items.size:=by omega
  obtain⟨x,t,q1,q2⟩:=Zpa h1 i hlt
  have hi1:items[((i:Nat):Int).toNat]? =some (.int x t):=by rw[Qn,←q1,Ve]
  wp_walk using Q0 hl,Q0 hb
  by_cases c:i<items2.size
  ·obtain⟨y,u,q3,q4⟩:=Zpa h2 i c
   have hi2:items2[((i:Nat):Int).toNat]? =some (.int y u):=by rw[Qn,←q3,Ve]
   have hc:((i:Int)+1)=((i+1:Nat):Int):=by push_cast;rfl
   rw[q2,q4]at h
   unfold ltI at h
   rw[hi1,hi2]
   refine Xe (EqAt.int_int x t y u prog w _ _ ?_)
   by_cases cx:x=y
   ·rw[if_pos cx]at h
    rw[beq_iff_eq.mpr cx]
    wp_walk
    rw[hc]
    exact⟨plainId_quiet plain_eq_loop _,codeAny_builtin entry_eq_loop (by
     rw[Around.under_plainId plain_eq_loop _]
     exact ih (i+1) (by omega) (by omega) (by omega) prog w A R _ ⟨hl,hb,h⟩)⟩
   ·rw[if_neg cx]at h
    rw[beq_eq_false_iff_ne.mpr cx]
    wp_walk using Q0 hl,Q0 hb
    rw[hi1,hi2]
    refine Xe (lt_int ?_)
    wp_walk
    exact h
  ·have hi2:items2[((i:Nat):Int).toNat]? =none:=by simp;omega
   rw[fin i u1 u2 (.inr (by omega))]at h
   rw[hi1,hi2]
   wp_walk using Q0 hl,Q0 hb
   exact h
theorem Zqw(l b:Addr)(items items2:Array Xc)(n n2:Nat)(dd dd2:Option Addr)(sl sl2:Array (Option Xc)){xs ys:List Int}(h1:Bx items.toList xs)(h2:Bx items2.toList ys) :
  Meets (Ui.«list.__lt__» ⟨[.ref l,.ref b],[]⟩)
   (λA R s=>s.heap.get? l=some { cls:=.type "list",dict:=dd,data:=.seq items n,slots:=sl }∧s.heap.get? b=some { cls:=.type "list",dict:=dd2,data:=.seq items2 n2,slots:=sl2 }∧
    R (.ok (.ret (.bool (ltI xs ys)))) s):=by
 intro prog w A R s h
 obtain⟨hp,g,d,tk,os⟩:=s;obtain⟨hl,hb,h⟩:=h
 have f3:=AutoSeq1.sub_list_list
 wp_walk using Q0 hl,Q0 hb
 exact⟨plainId_quiet plain_eq_loop _,codeAny_builtin entry_eq_loop (by
  rw[Around.under_plainId plain_eq_loop _]
  exact Zsg l b items items2 n n2 dd dd2 sl sl2 h1 h2 _ 0 rfl (Q6 _) (Q6 _) prog w A R _ ⟨hl,hb,h⟩)⟩
section
variable {prog:XM}{w:Qo}{A:Ql}{E:Xc->Xd->Prop}{s:Xd}
theorem Zj5{l b:Addr}{items items2:Array Xc}{xs ys:List Int}{Q:Bool->Xd->Prop}(hu:A.units<cLine)(hl:s.heap.IsList l items)(hb:s.heap.IsList b items2)(h1:Bx items.toList xs)(h2:Bx items2.toList ys)(h:Q (ltI xs ys) s) :
  XN (X7 prog w) A (oneLt' true (.ref l) (.ref b)) Q E s:=by
 obtain⟨⟨cls,dd,data,sl⟩,hl,hc,n,hd⟩:=hl
 obtain⟨⟨cls2,dd2,data2,sl2⟩,hb,hc2,n2,hd2⟩:=hb
 simp only at hc hd hc2 hd2
 subst hc hd hc2 hd2
 rw[oneLt'_eq]
 simp only[if_true]
 refine Xe (wpAny_cRoomFor hu ?_)
 refine Xe (wpAny_callSpecialIfBound?_slot ⟨_,hl,rfl⟩ F.slot_list_lt (call_meets F.slot_list_lt ⟨_,hl,rfl⟩ F.entry_list_lt (F.args_list_lt_2 _ _) (Zqw l b items items2 n n2 dd dd2 sl sl2 h1 h2) ⟨hl,hb,?_⟩))
 exact VR h
end
theorem Z4b{prog:XM}{w:Qo}{A:Ql}{E:Xc->Xd->Prop}{s:Xd}{a b:Int}{t u:Tok}{Q:Xc->Xd->Prop}(h:Q (.bool (decide (a<b))) s):XN (X7 prog w) A (richCompare .Lt (.int a t) (.int b u)) Q E s:=lt_int h
theorem Zp7(l b:Addr)(items items2:Array Xc)(n n2:Nat)(dd dd2:Option Addr)(sl sl2:Array (Option Xc)){xs ys:List Int}(h1:Bx items.toList xs)(h2:Bx items2.toList ys) :
  Meets (Ui.«tuple.__lt__» ⟨[.ref l,.ref b],[]⟩)
   (λA R s=>s.heap.get? l=some { cls:=.type "tuple",dict:=dd,data:=.seq items n,slots:=sl }∧s.heap.get? b=some { cls:=.type "tuple",dict:=dd2,data:=.seq items2 n2,slots:=sl2 }∧
    R (.ok (.ret (.bool (ltI xs ys)))) s) :=
 .of_wp λprog w A R s h=>by
  obtain⟨hp,g,d,tk,os⟩:=s;obtain⟨hl,hb,h⟩:=h
  have f2:=AutoSeq1.sub_tuple_tuple
  have e1:items.toList.length=xs.length:=Zh0 h1
  have e2:items2.toList.length=ys.length:=Zh0 h2
  wp_walk using Q0 hl,Q0 hb,wpAny_forIn_list _ (λrest b s'=>b.1=none∧s'=⟨hp,g,d,tk,os⟩∧∃i,rest=(items.toList.zip items2.toList).drop i∧i≤items.toList.length∧i≤items2.toList.length∧
   R (.ok (.ret (.bool (ltI (xs.drop i) (ys.drop i))))) ⟨hp,g,d,tk,os⟩) _
  case turn=>
   rintro⟨v,u⟩ rest b s' ⟨hb',rfl,i,hz,u1,u2,hR⟩
   have hlt:i<(items.toList.zip items2.toList).length:=by
    rcases Nat.lt_or_ge i (items.toList.zip items2.toList).length with h'|h'
    ·exact h'
    ·rw[List.drop_of_length_le h']at hz;cases hz
   have hm:=hlt
   rw[Q7]at hm
   obtain⟨x,t,q1,q2⟩:=Zpa h1 i (by omega)
   obtain⟨y,r,q3,q4⟩:=Zpa h2 i (by omega)
   rw[Vq hlt]at hz
   injection hz with hyx hrest
   have hz0:(items.toList.zip items2.toList)[i]? =some (.int x t,.int y r):=by rw[UT];exact⟨q1,q3⟩
   rw[Xg hlt]at hz0
   injection hz0 with hz0
   rw[hz0]at hyx
   cases hyx
   rw[q2,q4]at hR
   unfold ltI at hR
   refine Xe (EqAt.int_int x t y r prog w _ _ ?_)
   by_cases cx:x=y
   ·rw[if_pos cx]at hR
    rw[beq_iff_eq.mpr cx]
    wp_walk
    exact⟨rfl,rfl,i+1,hrest,by omega,by omega,hR⟩
   ·rw[if_neg cx]at hR
    rw[beq_eq_false_iff_ne.mpr cx]
    wp_walk using Z4b
    exact⟨_,rfl,hR⟩
  case fin=>
   rintro⟨b1,b2⟩ s' ⟨hb',rfl,i,hz,u1,u2,hR⟩
   simp only at hb'
   subst hb'
   have hge:min items.toList.length items2.toList.length≤i:=by
    rcases Nat.lt_or_ge i (items.toList.zip items2.toList).length with h'|h'
    ·rw[Vq h']at hz;cases hz
    ·rw[Q7]at h';exact h'
   have hv:ltI (xs.drop i) (ys.drop i)=decide (items.size<items2.size):=by
    rw[Zl0 ((show i=items.toList.length∨i=items2.toList.length by omega).imp (λc=>VF (by omega)) λc=>VF (by omega)),JV,JV]
    rw[BR]at e1 e2 u1 u2
    exact decide_eq_decide.mpr (by omega)
   rw[hv]at hR
   wp_walk
   exact⟨_,rfl,hR⟩
  case h=>
   exact⟨rfl,rfl,0,rfl,Q6 _,Q6 _,h⟩
section
variable {prog:XM}{w:Qo}{A:Ql}{E:Xc->Xd->Prop}{s:Xd}
theorem Zr7{l b:Addr}{items items2:Array Xc}{xs ys:List Int}{Q:Bool->Xd->Prop}(hu:A.units<cLine)(hl:s.heap.IsTuple l items)(hb:s.heap.IsTuple b items2)(h1:Bx items.toList xs)(h2:Bx items2.toList ys)(h:Q (ltI xs ys) s) :
  XN (X7 prog w) A (oneLt' false (.ref l) (.ref b)) Q E s:=by
 obtain⟨⟨cls,dd,data,sl⟩,hl,hc,n,hd⟩:=hl
 obtain⟨⟨cls2,dd2,data2,sl2⟩,hb,hc2,n2,hd2⟩:=hb
 simp only at hc hd hc2 hd2
 subst hc hd hc2 hd2
 exact kat_one _ _ (richCompare_meets_room (op:=.Lt) ⟨_,hl,rfl⟩ ⟨_,hb,rfl⟩ F.slot_tuple_lt F.entry_tuple_lt (F.args_tuple_lt_2 _ _) (Zp7 l b items items2 n n2 dd dd2 sl sl2 h1 h2)
  ⟨hl,hb,show Ul (ltI xs ys)≠Xc.notImplemented∧_ from⟨(λx=>nomatch x),h⟩⟩ hu)
end
end L2
namespace L2
open PySem PySem.Spec PyProof.Rows PySem.W
noncomputable def sLay{α:Type}(d:α)(lt:Nat->Nat->Bool)(vs:List α):List α:=if vs.length<2 then vs else(Z1i lt vs.length).map λi=>vs.getD i d
theorem Zp1{α:Type}(d:α)(vs:List α):((Xn vs.length).map λi=>vs.getD i d)=vs:=by
 refine U4 λi=>?_
 rw[Xl]
 by_cases c:i<vs.length
 ·rw[Qp c,Xg c]
  show some (vs.getD i d)=_
  rw[Xh,Xg c];rfl
 ·rw[Qz (by rw[XC];omega),Qz (by omega)];rfl
theorem Zis{α:Type}(d:α)(lt:Nat->Nat->Bool)(vs:List α):(sLay d lt vs).Perm vs:=by
 unfold sLay
 split
 ·exact .refl _
 ·have:=(Zi9 (lt:=lt) (n:=vs.length) (by omega)).map λi=>vs.getD i d
  rwa[Zp1]at this
theorem Zvw{α β:Type}(f:α->β)(d:α)(lt:Nat->Nat->Bool)(vs:List α):sLay (f d) lt (vs.map f)=(sLay d lt vs).map f:=by
 unfold sLay
 rw[Xf]
 split
 ·rfl
 ·rw[Qh]
  refine X8 λi _=>?_
  show(vs.map f).getD i (f d)=f (vs.getD i d)
  rw[Xh,Xh,Xl]
  cases vs[i]? <;>rfl
theorem Zq9{lt:Nat->Nat->Bool}{xs:List V}{us:List Xc}(h:Vals xs us):Vals (sLay .non lt xs) (sLay .none lt us):=by
 unfold sLay
 rw[h.length]
 split
 ·exact h
 ·generalize Z1i lt _=l
  induction l with
  | nil=>exact .nil
  | cons i l ih=>
   refine .cons ?_ ih
   show RelV (xs.getD i V.non) (us.getD i QH)
   rw[Xh,Xh]
   cases e:xs[i]? with
   | some x=>
    obtain⟨u,e',r⟩:=h.get e
    rw[e'];exact r
   | none=>
    have:us[i]? =none:=Qz (by rw[←h.length];exact Qt.mp e)
    rw[this];exact rfl
section
variable {prog:XM}{w:Qo}{A:Ql}{E:Xc->Xd->Prop}{s:Xd}
theorem Zqc{κ:Bp}{lt:Nat->Nat->Bool}{h0:Heap}{a:Addr}{vs:List Xc}{n:Nat}{P:PySem.Fin->Xd->Prop}(ho:s.heap.get? a=some (QX "list" vs.toArray n))
  (k0:∀b o,h0.get? b=some o->s.heap.get? b=some o) (ha0:h0.get? a=none) (h64:vs.length<64)
  (hk:2≤vs.length->∀s':Xd,(∀b o,h0.get? b=some o->s'.heap.get? b=some o)->∀Q:Bp->Xd->Prop,Q κ s'->XN (X7 prog w) A (keyKind' vs.toArray) Q E s')
  (hc:2≤vs.length->∀s':Xd,(∀b o,h0.get? b=some o->s'.heap.get? b=some o)->∀i j C,i<vs.length->j<vs.length->C (lt i j) s'->kas_ask prog w A κ vs i j C s')
  (h:P (.done (.ret .none)) { s with heap:=sortedHeap s.heap a vs (JZ (sLay QH lt vs)) }):XN (X7 prog w) A (Ui.«list.sort» ⟨[.ref a],[]⟩) P E s:=by
 have ha:a<s.heap.objs.size:=Xz ho
 obtain⟨e1,ho1⟩:∃e1,(s.heap.update a (QC λ_=>(#[]:Array Xc))).get? a=some (QX "list" #[] e1):=⟨_,get?_update_seq ho λ_=>#[]⟩
 have ho6:(((s.heap.update a (QC λ_=>(#[]:Array Xc))).push (QX "tuple" vs.toArray 0)).push (QX "list" #[] 0)).get? a=some (QX "list" #[] e1):=Xj _ (Xj _ ho1)
 have k6:∀b o,h0.get? b=some o->(((s.heap.update a (QC λ_=>(#[]:Array Xc))).push (QX "tuple" vs.toArray 0)).push (QX "list" #[] 0)).get? b=some o:=λb o e=>by
  refine Xj _ (Xj _ ?_)
  rw[Ug _ _ _ _ (λq=>by rw[q,ha0]at e;cases e)]
  exact k0 b o e
 rw[list_sort_plain]
 refine Xe (listItems_at ho rfl ?_)
 refine Xe (listUpdate_at ho rfl ?_ (by rw[Xx,Qe];omega) (Q6 _))
 refine Xe (seqEpoch_at ho1 rfl ?_)
 refine Xe (wpAny_newTuple ?_ (by show vs.length≤_;rw[Qe];omega))
 refine Xe (wpAny_newList ?_ (Q6 _))
 refine Vw ?_
 show XN (X7 prog w) A _ P E { s with heap:=((s.heap.update a (QC λ_=>(#[]:Array Xc))).push (QX "tuple" vs.toArray 0)).push (QX "list" #[] 0) }
 dsimp only
 have hs:vs.toArray.size=vs.length:=Xx ..
 by_cases h2:vs.toArray.size<2
 ·have el:sLay QH lt vs=vs:=if_pos (hs▸h2)
  rw[el]at h
  rw[if_pos h2,if_pos h2]
  refine Xe (X5 ?_)
  rw[StateT.run_pure]
  refine Xe (X5 ?_)
  dsimp only
  refine Xe (seqEpoch_at ho6 rfl ?_)
  have ez:((vs.toArray.zip vs.toArray).map (·.2))=vs.toArray:=by
   apply Array.toList_inj.mp
   rw[Array.toList_map,Array.toList_zip,List.map_snd_zip (Qi _)]
  show XN _ _ (Builtin.List.listUpdate _ (λ_=>(vs.toArray.zip vs.toArray).map (·.2))>>=_) _ _ _
  rw[ez]
  refine Xe (listUpdate_at ho6 rfl ?_ (Q6 _) (by rw[hs,Qe];omega))
  simp only[bne_self_eq_false,Bq,if_false]
  exact X5 h
 ·rw[if_neg h2,if_neg h2]
  have h2':2≤vs.length:=by omega
  have el:sLay QH lt vs=(Z1i lt vs.length).map λi=>vs.getD i QH:=if_neg (by omega)
  rw[el]at h
  refine Xe (hk h2' _ k6 _ ?_)
  have est:Bm κ (vs.toArray.zip vs.toArray) #[] 7 none=kas_st κ (Vz vs) (JZ (Xn vs.length)):=by
   have e:=kas_range (Vz vs)
   rw[pairsOf_size]at e
   show Bm κ (Vz vs) #[] 7 none=Bm κ ((JZ (Xn vs.length)).map (XF (Vz vs))) #[] 7 none
   rw[e]
  have run:=kas_runs (prog:=prog) (w:=w) (A:=A) (κ:=κ) (it:=Vz vs) (E:=E) (s:={ s with heap:=((s.heap.update a (QC λ_=>(#[]:Array Xc))).push (QX "tuple" vs.toArray 0)).push (QX "list" #[] 0) })
   (Q:=λ_ st' s'=>arrOf st'=(kEv lt (kas_sort vs.length)).map (XF (Vz vs))∧failedOf st'=none∧s'={ s with heap:=((s.heap.update a (QC λ_=>(#[]:Array Xc))).push (QX "tuple" vs.toArray 0)).push (QX "list" #[] 0) })
   (G:=λp s'=>p=kEv lt (kas_sort vs.length)∧s'={ s with heap:=((s.heap.update a (QC λ_=>(#[]:Array Xc))).push (QX "tuple" vs.toArray 0)).push (QX "list" #[] 0) })
   h2' h64 (λp' st' s' _ a2 a3 a4=>⟨a4.1▸a2,a3,a4.2⟩) (by
    rw[←kas_ask_eq]
    exact(Zmr (n:=vs.length) (by omega)).wp (hc h2' _ k6) ⟨rfl,rfl⟩)
  rw[←est]at run
  refine Xe (Bk run ?_ λ_ _ e=>e)
  intro r s' z
  obtain⟨har,hf,rfl⟩:=z
  have hout:(arrOf r.2).map (·.2)=JZ ((Z1i lt vs.length).map λi=>vs.getD i QH):=by
   apply Array.toList_inj.mp
   rw[har,Array.map_map,Array.toList_map]
   exact X8 λi _=>by show(XF (Vz vs) i).2=_;rw[kas_item_eq]
  rw[hout]
  refine Xe (seqEpoch_at ho6 rfl ?_)
  refine Xe (listUpdate_at ho6 rfl ?_ (Q6 _) (by rw[Xx,Xf,(Zi9 (by omega)).length_eq,XC,Qe];omega))
  rw[hf]
  simp only[bne_self_eq_false,Bq,if_false]
  exact X5 h
theorem Z1e{κ:Bp}{lt:Nat->Nat->Bool}{l:Addr}{vs:List Xc}{Q:Xc->Xd->Prop}(hl:s.heap.IsList l vs.toArray)(h64:vs.length<64)
  (hk:2≤vs.length->∀s':Xd,(∀b o,s.heap.get? b=some o->s'.heap.get? b=some o)->∀Q:Bp->Xd->Prop,Q κ s'->XN (X7 prog w) A.in1.in1 (keyKind' vs.toArray) Q E s')
  (hc:2≤vs.length->∀s':Xd,(∀b o,s.heap.get? b=some o->s'.heap.get? b=some o)->∀i j C,i<vs.length->j<vs.length->C (lt i j) s'->kas_ask prog w A.in1.in1 κ vs i j C s')
  (h:Q (.ref (s.heap.objs.size+1)) { s with heap:=sortedAll s.heap vs (JZ (sLay QH lt vs)) }):XN (X7 prog w) A (call (.builtin "sorted") [.ref l]) Q E s:=by
 refine Calls.call_function_entry kind_sorted plain_sorted entry_sorted (args_sorted1 _) ?_
 unfold Ui.«sorted»
 refine Xe (m:=checkCount "sorted" 1 1 _) (X5 ?_)
 refine Xe (collect_list hl ?_ (by rw[Qe];omega))
 refine Xe (wpAny_newList ?_ (by rw[Qe];omega))
 have hsz:((s.heap.push (QX "list" #[] 0)).update s.heap.objs.size (QC (· ++ vs.toArray))).objs.size=s.heap.objs.size+1:=by
  rw[Heap.size_update,size_push']
 have hoL:(((s.heap.push (QX "list" #[] 0)).update s.heap.objs.size (QC (· ++ vs.toArray))).push (QX "list" vs.toArray 0)).get? (s.heap.objs.size+1)=some (QX "list" vs.toArray 0):=by
  rw[←hsz];exact Qa _ rfl
 have keep:∀b o,s.heap.get? b=some o->(((s.heap.push (QX "list" #[] 0)).update s.heap.objs.size (QC (· ++ vs.toArray))).push (QX "list" vs.toArray 0)).get? b=some o:=λb o q=>by
  have hlt:b<s.heap.objs.size:=Xz q
  rw[U5 _ _ _ (by rw[hsz];exact Xp (Nat.lt_succ_of_lt hlt)),Ug _ _ _ _ (Xp hlt),U5 _ _ _ (Xp hlt)]
  exact q
 show XN _ _ _ _ _ { s with heap:=((s.heap.push (QX "list" #[] 0)).update s.heap.objs.size (QC (· ++ vs.toArray))).push (QX "list" vs.toArray 0) }
 rw[hsz]
 refine Xe (Vw (Vs slot_list_sort ⟨_,hoL,rfl⟩ entry_list_sort (Zqc (h0:=s.heap) hoL keep (Heap.get?_none_of_le (Nat.le_succ _)) h64 hk hc ⟨_,rfl,?_⟩) (args_list_sort _)))
 exact X5 ⟨_,rfl,h⟩
end
end L2
namespace L2
open PySem PySem.Spec PyProof.Rows PySem.W
variable {G:Xb}
structure Z4f{α:Type}(kd:Xa->Option α)(lt:α->α->Bool):Prop where
 lay:∀d k,kd d=some k->d.canLay0=true
 run:∃κ:Bp,(∀(prog:XM) (w:Qo) (A:Ql) (E:Xc->Xd->Prop) (s:Xd) (vs:List Xc) (ds:List Xa) (as:List Addr) (Q:Bp->Xd->Prop),2≤vs.length->ReadsAll s.heap vs ds as->(∀d∈ds,∃k,kd d=some k)->Q κ s->XN (X7 prog w) A (keyKind' vs.toArray) Q E s)∧
  ∀(prog:XM) (w:Qo) (A:Ql) (E:Xc->Xd->Prop) (s:Xd) (u v:Xc) (d e:Xa) (as bs:List Addr) (k m:α) (C:Bool->Xd->Prop),A.units+32<cLine->Reads s.heap u d as->Reads s.heap v e bs->kd d=some k->kd e=some m->C (lt k m) s->XN (X7 prog w) A (keyLt' κ u v) C E s
theorem readsAll_ints{h:Heap}(ns:List Int){vs:List Xc}{as:List Addr}(r:ReadsAll h vs (ns.map Xk) as):Bx vs ns:=by
 induction ns generalizing vs as with
 | nil=>cases r;exact .nil
 | cons n ns ih=>
  cases r with
  | cons r q=>
   cases r
   exact .cons _ _ (ih q)
theorem Zaa{h:Heap}{ns:List Int}{u:Xc}{as:List Addr}(r:Reads h u (.list (ns.map Xk)) as):∃a items,u= .ref a∧h.IsList a items∧Bx items.toList ns:=by
 cases r with
 | list e c d q=>exact⟨_,_,rfl,⟨_,e,c,_,d⟩,readsAll_ints ns q⟩
theorem Zge{h:Heap}{ns:List Int}{u:Xc}{as:List Addr}(r:Reads h u (.tuple (ns.map Xk)) as):∃a items,u= .ref a∧h.IsTuple a items∧Bx items.toList ns:=by
 cases r with
 | tuple e c d q=>exact⟨_,_,rfl,⟨_,e,c,_,d⟩,readsAll_ints ns q⟩
theorem readsAll_get{h:Heap}{vs:List Xc}{ds:List Xa}{as:List Addr}(r:ReadsAll h vs ds as):vs.length=ds.length∧∀(i:Nat) d,ds[i]? =some d->∃v bs,vs[i]? =some v∧Reads h v d bs:=by
 induction ds generalizing vs as with
 | nil=>cases r;exact⟨rfl,λi d e=>by rw[U3]at e;cases e⟩
 | cons d ds ih=>
  cases r with
  | cons r q=>
   obtain⟨z1,z2⟩:=ih q
   refine⟨congrArg Nat.succ z1,λi e he=>?_⟩
   cases i with
   | zero=>cases he;exact⟨_,_,rfl,r⟩
   | succ i=>exact z2 i e he
theorem lay_ints(ns:List Int):Sh 1 (.list (ns.map Xk)):=Zii λd m=>by
 obtain⟨x,_,rfl⟩:=XQ.mp m
 exact Zpj x
theorem Ze9(ns:List Int):Sh 1 (.tuple (ns.map Xk)):=Zo5 λd m=>by
 obtain⟨x,_,rfl⟩:=XQ.mp m
 exact Zpj x
theorem Zj6{M:Model}{h:Heap}{a:Addr}{items:Array Xc}(e:h.IsList a items):Looks M h (typeOf (.ref a)) (.type "list"):=by
 obtain⟨o,e,c,_⟩:=e
 have:Looks M h (typeOf (.ref a)) o.cls:=(Looks.ld e).andThen .now
 rwa[c]at this
noncomputable def kdL:Xa->Option (List Int):=λd=>match d with| .list es=>Zgf es|_=>none
theorem Zhw{d:Xa}{k:List Int}(h:kdL d=some k):d= .list (k.map Xk):=by
 cases d with
 | list es=>exact congrArg JW (Zfw h)
 | _=>cases h
theorem Zs2{h:Heap}{vs:List Xc}{ds:List Xa}{as:List Addr}(r:ReadsAll h vs ds as){v:Xc}(hv:v∈vs):∃d∈ds,∃bs,Reads h v d bs:=by
 obtain⟨i,hi⟩:=Vm hv
 obtain⟨z1,z2⟩:=readsAll_get r
 have c:i<ds.length:=z1▸(Xm.mp hi).1
 obtain⟨v',bs,e,q⟩:=z2 i _ (Xg c)
 rw[hi]at e
 cases e
 exact⟨_,QD c,bs,q⟩
theorem Zxh:Z4f kdL ltI:=by
 refine⟨λd k h=>by rw[Zhw h];exact(lay_ints k).1,oneType',λprog w A E s vs ds as Q h2 r hk q=>kas_kind (T:=.type "list") h2 (λv hv=>?_) rfl rfl q,λprog w A E s u v d e as bs k m C hu r1 r2 h1 h2 h=>?_⟩
 ·obtain⟨d,hd,bs,z⟩:=Zs2 r hv
  obtain⟨k,hk⟩:=hk d hd
  rw[Zhw hk]at z
  obtain⟨a,items,rfl,e,_⟩:=Zaa z
  exact Zj6 e
 ·rw[Zhw h1]at r1
  rw[Zhw h2]at r2
  obtain⟨a,i1,rfl,e1,z1⟩:=Zaa r1
  obtain⟨b,i2,rfl,e2,z2⟩:=Zaa r2
  rw[keyLt'_oneType]
  exact Zj5 (by omega) e1 e2 z1 z2 h
noncomputable def kdT:Xa->Option (List Int×List Int):=λd=>match d with| .tuple [.list es,.tuple fs]=>(Zgf es).bind λns=>(Zgf fs).bind λms=>some (ns,ms)|_=>none
noncomputable def ltT:List Int×List Int->List Int×List Int->Bool:=λa b=>if a.1=b.1 then(if a.2=b.2 then false else ltI a.2 b.2)else ltI a.1 b.1
theorem Zh7{d:Xa}{k:List Int×List Int}(h:kdT d=some k):d= .tuple [.list (k.1.map Xk),.tuple (k.2.map Xk)]:=by
 unfold kdT at h
 split at h
 case h_2=>cases h
 obtain⟨ns,h1,h⟩:=bs h
 obtain⟨ms,h2,h⟩:=bs h
 cases h
 rw[Zfw h1,Zfw h2]
theorem Zna{h:Heap}{k:List Int×List Int}{u:Xc}{as:List Addr}(r:Reads h u (.tuple [.list (k.1.map Xk),.tuple (k.2.map Xk)]) as):∃t o n a b,u= .ref t∧h.get? t=some o∧o.cls= .type "tuple"∧o.data= .seq #[.ref a,.ref b] n∧(∃bs,Reads h (.ref a) (.list (k.1.map Xk)) bs)∧∃bs,Reads h (.ref b) (.tuple (k.2.map Xk)) bs:=by
 cases r with
 | @tuple t o vs n xs as e c d q=>
  obtain⟨l,hl⟩:∃l,l=vs.toList:=⟨_,rfl⟩
  rw[←hl]at q
  cases q with
  | cons r1 q=>
   cases q with
   | cons r2 q=>
    cases q
    obtain⟨a,_,rfl,_⟩:=Zaa r1
    obtain⟨b,_,rfl,_⟩:=Zge r2
    have:vs=#[.ref a,.ref b]:=Array.toList_inj.mp hl.symm
    subst this
    exact⟨t,o,n,a,b,rfl,e,c,d,⟨_,r1⟩,_,r2⟩
theorem Zm5(a b:List Int):Qy (.list (a.map Xk)) (.list (b.map Xk))=decide (a=b):=by
 have p:∀l:List Int,Yr (.list (l.map Xk))=true:=λl=>by rw[Yr];induction l with|nil=>rfl|cons x l ih=>exact ih
 have inj:∀{l m:List Int},JW (l.map Xk)= .list (m.map Xk)->l=m:=λh=>by
  injection h with h
  exact(List.map_inj_right λx y z=>by injection z).mp h
 by_cases c:a=b
 ·rw[Zta (p a) (p b) (by rw[c]),decide_eq_true c]
 ·rw[Zrd (p a) (p b) λz=>c (inj z),decide_eq_false c]
theorem Zqq(a b:List Int):Qy (.tuple (a.map Xk)) (.tuple (b.map Xk))=decide (a=b):=by
 have e:∀xs ys:List Xa,Qy (.tuple xs) (.tuple ys)=Qy (.list xs) (.list ys):=λxs ys=>by
  rw[Qy,Qy]
 rw[e,Zm5]
theorem Z1y:Z4f kdT ltT:=by
 refine⟨λd k h=>?_,tuples' true,λprog w A E s vs ds as Q h2 r hk q=>?_,λprog w A E s u v d e as bs k m C hu r1 r2 h1 h2 h=>?_⟩
 ·rw[Zh7 h]
  exact(Zo5 (n:=1) λd m=>by
   rcases Xw.mp m with rfl|m
   ·exact lay_ints _
   ·rw[Qj.mp m];exact Ze9 _).1
 ·have key:∃fs:List Xc,KatTups s.heap vs fs∧fs.length=vs.length∧∀v∈fs,∃a items,v= .ref a∧s.heap.IsList a items:=by
   clear h2 q
   induction ds generalizing vs as with
   | nil=>cases r;exact⟨[],trivial,rfl,λ_ m=>nomatch m⟩
   | cons d ds ih=>
    cases r with
    | cons r q=>
     obtain⟨fs,t,l,z⟩:=ih _ _ q λd m=>hk d (.tail _ m)
     obtain⟨k,hk⟩:=hk d (.head _)
     rw[Zh7 hk]at r
     obtain⟨t',o,n,a,b,rfl,e,c,hd,⟨_,x1⟩,_⟩:=Zna r
     obtain⟨a',items,ea,ex,_⟩:=Zaa x1
     cases ea
     refine⟨.ref a :: fs,KatTups.cons e c hd rfl t,congrArg Nat.succ l,λv hv=>?_⟩
     rcases Xw.mp hv with rfl|hv
     ·exact⟨a,items,rfl,ex⟩
     ·exact z v hv
  obtain⟨fs,t,l,z⟩:=key
  exact kat_kind (T:=.type "list") t (by omega) (λv hv=>by obtain⟨a,items,rfl,e⟩:=z v hv;exact Zj6 e) rfl q
 ·rw[Zh7 h1]at r1
  rw[Zh7 h2]at r2
  obtain⟨t1,o1,n1,a1,b1,rfl,g1,c1,d1,⟨_,x1⟩,_,y1⟩:=Zna r1
  obtain⟨t2,o2,n2,a2,b2,rfl,g2,c2,d2,⟨_,x2⟩,_,y2⟩:=Zna r2
  refine kat_lt g1 d1 g2 d2 (kat_cons ?_)
  refine SeqAt.eqAt_reads _ _ A s _ _ _ _ x1 x2 (lay_ints _).1 (lay_ints _).1 (by have:=(lay_ints k.1).2;omega) prog w _ _ ?_
  rw[Zm5]
  unfold ltT at h
  obtain⟨p1,i1,e1,l1,z1⟩:=Zaa x1
  obtain⟨p2,i2,e2,l2,z2⟩:=Zaa x2
  cases e1;cases e2
  by_cases c:k.1=m.1
  ·rw[if_pos c]at h
   rw[decide_eq_true c]
   refine kat_yes (kat_cons ?_)
   refine SeqAt.eqAt_reads _ _ A s _ _ _ _ y1 y2 (Ze9 _).1 (Ze9 _).1 (by have:=(Ze9 k.2).2;omega) prog w _ _ ?_
   rw[Zqq]
   obtain⟨p1,i1,e1,l1,z1⟩:=Zge y1
   obtain⟨p2,i2,e2,l2,z2⟩:=Zge y2
   cases e1;cases e2
   by_cases c':k.2=m.2
   ·rw[if_pos c']at h
    rw[decide_eq_true c']
    exact kat_yes (kat_nil h)
   ·rw[if_neg c']at h
    rw[decide_eq_false c']
    exact kat_no (Zr7 (by omega) l1 l2 z1 z2 h)
  ·rw[if_neg c]at h
   rw[decide_eq_false c]
   exact kat_no (Zj5 (by omega) l1 l2 z1 z2 h)
end L2
namespace L2
open PySem PySem.Spec PyProof.Rows PySem.W
variable {G:Xb}
noncomputable def lk{α:Type}(kd:Xa->Option α)(lt:α->α->Bool)(es:List Xa):Nat->Nat->Bool:=λi j=>((kd (es.getD i .none)).bind λa=>(kd (es.getD j .none)).map λb=>lt a b).getD false
noncomputable def keyed{α:Type}(kd:Xa->Option α)(es:List Xa):Prop:=∀d∈es,∃k,kd d=some k
theorem Zke{es:List Xa}(h:∀d∈es,d.canLay0=true):JH es=true:=by
 induction es with
 | nil=>rw[JH]
 | cons d es ih=>rw[JH,h d (.head _),ih λd m=>h d (.tail _ m)];rfl
theorem Das.sLay{H:Hp}{L:Addr->Prop}{lt:Nat->Nat->Bool}{xs:List V}{ds:List Xa}(h:Das G H L xs ds):Das G H L (L2.sLay .non lt xs) (L2.sLay .none lt ds):=by
 unfold L2.sLay
 rw[h.length]
 split
 ·exact h
 ·generalize Z1i lt _=l
  induction l with
  | nil=>exact .nil
  | cons i l ih=>
   refine .cons ?_ ih
   show Da G H L (xs.getD i .non) (ds.getD i .none)
   rw[Xh,Xh]
   cases e:xs[i]? with
   | some x=>
    obtain⟨u,e',r⟩:=h.get' e
    rw[e'];exact r
   | none=>
    have:ds[i]? =none:=Qz (by rw[←h.length];exact Qt.mp e)
    rw[this];exact .non
noncomputable def Zpf{α:Type}(kd:Xa->Option α)(lt:α->α->Bool)(K:Xb):List V->Hp->VK->Prop:=λxs H Q=>∃(a:Addr) (vs:List V) (L:Addr->Prop) (es:List Xa),xs=[.ref a]∧SqL K H a vs∧Das K H L vs es∧vs.length<64∧keyed kd es∧∀l,H l=none->Q (.ref l) (upd H l (.lst (sLay .non (lk kd lt es) vs)))
section
variable {X:Cx}{α:Type}{kd:Xa->Option α}{lt:α->α->Bool}
theorem Zgx{K:Xb}(S:Z4f kd lt)(hK:X.K=K)(hu:X.A.units+64<cLine):Zcl X (.builtin "sorted") (Zpf kd lt K):=by
 subst hK
 intro pins s σ H xs us Q I r h
 obtain⟨l,vs,L,es,rfl,hs,hd,h64,hk,q⟩:=h
 obtain⟨u,rfl,ru⟩:=vals1 r
 cases(show u=Q4 l from ru)
 obtain⟨its,rv,pl,hz⟩:=I.list hs
 have hl:=rv.length
 obtain⟨as,ra⟩:=hd.reads rfl I rv (Zke λd m=>by obtain⟨k,e⟩:=hk d m;exact S.lay d k e)
 obtain⟨κ,S1,S2⟩:=S.run
 obtain⟨z1,z2⟩:=readsAll_get ra
 refine Z1e (κ:=κ) (lt:=lk kd lt es) pl.isList (by omega) (λh2 s' k Q q=>S1 _ _ _ _ s' _ es as Q h2 (ReadsAll.keeps k ra) hk q) (λh2 s' k i j C hi hj hc=>?_) ?_
 ·rw[z1]at hi hj
  obtain⟨v,b1,e1,r1⟩:=z2 i _ (Xg hi)
  obtain⟨w,b2,e2,r2⟩:=z2 j _ (Xg hj)
  obtain⟨k1,q1⟩:=hk _ (QD hi)
  obtain⟨k2,q2⟩:=hk _ (QD hj)
  have ek:lk kd lt es i j=lt k1 k2:=by
   unfold lk
   rw[Xh,Xh,Xg hi,Xg hj]
   show((kd es[i]).bind λa=>(kd es[j]).map λb=>lt a b).getD false=_
   rw[q1,q2];rfl
  rw[ek]at hc
  unfold kas_ask
  rw[Xh,Xh,e1,e2]
  exact S2 _ _ _ _ s' v w _ _ _ _ k1 k2 C (show X.A.units+1+1+32<cLine by omega) (Reads.keeps k r1) (Reads.keeps k r2) q1 q2 hc
 ·obtain⟨e,he⟩:=sortedAll_at s.heap its (JZ (sLay QH (lk kd lt es) its))
  refine⟨.ref (s.heap.objs.size+1),_,I.laid (t':=s.toks) (o:=.lst (sLay .non (lk kd lt es) vs)) (λb ob q=>sortedAll_old q) (by omega) ⟨?_,sLay QH (lk kd lt es) its,e,Zq9 rv,he⟩,rfl,q _ (I.hok.fresh (by omega))⟩
  rw[(Zis _ _ _).length_eq,Qe];omega
noncomputable def Zpe(kd:Xa->Option α)(lt:α->α->Bool):List Xa->(OT->Prop)->Prop:=λds k=>n1 (λd=>∃es:List Xa,d= .list es∧es.length<64∧keyed kd es∧k (.nd ((sLay .none (lk kd lt es) es).map OT.fz))) ds
theorem Zkv:PN G (Zpf kd lt G) (Zpe kd lt):=λH L xs ds k Q hx h kk=>by
 obtain⟨v,d,rfl,rfl,q,es,e,h64,hk,h⟩:=hx.one h
 have fin:∀(vs:List V) (p:Addr),Das G H L vs es->H p=none->Q (.ref p) (upd H p (.lst (sLay .non (lk kd lt es) vs))):=λvs p hv hp=>kk _ _ _ [p] (Yu hp _) (Own.list hp hv.sLay) (Zhi p) (Zd6 hp) h
 subst e
 generalize ed:JW es=d at q
 cases q with
 | lst l e r=>
  cases ed
  exact⟨_,_,L,es,rfl,.inl e,r,by rw[r.length];exact h64,hk,λp hp=>fin _ p r hp⟩
 | scr ks=>
  cases ed
  exact⟨_,_,L,_,rfl,ks.sq,Das.ints _,by rw[(Das.ints (G:=G) (H:=H) (L:=L) _).length];exact h64,hk,λp hp=>fin _ p (Das.ints _) hp⟩
 | _=>cases ed
noncomputable def Zhj(kd:Xa->Option α)(lt:α->α->Bool):List Xa->Option OT:=λds=>match ds with|[.list es]=>if(decide (es.length<64)&&es.all λd=>(kd d).isSome)=true then some (.nd ((sLay .none (lk kd lt es) es).map OT.fz))else none|_=>none
theorem Zn9:∀ds r k,Zhj kd lt ds=some r->k r->Zpe kd lt ds k:=λds r k h hk=>by
 unfold Zhj at h
 split at h
 case h_2=>cases h
 split at h
 case isFalse=>cases h
 rename_i h2
 rw[Xo]at h2
 cases h
 exact⟨_,rfl,of_decide_eq_true h2.1,λd m=>UL.mp (Bo.mp h2.2 d m),hk⟩
end
end L2
namespace L2
open PySem PySem.Spec PyProof.Rows
section
variable {X:Cx}{io:List Nat}{p p' c c' q r:Bool}{a b e:Expr}{fa fb:FE}{es:List Expr}{ra:FA}{st:Stmt}{sts ss ss':List Stmt}{f g:FS}{ta:FT}
theorem xv(i:Nat){x:Str}{pos:Pos}(hN:X.N[i]? =some x:=by rfl)(hv:Vis X.env.scope x:=by first|exact QQ rfl|exact Qx (QQ rfl)|exact Qx (Qx rfl))(hd:(x==("__debug__" : Str))=false:=by decide)(he:(x==("__classdict__" : Str))=false:=by decide):ME X io true true (.Name x pos) (o2 (Ze i)):=Z2a (mv i hN hv hd he)
theorem xo(i:Nat){x:Str}{pos:Pos}(hN:X.N[i]? =some x:=by rfl)(hv:Vis X.env.scope x:=by first|exact QQ rfl|exact Qx (QQ rfl)|exact Qx (Qx rfl))(hd:(x==("__debug__" : Str))=false:=by decide)(he:(x==("__classdict__" : Str))=false:=by decide):ME X io true false (.Name x pos) (o2 (Zqg i)):=Z48 (mo i hN hv hd he)
theorem xci{i:Int}{j:Nat}{pos:Pos}:ME X io true true (.Constant (.int i) j pos) (o2 (fC (.int i))):=Zf3 Z19
theorem xix{pos:Pos}(ha:ME X io p c a (o2 fa))(hb:ME X io p' c' b (o2 fb))(hc:p'=true∨c=true:=by first|exact QQ rfl|exact Qx rfl)(hs:Zk0 b:=by exact λ_ _=>rfl)(h2:(p&&p')=q:=by rfl)(h3:(c&&c')=r:=by rfl):ME X io q r (.Subscript a b pos) (o2 (Zt gIx fa fb)):=h2▸h3▸Zb5 Yca (Ycc (Z09 rfl) Z9a ha hb hc (hs:=hs))
theorem xa0:MA X io true true [] (o2 Zn):=Z5n Z4u
theorem xa1[NoStar e](ha:ME X io p c e (o2 fa))(h2:(p&&true)=q:=by rfl)(h3:(c&&true)=r:=by rfl):MA X io q r [e] (o2 (Za fa Zn)):=Zf ha xa0 (.inl rfl) h2 h3
theorem xsq(h:MS X io st (oS f))(k:MSs X io sts (oS g)):MSs X io (st :: sts) (oS (Z1 f g)):=Z5j (Zut h k)
theorem xst{pos px:Pos}(i:Nat){x:Str}(hN:X.N.Nodup)(he:ME X io p true e (o2 fa))(hi:X.N[i]? =some x:=by rfl)(hx:Loc X.env.scope x:=by first|exact QQ rfl|exact Qx rfl)(hio:i∉io:=by decide)(hs:Uc e (some (.Name x px)) pos.line X.env=pure false:=by rfl)(hf:X.fn x=true∨X.env.scope.names.lookup x=some .local:=by first|exact .inl rfl|exact .inr rfl|assumption):MS X io (.Assign [.Name x px] e pos) (oS (wE fa (Yt i))):=Zi1 (Zji hN hi hx he hio hs hf)
theorem xrt{pos:Pos}(h:ME X io p true e (o2 fa)):MS X io (.Return (some e) pos) (oS (wE fa Wa)):=Z2r (Z23 h)
theorem xg{pos:Pos}(i:Nat){x:Str}(hN:X.N.Nodup)(hi:X.N[i]? =some x:=by rfl)(hx:Loc X.env.scope x:=by first|exact QQ rfl|exact Qx rfl)(hio:i∉io:=by decide)(hf:X.fn x=true∨X.env.scope.names.lookup x=some .local:=by first|exact .inl rfl|exact .inr rfl|assumption):MG X io true (.Name x pos) (oG (gNm i)):=Zzw (Zzn hN hi hx hio hf)
theorem xif{pos:Pos}(h:MT X io p e (o2 ta))(k:MSs X io ss (oS f))(l:MSs X io ss' (oS g)):MS X io (.If e ss ss' pos) (oS (J0 ta f g)):=Z75 (Z8c h k l)
theorem xnl:MSs X io [] (oS fNx):=Zyv Z1g
theorem xtp{pos:Pos}{n:Nat}(h:MA X io p c es (o2 ra)):ME X io p c (.Tuple es n pos) (o2 (Zby ra)):=Z5c (Z9h h)
theorem xls{pos:Pos}(h:MA X io p c es (o2 ra)):ME X io p c (.List es pos) (o2 (Zbb ra)):=Z56 (Z8x h)
theorem xil{tg:Expr}(h:ME X io p c e (o2 fa)):MI X io p c tg e (o2 (Zbu fa)):=Zzm (Zz6 h)
theorem xno{pos:Pos}(h:MT X io p e (o2 ta)):MT X io p (.UnaryOp .Not e pos) (o2 (tNo ta)):=Z22 (Z4i h)
theorem Zdc{pos:Pos}(ha:ME X io p c a (o2 fa))(hb:ME X io p' c' b (o2 fb))(hc:p'=true∨c=true:=by first|exact QQ rfl|exact Qx rfl)(h2:(p&&p')=q:=by rfl):ME X io q true (.BinOp a .Add b pos) (o2 (Zd Wx fa fb)):=h2▸Yv Z7l (Zpy Z3a Zsr ha hb hc)
theorem Zze{pos:Pos}(ha:ME X io p c a (o2 fa))(hb:ME X io p' c' b (o2 fb))(hc:p'=true∨c=true:=by first|exact QQ rfl|exact Qx rfl)(h2:(p&&p')=q:=by rfl):ME X io q true (.BinOp a .Sub b pos) (o2 (Zd gSb fa fb)):=h2▸Yv Z8y (Zpy Z1t Zsr ha hb hc)
theorem Zf1{pos:Pos}(ha:ME X io p c a (o2 fa))(hb:ME X io p' c' b (o2 fb))(hc:p'=true∨c=true:=by first|exact QQ rfl|exact Qx rfl)(h2:(p&&p')=q:=by rfl):ME X io q true (.BinOp a .Mult b pos) (o2 (Zd Jk fa fb)):=h2▸Yv Z9p (Zpy Zyd Z2y ha hb hc)
theorem Zba{pos:Pos}(ha:ME X io p c a (o2 fa))(hb:ME X io p' c' b (o2 fb))(hc:p'=true∨c=true:=by first|exact QQ rfl|exact Qx rfl)(h2:(p&&p')=q:=by rfl):ME X io q true (.BinOp a .Mod b pos) (o2 (Zd Y5 fa fb)):=h2▸Yv Z7f (Zpy Z1c Z2h ha hb hc)
theorem Zl4{pos:Pos}(ha:ME X io p c a (o2 fa))(hb:ME X io p' c' b (o2 fb))(hc:p'=true∨c=true:=by first|exact QQ rfl|exact Qx rfl)(h2:(p&&p')=q:=by rfl):ME X io q true (.BinOp a .FloorDiv b pos) (o2 (Zd Wm fa fb)):=h2▸Yv Z4x (Zpy Zwe Z1q ha hb hc)
theorem Z9o{pos:Pos}(ha:ME X io p c a (o2 fa))(hb:ME X io p' c' b (o2 fb))(hc:p'=true∨c=true:=by first|exact QQ rfl|exact Qx rfl)(h2:(p&&p')=q:=by rfl):ME X io q true (.BinOp a .Pow b pos) (o2 (Zd Zv5 fa fb)):=h2▸Yv Z7a (Zpy Z0u Z2t ha hb hc)
theorem xeq{pos:Pos}(hu:X.A.units+64<cLine)(ha:ME X io p c a (o2 fa))(hb:ME X io p' c' b (o2 fb))(hc:p'=true∨c=true:=by first|exact QQ rfl|exact Qx rfl)(h2:(p&&p')=q:=by rfl):MT X io q (.Compare a [.Eq] [b] pos) (o2 (tV (Zd gEq fa fb))):=h2▸Zhe Zxj (Zg9 (Zhb hu) Zm1 ha hb hc (hm:=W7 _))
theorem xne{pos:Pos}(hu:X.A.units+64<cLine)(ha:ME X io p c a (o2 fa))(hb:ME X io p' c' b (o2 fb))(hc:p'=true∨c=true:=by first|exact QQ rfl|exact Qx rfl)(h2:(p&&p')=q:=by rfl):MT X io q (.Compare a [.NotEq] [b] pos) (o2 (tV (Zd gNe fa fb))):=h2▸Zhe Yas (Zg9 (Zxg hu) Z3f ha hb hc (hm:=W7 _))
theorem xlt{pos:Pos}(ha:ME X io p c a (o2 fa))(hb:ME X io p' c' b (o2 fb))(hc:p'=true∨c=true:=by first|exact QQ rfl|exact Qx rfl)(h2:(p&&p')=q:=by rfl):MT X io q (.Compare a [.Lt] [b] pos) (o2 (tV (Zd gLt fa fb))):=h2▸Zhe Z9t (Zg9 Zxz Zes ha hb hc (hm:=W7 _))
theorem xgt{pos:Pos}(ha:ME X io p c a (o2 fa))(hb:ME X io p' c' b (o2 fb))(hc:p'=true∨c=true:=by first|exact QQ rfl|exact Qx rfl)(h2:(p&&p')=q:=by rfl):MT X io q (.Compare a [.Gt] [b] pos) (o2 (tV (Zd gGt fa fb))):=h2▸Zhe Z6y (Zg9 Zvu Zes ha hb hc (hm:=W7 _))
theorem xge{pos:Pos}(ha:ME X io p c a (o2 fa))(hb:ME X io p' c' b (o2 fb))(hc:p'=true∨c=true:=by first|exact QQ rfl|exact Qx rfl)(h2:(p&&p')=q:=by rfl):MT X io q (.Compare a [.GtE] [b] pos) (o2 (tV (Zd gGe fa fb))):=h2▸Zhe Z7c (Zg9 Zzc Zes ha hb hc (hm:=W7 _))
theorem xfr{pos:Pos}{tg:Expr}{it:FI}{gg:FG}(hp:PassesOwn (X7 X.prog X.w) X.A X.env X.xe)(hc:X.calm=true)(hi:MI X io p true tg e (o2 it))(hg:MG X io true tg (oG gg))(hb:MSs X io ss (oS f))(hs:∀x,Bh e X.env x=pure x:=by intro _;rfl):MS X io (.For tg e ss [] pos) (oS (Za2 it gg f)):=Z3e (Z20 hp hc hi hg hb hs)
theorem xg2{pos:Pos}{n:Nat}{g1 g2:FG}(hc:X.calm=true)(ha:MG X io true a (oG g1))(hb:MG X io true b (oG g2))(h1:List.map (λx=>x.snd) (JC [a,b] X.env)=Ud a X.env :: List.map (λx=>x.snd) (JC [b] X.env):=by rfl)(h2:List.map (λx=>x.snd) (JC [b] X.env)=Ud b X.env :: List.map (λx=>x.snd) (JC [] X.env):=by rfl)(h3:(JC [a,b] X.env).length=2:=by rfl)(h4:List.findIdx? (λx=>x.fst) (JC [a,b] X.env)=none:=by rfl):MG X io true (.Tuple [a,b] n pos) (oG (gTp 2 (gCn g1 (gCn g2 gNl)))):=Z28 (Z5i (n:=2) hc (Zok (Zo2 ha (Zok (Zo2 hb (Zyp Z01) h2)) h1)) h3 h4)
theorem xso{pos px:Pos}(i:Nat){x:Str}(hN:X.N.Nodup)(he:ME X io p true e (o2 fa))(hi:X.N[i]? =some x:=by rfl)(hx:Loc X.env.scope x:=by first|exact QQ rfl|exact Qx rfl)(hio:i∉io:=by decide)(hs:Uc e (some (.Name x px)) pos.line X.env=pure false:=by rfl)(hf:X.fn x=true∨X.env.scope.names.lookup x=some .local:=by first|exact .inl rfl|exact .inr rfl|assumption):MS X io (.Assign [.Name x px] e pos) (oS (wE fa (Zc9 i))):=Zqp (Zqx hN hi hx he hio hs hf)
theorem xcl{pos pp:Pos}{k:Nat}{f:Addr}{fd:Xv}{ps:List Str}{x:Str}{F:FD}(G:FnOk X.prog X.w X.K X.mg X.base CX0 k f fd ps (spD X.K (sD F)))(hr:Room k X.A)(hm:X.mg x=some (.ref f))(hk:Vh X.K (.ref f)=true)(hb:Binds X.K fd ps [])(ha:MA X io p c (e :: es) (o2 ra))(hg:Gl X x:=by rfl)(h1:(x==("__debug__" : Str))=false:=by decide)(h2:Xr (e :: es) X.env=(false,eval e X.env) :: Xr es X.env:=by rfl)(h3:((BJ pos (Xr es X.env)).any λx=>x.fst)=false:=by rfl):ME X io p c (.Call (.Name x pp) (e :: es) [] pos) (o2 (Zu F ra)):=Z0n (Z4d G hr hg hm hk hb Z77 ha h1 h2 h3)
theorem xln{pos pp:Pos}(hm:X.mg "len"=none)(ha:MA X io p c [e] (o2 ra))(hg:Gl X "len" :=by rfl)(h2:Xr [e] X.env=(false,eval e X.env) :: Xr [] X.env:=by rfl):ME X io p true (.Call (.Name "len" pp) [e] [] pos) (o2 (Wr Zbs ra)):=J3 Z7q (Zfv Z2g (Ztb rfl) hg hm L2.B.boot_len ha (by decide) (by decide) h2 (by rfl))
end
noncomputable def Itd(lo:Int)(n:Nat):It:=⟨λi _=>i<n,λi H x H'=>H'=H∧x= .int (lo-i),λi _=>n≤i⟩
theorem Zrl{P:XM}{w:Qo}{K:Xb}{tg:Expr}(it:Addr)(lo:Int)(n:Nat):Turn P w K tg (Itd lo n) [it] it (λi h=>IsRangeIter h it (lo+(i:Nat)*(-1)) ((n:Int)-(i:Nat)) (-1)) where
 mem:=by simp
 obj:=λi h st b hb=>by
  have e:b=it:=by simpa using hb
  subst e
  exact⟨_,st,λv z=>by
   have z':Data.fields _=Data.cell v:=z
   cases z'⟩
 keep:=λi h h' st k=>k it (by simp) _ st
 item:=by
  intro X hP hw hK hc i pins s σ H E I hf st hg
  subst hP hw hK
  obtain⟨f0,f1,f2,f3,f4,f5⟩:=hf it (by simp)
  have W:=Walks.range (prog:=X.prog) (w:=X.w) (I.ok.hd hc) it lo (-1) n
  refine W.item i s _ _ hg st λv h' tk hv st' kk=>?_
  obtain⟨t,rfl⟩:=hv
  have I1:Inv X pins σ H { s with heap:=h',toks:=tk }:=I.turned (λb o hb e=>kk b o (by simpa using hb) e) f0 f1 f3 f4 f5
  refine⟨_,rfl,Zum (s:={ s with heap:=h',toks:=tk }) (n :="range_iterator") st' rfl rfl (by decide) ⟨.int (lo-i),H,I1,⟨t,?_⟩,⟨rfl,rfl⟩,st',λb hb=>(hf b hb).1⟩⟩
  rw[Int.mul_neg,Int.mul_one];rfl
 done:=by
  intro X hP hw hK hc i pins s σ H E I hf st hg
  subst hP hw hK
  obtain⟨f0,f1,f2,f3,f4,f5⟩:=hf it (by simp)
  exact wpAny_pyNext_range_end (I.ok.hd hc) st (by have:n≤i:=hg;omega) λh' eb=>⟨rfl,I.turned (t':=s.toks) (λb o hb e=>eb b o hb e) f0 f1 f3 f4 f5⟩
 self:=λ_ _ _ _ _ st h=>wpAny_pyIter_rangeiter st h
theorem rangeSize_down(a b:Int):Vn a b (-1)=if b<a then a-b else 0:=by
 unfold Vn
 simp only[show¬((-1:Int)>0) by decide,if_false,Int.neg_neg,Int.ediv_one]
 split<;>omega
theorem small_down{a b:Int}(ha:-(2^62)≤a)(ha':a<2^62)(hb:-(2^62)≤b)(hb':b<2^62):Builtin.Range.small a b (-1)=true:=by
 unfold Builtin.Range.small
 rw[rangeSize_down]
 simp only[Builtin.Range.rangeFitsLong,Xo,Bool.or_eq_true,decide_eq_true_eq,beq_iff_eq,show¬((-1:Int)>0) by decide,if_false]
 split<;>omega
section
variable {X:Cx}{tg:Expr}{io:List Nat}{p c:Bool}{a b d e:Expr}{mr:MAt}{ra:FA}
theorem Zsl{pins:List (Addr×Obj)}{σ:St}{H:Hp}{s:Xd}{R:It->Hp->Prop}{E:Xc->Xd->Prop}{lo hi:Int}{t u v:Tok}{tk:Nat}(I:Inv X pins σ H s)(h1:-(2^62)≤lo)(h2:lo<2^62)(h3:-(2^62)≤hi)(h4:hi<2^62)
  (q:R (Itd lo (lo-hi).toNat) H):XN (X7 X.prog X.w) X.A (pyIter (.ref s.heap.objs.size)) (PIE X pins σ tg R) E { s with heap:=s.heap.push { cls:=.type "range",data:=.fields #[.int lo t,.int hi u,.int (-1) v] },toks:=tk }:=by
 refine wpAny_pyIter_range (IsRange.new ..) (small_down h1 h2 h3 h4) ?_
 have I1:Inv X pins σ H { s with heap:=s.heap.push { cls:=.type "range",data:=.fields #[.int lo t,.int hi u,.int (-1) v] },toks:=tk }:=I.kept λb o e=>Xj _ e
 refine⟨(s.heap.push { cls:=.type "range",data:=.fields #[.int lo t,.int hi u,.int (-1) v] }).objs.size,[(s.heap.push { cls:=.type "range",data:=.fields #[.int lo t,.int hi u,.int (-1) v] }).objs.size],_,_,H,rfl,
  I1.kept (t':=tk) λb o e=>Xj _ e,Zrl _ lo (lo-hi).toNat,?_,λb hb=>?_,q⟩
 ·have e1:lo+((0:Nat):Int)*(-1)=lo:=by simp
  have e2:(((lo-hi).toNat:Nat):Int)-((0:Nat):Int)=Vn lo hi (-1):=by rw[rangeSize_down];split<;>omega
  show IsRangeIter _ _ (lo+((0:Nat):Int)*(-1)) ((((lo-hi).toNat:Nat):Int)-((0:Nat):Int)) (-1)
  rw[e1,e2]
  exact Qa _ rfl
 ·have e:b=(s.heap.push { cls:=.type "range",data:=.fields #[.int lo t,.int hi u,.int (-1) v] }).objs.size:=by simpa using hb
  subst e
  exact I1.fpOk (Qi _) (I1.hok.fresh (Qi _))
noncomputable def Z79(ta:TA):TI:=λσ H R=>ta σ H λvs H1=>∃i j:Int,vs=[.int i,.int j,.int (-1)]∧(-(2^62)≤i∧i<2^62∧-(2^62)≤j∧j<2^62)∧R (Itd i (i-j).toNat) H1
theorem Zr6{ta:TA}{p pos:Pos}(hg:Gl X "range")(hm:X.mg "range"=none)(ha:PA X [a,b,d] ta)(hs:Xr [a,b,d] X.env=[(false,eval a X.env),(false,eval b X.env),(false,eval d X.env)]:=by rfl)(hs2:Xr [b,d] X.env=[(false,eval b X.env),(false,eval d X.env)]:=by rfl) :
  PI X tg (.Call (.Name "range" p) [a,b,d] [] pos) (Z79 ta):=by
 intro pins s σ H R I h
 refine Call_ (Zif I hg hm boot_range (Ba (thn (ha pos pins s σ H _ I h) λus s1 qz=>?_) (by rw[hs,hs2]) (by rw[hs2];rfl)))
 obtain⟨vs,H1,I1,r1,q1⟩:=qz
 obtain⟨i,j,e,⟨q1,q2,q3,q4⟩,q⟩:=q1
 subst e
 cases r1 with
 | cons r rr=>
  cases rr with
  | cons r' rr=>
   cases rr with
   | cons r'' rr=>
    cases rr
    obtain⟨t,rfl⟩:=r
    obtain⟨t',rfl⟩:=r'
    obtain⟨t'',rfl⟩:=r''
    exact call_range_3 (by decide) (Zsl I1 q1 q2 q3 q4 q) (.inl (PyProof.noPylong_small (by decide)))
noncomputable def Zr3(lo:Int)(n:Nat):List Xa:=(Xn n).map λi=>.int (lo-(i:Nat))
theorem Zpl{lo:Int}{n i:Nat}{d:Xa}(h:(Zr3 lo n)[i]? =some d):i<n∧d= .int (lo-(i:Nat)):=by
 have hi:i<n:=by
  have:=(Xm.mp h).1
  simpa [Zr3]using this
 unfold Zr3 at h
 rw[Xl,Qp hi]at h
 cases h
 exact⟨hi,rfl⟩
theorem Zwh{G:Xb}{C:MC G}{fp:Fp}{ex:Addr->Prop}{H1:Hp}{lo:Int}{n:Nat}:IterOk C fp ex H1 true (Itd lo n) (Zr3 lo n):=λH' _ i=>by
 refine⟨λd hd=>?_,λhd=>?_⟩
 ·obtain⟨hi,rfl⟩:=Zpl hd
  refine⟨hi,λx H'' hy=>?_⟩
  obtain⟨rfl,rfl⟩:=hy
  exact⟨Same.refl _,.int _⟩
 ·have:=Qt.mp hd
  show n≤i
  simpa [Zr3]using this
noncomputable def iR3(mr:MAt):MIt:=λδ K=>mr δ λrs δ'=>∃i j:Int,OT.datas rs=[.int i,.int j,.int (-1)]∧(-(2^62)≤i∧i<2^62∧-(2^62)≤j∧j<2^62)∧K (Zr3 i (i-j).toNat) δ'
theorem Zsx{p' pos:Pos}(hg:Gl X "range")(hm:X.mg "range"=none)(ha:MA X io p c [a,b,d] mr)(hs:Xr [a,b,d] X.env=[(false,eval a X.env),(false,eval b X.env),(false,eval d X.env)]:=by rfl)(hs2:Xr [b,d] X.env=[(false,eval b X.env),(false,eval d X.env)]:=by rfl):MI X io p true tg (.Call (.Name "range" p') [a,b,d] [] pos) (iR3 mr):=by
 obtain⟨_,A,s⟩:=ha
 exact⟨_,Zr6 hg hm A hs hs2,λC H σ δ fp ex K' Q R h kk=>s C H σ δ fp ex _ _ R h λH1 vs rs δ1 fp1 new r1 h1=>by
  have q:=r1.das R
  obtain⟨i,j,e,h1,h2⟩:=h1
  rw[e]at q
  cases q with
  | cons q1 q2=>
   cases q1
   cases q2 with
   | cons q2 q3=>
    cases q2
    cases q3 with
    | cons q3 q4=>
     cases q3
     cases q4
     exact⟨_,_,rfl,h1,kk _ H1 _ δ1 fp1 r1.base r1.stp Zwh h2⟩⟩
noncomputable def dn3(ds:List Xa):Option (Int×Int):=match ds with|[.int i,.int j,.int k]=>if k= -1∧rOk i=true∧rOk j=true then some (i,j)else none|_=>none
noncomputable def iRc(a:FA):FI:=λδ=>(a δ).bind λp=>(dn3 (OT.datas p.1)).bind λij=>some (Zr3 ij.1 (ij.1-ij.2).toNat,p.2)
theorem Z2q{ds:List Xa}{ij:Int×Int}(h:dn3 ds=some ij):ds=[.int ij.1,.int ij.2,.int (-1)]∧rOk ij.1=true∧rOk ij.2=true:=by
 unfold dn3 at h
 split at h
 case h_2=>cases h
 split at h
 ·rename_i c;cases h;exact⟨by rw[c.1],c.2.1,c.2.2⟩
 ·cases h
theorem Z80(h:MI X io p c tg e (iR3 (o2 ra))):MI X io p c tg e (o2 (iRc ra)):=h.weak λδ K h=>by
 obtain⟨r,δ',h,k⟩:=h
 obtain⟨⟨x,δ1⟩,h1,h⟩:=bs h
 refine⟨x,δ1,h1,?_⟩
 obtain⟨ij,h2,h3⟩:=bs h
 obtain⟨e,a1,a2⟩:=Z2q h2
 cases h3
 have b1:=Zec a1
 have b2:=Zec a2
 exact⟨ij.1,ij.2,e,⟨b1.1,b1.2,b2.1,b2.2⟩,k⟩
end
noncomputable def tbl(P:List Nat)(led:Bool):BZ:={ mask:=7,place:=P.toArray,dummies:=#[],finger:=0,led,moves:=0,plain:=true }
noncomputable def hT(k:List Int):Int:=reduceHash (Builtin.Tuple.tupleHashOf (k.map hashInt))
noncomputable def hAt(ks:List (List Int))(i:Nat):Int:=(ks[i]?.map hT).getD 0
noncomputable def Z71(P:List Nat)(j:Nat):List Nat:=((tbl P false).put j).1.place.toList
noncomputable def Z17(P:List Nat)(j:Nat):Nat:=((tbl P false).put j).2
noncomputable def Ych(ks:List (List Int))(p:Nat)(k:List Int):List (List Int):=ks.take p ++ k :: ks.drop p
noncomputable def Ydi(P:List Nat)(ks:List (List Int))(k:List Int):Option (List Nat×List (List Int)) :=
 match(tbl P false).probe (hAt ks) (hT k) ((tbl P false).probeStart (hT k))with
 | some (.empty j none)=>if(tbl (Z71 P j) false).tooFull=false∧(Z71 P j).length=ks.length+1∧ks.length≤6∧Z17 P j≤ks.length then some (Z71 P j,Ych ks (Z17 P j) k)else none
 | some (.candidate _ i _)=>if ks[i]? =some k then some (P,ks)else none
 | _=>none
noncomputable def grow(K:List (List Int)):Nat->List (List Nat×List (List Int))->List (List Nat×List (List Int))
 | 0,S=>S
 | n+1,S=>grow K n (S ++ (S.flatMap λs=>K.filterMap λk=>Ydi s.1 s.2 k).filter λs=>!S.contains s)
noncomputable def K2:List (List Int):=[[0,0],[0,1],[1,0],[1,1]]
noncomputable def S2:List (List Nat×List (List Int)):=(grow K2 4 [([],[])]).eraseDups
section
variable {prog:XM}{w:Qo}{A:Ql}{E:Xc->Xd->Prop}{s:Xd}
inductive VJ(U:Addr->List Int->Prop):List (List Int)->List (Int×Xc)->Prop
 | nil:VJ U [] []
 | cons {k:List Int} {a:Addr} {ks:List (List Int)} {l:List (Int×Xc)} (h:U a k) (t:VJ U ks l):VJ U (k :: ks) ((hT k,.ref a) :: l)
theorem VJ.len{U:Addr->List Int->Prop}{ks:List (List Int)}{l:List (Int×Xc)}(h:VJ U ks l):ks.length=l.length:=by
 induction h with
 | nil=>rfl
 | cons _ _ ih=>rw[JD,JD,ih]
theorem VJ.hash{U:Addr->List Int->Prop}{ks:List (List Int)}{l:List (Int×Xc)}(h:VJ U ks l):l.map (·.1)=ks.map hT:=by
 induction h with
 | nil=>rfl
 | cons _ _ ih=>rw[Qs,Qs,ih]
theorem VJ.take{U:Addr->List Int->Prop}{ks:List (List Int)}{l:List (Int×Xc)}(h:VJ U ks l)(p:Nat):VJ U (ks.take p) (l.take p):=by
 induction h generalizing p with
 | nil=>rw[V2,V2];exact .nil
 | cons u t ih=>
  cases p with
  | zero=>exact .nil
  | succ p=>exact .cons u (ih p)
theorem VJ.drop{U:Addr->List Int->Prop}{ks:List (List Int)}{l:List (Int×Xc)}(h:VJ U ks l)(p:Nat):VJ U (ks.drop p) (l.drop p):=by
 induction h generalizing p with
 | nil=>rw[V3,V3];exact .nil
 | cons u t ih=>
  cases p with
  | zero=>exact .cons u t
  | succ p=>exact ih p
noncomputable def Ts(U:Addr->List Int->Prop)(h:Heap)(S:Addr)(P:List Nat)(ks:List (List Int)):Prop :=
 ∃o es ep led,h.get? S=some o∧o.ExactSet∧o.data= .set es ep (tbl P led)∧P.length=es.size∧es.size≤7∧VJ U ks es.toList
noncomputable abbrev IK(prog:XM)(w:Qo)(h:Heap)(k:List Int)(a:Addr):Prop:=IsTupleKey (intKind prog w) h k a
theorem items_int{ks:List Int}{vs:List Xc}(h:ItemsAre (intKind prog w) ks vs):∀v∈vs,∃i t,v= .int i t:=by
 induction h with
 | nil=>exact λ_ m=>nomatch m
 | cons h _ ih=>
  intro v hv
  rcases Xw.mp hv with rfl|hv
  ·obtain⟨t,e⟩:=Value.isInt_shape h
   exact⟨_,t,e⟩
  ·exact ih v hv
theorem VJ.at{U:Addr->List Int->Prop}{ks:List (List Int)}{es:Array (Int×Xc)}(h:VJ U ks es.toList)(i:Nat):(es[i]?.map (·.1)).getD 0=hAt ks i:=by
 unfold hAt
 rw[←Xl,←h.hash,Xl,Ve]
end
section
variable {prog:XM}{w:Qo}{A:Ql}{R:Result->Xd->Prop}{I:Addr}{fp wr:List Addr}{n:Nat}{Pv:Nat->Xc->Prop}{St:Nat->Heap->Prop}
end
inductive Z9e(H:Hp):List V->List (List Int)->Prop
 | nil:Z9e H [] []
 | cons {a:Addr} {k:List Int} {xs:List V} {ks:List (List Int)} (h:H a=some (.tup (k.map V.int))) (t:Z9e H xs ks):Z9e H (.ref a :: xs) (k :: ks)
section
variable {X:Cx}{p c:Bool}{io:List Nat}{a e:Expr}{pos pos' pl pr:Pos}{t:TA}{mr:MAt}{ra:FA}
end
section
variable {X:Cx}{G:Xb}
noncomputable def Z6r(d:Xa)(ds:List Xa):Bool:=ds.any λy=>Qy y d
noncomputable def Z94(neg:Bool)(K:Xb):R2:=λx y H Q=>∃(L L':Addr->Prop) (d e:Xa) (ds:List Xa),Da K H L x d∧Da K H L' y e∧Zj2 e=some ds∧d.canLay0=true∧e.canLay0=true∧d.depth≤32∧Q (.bl (if neg then !Z6r d ds else Z6r d ds)) H
theorem Z12{A:Ql}{d:Xa}{ds:List Xa}(hd:d.depth≤32)(hu:A.units+64<cLine):A.units+1+min (V4 ds) d.depth<cLine:=by
 have:=Nat.min_le_right (V4 ds) d.depth
 omega
theorem Zrk(hu:X.A.units+64<cLine):OpR X (Bj .NotIn) (Z94 true X.K):=by
 intro pins s σ H x y v u Q I rx ry h
 obtain⟨L,L',d,e,ds,h1,h2,h3,s1,s2,hd,q⟩:=h
 obtain⟨as,k1⟩:=h1.reads rfl I rx s1
 obtain⟨bs,k2⟩:=h2.reads rfl I ry s2
 cases e<;>cases h3
 ·exact SeqAt.notIn_list_reads k2 k1 s2 s1 (Z12 hd hu) ⟨.bl _,H,I,rfl,q⟩
 ·exact SeqAt.notIn_tuple_reads k2 k1 s2 s1 (Z12 hd hu) ⟨.bl _,H,I,rfl,q⟩
noncomputable def Znb(neg:Bool):Xa->Xa->Option Xa:=λd e=>match Zj2 e with
 | some ds=>if(d.canLay0&&(e.canLay0&&decide (d.depth≤32)))=true then some (.bool (if neg then !Z6r d ds else Z6r d ds))else none
 | none=>none
noncomputable def Yat(neg:Bool):Xa->Xa->(Xa->Prop)->Prop:=λd e k=>∃r,Znb neg d e=some r∧k r
theorem Z3g{neg:Bool}:P2s G (Z94 neg G) (Yat neg):=λH L x y d e k Q hx hy h kk=>by
 obtain⟨r,h,hk⟩:=h
 unfold Znb at h
 split at h
 case h_2=>cases h
 rename_i ds q
 split at h
 case isFalse=>cases h
 rename_i q2
 rw[Xo,Xo,decide_eq_true_eq]at q2
 cases h
 exact⟨L,L,d,e,ds,hx,hy,q,q2.1,q2.2.1,q2.2.2,kk _ _ (.bl _) hk⟩
theorem Z4a{neg:Bool}:ByS (Znb neg) (Yat neg):=λd e r k h hk=>⟨r,h,hk⟩
end
noncomputable abbrev Ycw(h:Heap)(T:Addr)(a b c:Xc):Prop:=h.get? T=some { cls:=.type "tuple",data:=.seq #[a,b,c] }
structure Z3A(z TI TO i1 i2 i3:Addr)(f1 f2 f3:List Addr):Prop where
 TIz:TI≠z
 TOz:TO≠z
 a1:∀c∈f1,c≠z∧c≠TO∧c≠i2∧c≠i3
 a2:∀c∈f2,c≠z∧c≠TO∧c≠i1∧c≠i3
 a3:∀c∈f3,c≠z∧c≠TO∧c≠i1∧c≠i2
section
variable {P:XM}{w:Qo}{A:Ql}{E:Xc->Xd->Prop}{s:Xd}
end
noncomputable abbrev z3A(h:Heap)(a:Addr):Heap:=h.push { cls:=.type "list_iterator",data:=.fields #[.ref a,.int 0 0] }
noncomputable abbrev z3B(h:Heap)(a b:Addr):Heap:=z3A (z3A h a) b
noncomputable abbrev z3C(h:Heap)(a b c:Addr):Heap:=z3A (z3B h a b) c
noncomputable abbrev z3D(h:Heap)(a b c:Addr):Heap:=(z3C h a b c).push { cls:=.type "tuple",data:=.seq #[.ref h.objs.size,.ref (z3A h a).objs.size,.ref (z3B h a b).objs.size] }
noncomputable abbrev z3E(h:Heap)(a b c:Addr):Heap:=(z3D h a b c).push { cls:=.type "tuple",data:=.seq #[.none,.none,.none] }
noncomputable abbrev z3F(h:Heap)(a b c:Addr):Heap:=(z3E h a b c).push { cls:=.type "zip",data:=.fields #[.none,.bool false,.bool false,.ref (z3C h a b c).objs.size,.ref (z3D h a b c).objs.size] }
section
variable {P:XM}{w:Qo}{A:Ql}{E:Xc->Xd->Prop}{s:Xd}
end
section
variable {X:Cx}{io:List Nat}{p c:Bool}{a b e:Expr}{mr:MAt}{ra:FA}
end
noncomputable def Up(xs:List Nat):Prop:=xs.Pairwise (·<·)
theorem Zyk{xs:List Nat}(h:Up xs){i j:Nat}{a b:Nat}(ha:xs[i]? =some a)(hb:xs[j]? =some b)(l:i<j):a<b:=by
 obtain⟨hi,rfl⟩:=Xm.mp ha
 obtain⟨hj,rfl⟩:=Xm.mp hb
 exact List.pairwise_iff_getElem.mp h i j hi hj l
theorem getD_at{xs:Array Nat}{i d:Nat}(h:i<xs.size):xs.toList[i]? =some (xs.getD i d):=by
 rw[Ve,Array.getElem?_eq_getElem h,Array.getD,dif_pos h];rfl
theorem Zvz{xs:Array Nat}{j:Nat}(up:Up xs.toList):∀(fuel lo hi:Nat),hi-lo≤fuel->lo≤hi->hi≤xs.size->(∀i a,i<lo->xs.toList[i]? =some a->a<j)->(∀i a,hi≤i->xs.toList[i]? =some a->j≤a) ->
  ∃p,SetTable.below.go xs j fuel lo hi=p∧p≤xs.size∧(∀i a,i<p->xs.toList[i]? =some a->a<j)∧∀i a,p≤i->xs.toList[i]? =some a->j≤a:=by
 intro fuel
 induction fuel with
 | zero=>
  intro lo hi f l z h1 h2
  have e:lo=hi:=by omega
  exact⟨lo,rfl,by omega,h1,λi a q=>h2 i a (by omega)⟩
 | succ fuel ih=>
  intro lo hi f l z h1 h2
  rw[SetTable.below.go]
  by_cases c:lo<hi
  ·rw[if_pos c]
   have hm:(lo+hi)/2<xs.size:=by omega
   have em:=getD_at (xs:=xs) (d:=j) hm
   by_cases q:xs.getD ((lo+hi)/2) j<j
   ·simp only[if_pos q]
    refine ih _ _ (by omega) (by omega) z (λi a li ea=>?_) h2
    by_cases e:i=(lo+hi)/2
    ·subst e
     rw[em]at ea
     cases ea
     exact q
    ·exact Va (Zyk up ea em (by omega)) q
   ·simp only[if_neg q]
    refine ih _ _ (by omega) (by omega) (by omega) h1 λi a li ea=>?_
    by_cases e:i=(lo+hi)/2
    ·subst e
     rw[em]at ea
     cases ea
     omega
    ·have:=Zyk up em ea (by omega)
     omega
  ·rw[if_neg c]
   have e:lo=hi:=by omega
   exact⟨lo,rfl,by omega,h1,λi a q=>h2 i a (by omega)⟩
theorem Zt3{xs:Array Nat}(up:Up xs.toList)(j:Nat):JT xs j≤xs.size∧(∀i a,i<JT xs j->xs.toList[i]? =some a->a<j)∧∀i a,JT xs j≤i->xs.toList[i]? =some a->j≤a:=by
 obtain⟨p,e,h⟩:=Zvz (j:=j) up xs.size 0 xs.size (by omega) (Q6 _) (Qi _) (λi a q=>absurd q (Nat.not_lt_zero _)) λi a q ea=>by
  have:=(Xm.mp ea).1
  rw[BR]at this
  omega
 unfold JT
 rw[e];exact h
theorem Z4g{xs:List Nat}(up:Up xs){p j:Nat}(h1:∀i a,i<p->xs[i]? =some a->a<j)(h2:∀i a,p≤i->xs[i]? =some a->j<a):Up (xs.take p ++ j :: xs.drop p):=by
 refine List.pairwise_append.mpr ⟨up.sublist (List.take_sublist ..),List.pairwise_cons.mpr ⟨λa ha=>?_,up.sublist (List.drop_sublist ..)⟩,λa ha b hb=>?_⟩
 ·obtain⟨i,hi⟩:=Vm ha
  rw[List.getElem?_drop]at hi
  exact h2 _ a (Vp _ _) hi
 ·obtain⟨i,hi⟩:=Vm ha
  have ip:i<p:=by
   have:=(Xm.mp hi).1
   rw[BW]at this
   omega
  rw[List.getElem?_take_of_lt ip]at hi
  have aj:=h1 i a ip hi
  rcases Xw.mp hb with rfl|hb
  ·exact aj
  ·obtain⟨k,hk⟩:=Vm hb
   rw[List.getElem?_drop]at hk
   exact Va aj (h2 _ b (Vp _ _) hk)
noncomputable def Zgn(t:BZ)(j:Nat):Prop:=t.place[JT t.place j]? ≠some j
structure Tb(b:Bool)(t:BZ):Prop where
 led:t.led=b
 up:t.plain=true->Up t.place.toList
theorem Zo1{t:BZ}{j:Nat}(h:t.slot j= .empty∨t.slot j= .dummy):Zgn t j:=λz=>by
 have:t.slot j= .live (JT t.place j):=by
  unfold BZ.slot
  rw[if_pos (beq_iff_eq.mpr z)]
 rcases h with h|h<;>rw[this]at h<;>cases h
theorem Zqu{t:BZ}{f:Nat->Int}{h:Int}:∀(fuel:Nat) (p:SetTable.Probe),(∀d,p.dummy=some d->Zgn t d)->∀j dm,SetTable.probe.go t f h fuel p=some (.empty j dm)->Zgn t j∧∀d,dm=some d->Zgn t d:=by
 intro fuel
 induction fuel with
 | zero=>intro p _ j dm e;cases e
 | succ fuel ih=>
  have adv:∀q:SetTable.Probe,(t.advance q).dummy=q.dummy:=λq=>by
   unfold BZ.advance
   split<;>rfl
  intro p hp j dm e
  rw[SetTable.probe.go]at e
  split at e
  ·rename_i c
   cases e
   exact⟨Zo1 (.inl c),hp⟩
  ·rename_i c
   refine ih _ (λd hd=>?_) j dm e
   rw[adv]at hd
   cases hd
   exact Zo1 (.inr c)
  ·split at e
   ·cases e
   ·exact ih _ (λd hd=>hp d (by rw[adv]at hd;exact hd)) j dm e
theorem Zuw{t:BZ}{h:Int}{j:Nat}{d:Bool}(e:t.freeSlot h=some (j,d)):Zgn t j:=by
 unfold BZ.freeSlot at e
 split at e
 ·rename_i j' dm q
  cases e
  obtain⟨h1,h2⟩:=Zqu _ _ (λd hd=>by cases hd) _ _ q
  cases dm with
  | none=>exact h1
  | some d=>exact h2 d rfl
 ·cases e
theorem Z3o{t:BZ}{j:Nat}(up:Up t.place.toList)(n:Zgn t j):Up (t.put j).1.place.toList:=by
 show Up (BZ.insertAt t.place (JT t.place j) j).toList
 obtain⟨b0,b1,b2⟩:=Zt3 up j
 rw[SetTable.toList_insertAt]
 refine Z4g up b1 λi a l ea=>?_
 have ja:=b2 i a l ea
 rcases Nat.lt_or_ge j a with c|c
 ·exact c
 ·have e:a=j:=by omega
  subst e
  exfalso
  rcases Nat.lt_or_ge (JT t.place a) i with c2|c2
  ·have hs:JT t.place a<t.place.toList.length:=Va c2 (Xm.mp ea).1
   have e1:=Xg hs
   have:=Zyk up e1 ea c2
   have:=b2 _ _ (Qi _) e1
   omega
  ·have e:i=JT t.place a:=by omega
   subst e
   exact n (by rw[←Ve];exact ea)
theorem Tb.stand{b:Bool}{t:BZ}(h:Tb b t)(n:Nat):Tb b (t.standIn n):=⟨h.led,λz=>nomatch z⟩
theorem Tb.lay{b:Bool}{t:BZ}(h:Tb b t)(es:Array (Int×Xc))(k:Int)(x:Xc):Tb b (layNew t es k x).2.1:=by
 unfold layNew
 split
 ·rename_i j d e
  dsimp only
  unfold BZ.orStandIn
  split
  ·exact⟨h.led,λz=>Z3o (h.up z) (Zuw e)⟩
  ·exact⟨h.led,λz=>nomatch z⟩
 ·exact h.stand _
noncomputable def vI:Xc->Int
 | .int k _=>k
 | _=>0
noncomputable def SetI(prog:XM)(w:Qo)(b:Bool)(h:Heap)(S:Addr)(ks:List Int):Prop :=
 ∃o es ep t,h.get? S=some o∧o.ExactSet∧o.data= .set es ep t∧ElemsOf (intKind prog w) es.toList∧es.size<scanBound∧t.fits es.size=true∧Tb b t∧es.toList.map (λe=>vI e.2)=ks
section
variable {prog:XM}{w:Qo}{A:Ql}{E:Xc->Xd->Prop}{s:Xd}{b:Bool}
theorem SetI.len{h:Heap}{S:Addr}{ks:List Int}(hS:SetI prog w b h S ks):ks.length<scanBound:=by
 obtain⟨o,es,ep,t,_,_,_,_,l,_,_,rfl⟩:=hS
 rw[Xf,BR];exact l
theorem SetI.put{h:Heap}{S:Addr}{o:Obj}{es es':Array (Int×Xc)}{ep:Nat}{t t':BZ}(ho:h.get? S=some o)(hex:o.ExactSet)(hd:o.data= .set es ep t)(he:ElemsOf (intKind prog w) es'.toList)(hb:es'.size<scanBound)(hf:t'.fits es'.size=true)(ht:Tb b t') :
  (h.update S (Obj.putSet es' t')).get? S=some { o with data:=.set es' (ep+1) t' }∧SetI prog w b (h.update S (Obj.putSet es' t')) S (es'.toList.map λe=>vI e.2):=by
 have g:=Heap.get?_update_self (Obj.putSet es' t') ho (by rw[putSet_of es' t' hd];rfl)
 rw[putSet_of es' t' hd]at g
 exact⟨g,_,es',ep+1,t',g,hex,rfl,he,hb,hf,ht,rfl⟩
end
noncomputable def OfL{α:Type}(ks ns:List α):Prop:=ks.Nodup∧∀x,x∈ks↔x∈ns
noncomputable abbrev Of(ks ns:List Int):Prop:=OfL ks ns
structure Ydl{τ:Type}(prog:XM)(w:Qo)(A:Ql)(S:Addr)(T:Heap->List τ->Prop)(h0:Heap)(n:Nat)(Ok:Xc->τ->Prop):Prop where
 stay:∀h h' ks,T h ks->(∀o,h.get? S=some o->h'.get? S=some o)->T h' ks
 add:∀(s:Xd) (E:Xc->Xd->Prop) (v:Xc) (k:τ) (ks:List τ) (Q:Bool->Xd->Prop),Ok v k->(∀b o,b<S->h0.get? b=some o->s.heap.get? b=some o)->T s.heap ks->ks.length<n->(∀c h' tk ks',Vo S s.heap h'->T h' ks'->(k∈ks->ks'=ks)->(k∉ks->ks'.Perm (ks ++ [k]))->Q c { s with heap:=h',toks:=tk })->XN (X7 prog w) A (setAdd S v) Q E s
section
variable {prog:XM}{w:Qo}{A:Ql}{R:Result->Xd->Prop}{I S:Addr}{fp wr:List Addr}{n:Nat}{Pv:Nat->Xc->Prop}{St:Nat->Heap->Prop}{τ:Type}{T:Heap->List τ->Prop}{h0:Heap}{Ok:Xc->τ->Prop}
end
section
variable {prog:XM}{w:Qo}{A:Ql}{E:Xc->Xd->Prop}{s:Xd}
end
section
variable {κ:Type}[DecidableEq κ]
noncomputable def Zp3(kvs:List (κ×V))(k:κ):Option V:=(kvs.find? λkv=>decide (kv.1=k)).map (·.2)
noncomputable def putK(kvs:List (κ×V))(k:κ)(v:V):List (κ×V) :=
 if(kvs.any λkv=>decide (kv.1=k))=true then kvs.map (λkv=>if kv.1=k then(kv.1,v)else kv)else kvs ++ [(k,v)]
noncomputable def Z42(kvs:List (κ×V))(k:κ):List (κ×V):=kvs.filter λkv=>decide (kv.1≠k)
theorem Zh3{p:κ×V}{r:List (κ×V)}{k:κ}(e:p.1=k):Zp3 (p :: r) k=some p.2:=by simp[Zp3,Vt,e]
theorem Zhz{p:κ×V}{r:List (κ×V)}{k:κ}(e:¬p.1=k):Zp3 (p :: r) k=Zp3 r k:=by simp[Zp3,Vt,e]
theorem Zo4(k:κ):∀kvs:List (κ×V),(kvs.any λkv=>decide (kv.1=k))=(Zp3 kvs k).isSome
 | []=>rfl
 | p :: r=>by
  rw[Vr]
  by_cases e:p.1=k
  ·simp only[Zh3 e,decide_eq_true e,Bool.true_or,Option.isSome_some]
  ·rw[Zhz e,decide_eq_false e,Bool.false_or];exact Zo4 k r
theorem RelO.isSome_eq{o:Option V}{u:Option Xc}(r:RelO o u):o.isSome=u.isSome:=by
 cases o with
 | none=>cases u with
  | none=>rfl
  | some _=>exact(show False from r).elim
 | some _=>cases u with
  | none=>exact(show False from r).elim
  | some _=>rfl
theorem RelO.getD{o:Option V}{u:Option Xc}{d:V}{d':Xc}(r:RelO o u)(rd:RelV d d'):RelV (o.getD d) (u.getD d'):=by
 cases o with
 | none=>cases u with
  | none=>exact rd
  | some _=>exact(show False from r).elim
 | some _=>cases u with
  | none=>exact(show False from r).elim
  | some _=>exact r
theorem KV.val{kvs:List (κ×V)}{vs:List (κ×Xc)}(r:KV kvs vs)(k:κ):RelO (Zp3 kvs k) (valueAt vs k):=by
 unfold KV at r
 induction r with
 | nil=>exact Ur
 | @cons p q ps qs h t ih=>
  obtain⟨h1,h2⟩:=h
  by_cases e:p.1=k
  ·have e':q.1=k:=h1.symm.trans e
   have b:valueAt (q :: qs) k=some q.2:=by simp[valueAt,Vt,e']
   rw[Zh3 e,b];exact h2
  ·have e':¬q.1=k:=λz=>e (h1.trans z)
   have b:valueAt (q :: qs) k=valueAt qs k:=by simp[valueAt,Vt,e']
   rw[Zhz e,b];exact ih
theorem KV.any{kvs:List (κ×V)}{vs:List (κ×Xc)}(r:KV kvs vs)(k:κ):(kvs.any λkv=>decide (kv.1=k))=vs.any λkv=>decide (kv.1=k):=by
 unfold KV at r
 induction r with
 | nil=>rfl
 | cons h t ih=>rw[Vr,Vr,ih,h.1]
theorem KV.repl{kvs:List (κ×V)}{vs:List (κ×Xc)}(r:KV kvs vs)(k:κ){y:V}{u:Xc}(ry:RelV y u) :
  KV (kvs.map λkv=>if kv.1=k then(kv.1,y)else kv) (vs.map λkv=>if kv.1=k then(kv.1,u)else kv):=by
 unfold KV at r⊢
 induction r with
 | nil=>exact .nil
 | @cons p q ps qs h t ih=>
  rw[Qs,Qs]
  refine .cons ?_ ih
  obtain⟨h1,h2⟩:=h
  by_cases e:p.1=k
  ·rw[if_pos e,if_pos (h1.symm.trans e)];exact⟨h1,ry⟩
  ·rw[if_neg e,if_neg (λz=>e (h1.trans z))];exact⟨h1,h2⟩
theorem KV.put{kvs:List (κ×V)}{vs:List (κ×Xc)}(r:KV kvs vs)(k:κ){y:V}{u:Xc}(ry:RelV y u):KV (putK kvs k y) (stored vs k u):=by
 unfold putK stored
 rw[r.any k]
 by_cases e:(vs.any λkv=>decide (kv.1=k))=true
 ·rw[if_pos e,if_pos e];exact r.repl k ry
 ·rw[if_neg e,if_neg e];exact Paired.snoc r ⟨rfl,ry⟩
theorem KV.drop{kvs:List (κ×V)}{vs:List (κ×Xc)}(r:KV kvs vs)(k:κ):KV (Z42 kvs k) (without vs k):=by
 unfold KV at r⊢
 unfold Z42 without
 induction r with
 | nil=>exact .nil
 | @cons p q ps qs h t ih=>
  obtain⟨h1,h2⟩:=h
  rw[List.filter_cons,List.filter_cons]
  by_cases e:p.1=k
  ·have a:¬decide (p.1≠k)=true:=by simp[e]
   have b:¬decide (q.1≠k)=true:=by simp[h1.symm.trans e]
   rw[if_neg a,if_neg b];exact ih
  ·have e':¬q.1=k:=λz=>e (h1.trans z)
   have a:decide (p.1≠k)=true:=by simp[e]
   have b:decide (q.1≠k)=true:=by simp[e']
   rw[if_pos a,if_pos b];exact .cons ⟨h1,h2⟩ ih
theorem KV.length{kvs:List (κ×V)}{vs:List (κ×Xc)}(r:KV kvs vs):kvs.length=vs.length:=Paired.length r
end
noncomputable abbrev KT(H:Hp):List (List Key×V)->List (List Key×Addr×Xc)->Prop:=Paired λp q=>p.1=q.1∧H q.2.1=some (.tup (p.1.map kV))∧RelV p.2 q.2.2
theorem KT.val{H:Hp}{kvs:List (List Key×V)}{xs:List (List Key×Addr×Xc)}(r:KT H kvs xs)(k:List Key):RelO (Zp3 kvs k) ((atKey xs k).map (·.2)):=by
 induction r with
 | nil=>exact Ur
 | @cons p q ps qs h t ih=>
  obtain⟨h1,_,h2⟩:=h
  by_cases e:p.1=k
  ·have e':q.1=k:=h1.symm.trans e
   have b:atKey (q :: qs) k=some q.2:=by simp[atKey,Vt,e']
   rw[Zh3 e,b];exact h2
  ·have e':¬q.1=k:=λz=>e (h1.trans z)
   have b:atKey (q :: qs) k=atKey qs k:=by simp[atKey,Vt,e']
   rw[Zhz e,b];exact ih
theorem KT.repl{H:Hp}{kvs:List (List Key×V)}{xs:List (List Key×Addr×Xc)}(r:KT H kvs xs)(k:List Key){y:V}{u:Xc}(ry:RelV y u) :
  KT H (kvs.map λkv=>if kv.1=k then(kv.1,y)else kv) (xs.map (putAt k u)):=by
 induction r with
 | nil=>exact .nil
 | @cons p q ps qs h t ih=>
  rw[Qs,Qs]
  refine .cons ?_ ih
  obtain⟨h1,h2,h3⟩:=h
  unfold putAt
  by_cases e:p.1=k
  ·rw[if_pos e,if_pos (h1.symm.trans e)];exact⟨h1,h2,ry⟩
  ·rw[if_neg e,if_neg (λz=>e (h1.trans z))];exact⟨h1,h2,h3⟩
theorem KT.put{H:Hp}{kvs:List (List Key×V)}{xs:List (List Key×Addr×Xc)}(r:KT H kvs xs)(k:List Key){b:Addr}{y:V}{u:Xc}(hb:H b=some (.tup (k.map kV)))(ry:RelV y u) :
  KT H (putK kvs k y) (storedH xs k b u):=by
 have e:(kvs.any λkv=>decide (kv.1=k))=(atKey xs k).isSome:=by
  rw[Zo4,(r.val k).isSome_eq,Option.isSome_map]
 unfold putK storedH
 rw[e]
 by_cases q:(atKey xs k).isSome=true
 ·rw[if_pos q,if_pos q];exact r.repl k ry
 ·rw[if_neg q,if_neg q];exact Paired.snoc r ⟨rfl,hb,ry⟩
section
variable {P:XM}{w:Qo}{H:Hp}{h:Heap}{a:Addr}
end
noncomputable def DGet(H:Hp)(a:Addr)(y:V)(r:Option V):Prop :=
 (∃ kvs k,Rd H a (.dK kvs)∧y=kV k∧r=Zp3 kvs k)∨∃kvs k b,Rd H a (.dT kvs)∧y= .ref b∧H b=some (.tup (k.map kV))∧r=Zp3 kvs k
noncomputable def DPut(H:Hp)(a:Addr)(y v:V)(H':Hp):Prop :=
 (∃ kvs k,H a=some (.dK kvs)∧y=kV k∧kvs.length<Xq∧H'=upd H a (.dK (putK kvs k v)))∨
 ∃kvs k b,H a=some (.dT kvs)∧y= .ref b∧H b=some (.tup (k.map kV))∧kvs.length<Xq∧H'=upd H a (.dT (putK kvs k v))
theorem DGet.k{H:Hp}{a:Addr}{kvs:List (Key×V)}{k:Key}(e:H a=some (.dK kvs)):DGet H a (kV k) (Zp3 kvs k):=.inl ⟨kvs,k,.inl e,rfl,rfl⟩
theorem DGet.t{H:Hp}{a b:Addr}{kvs:List (List Key×V)}{k:List Key}(e:H a=some (.dT kvs))(eb:H b=some (.tup (k.map kV))):DGet H a (.ref b) (Zp3 kvs k):=.inr ⟨kvs,k,b,.inl e,rfl,eb,rfl⟩
theorem DPut.k{H:Hp}{a:Addr}{kvs:List (Key×V)}{k:Key}{v:V}(e:H a=some (.dK kvs))(hl:kvs.length<Xq):DPut H a (kV k) v (upd H a (.dK (putK kvs k v))):=.inl ⟨kvs,k,e,rfl,hl,rfl⟩
theorem DPut.t{H:Hp}{a b:Addr}{kvs:List (List Key×V)}{k:List Key}{v:V}(e:H a=some (.dT kvs))(eb:H b=some (.tup (k.map kV)))(hl:kvs.length<Xq) :
  DPut H a (.ref b) v (upd H a (.dT (putK kvs k v))):=.inr ⟨kvs,k,b,e,rfl,eb,hl,rfl⟩
section
variable {X:Cx}{pins:List (Addr×Obj)}{σ:St}{H:Hp}{s:Xd}{a:Addr}{y v:V}{u r:Xc}{o:Option V}{A:Ql}{E:Xc->Xd->Prop}
end
section
variable {X:Cx}{pins:List (Addr×Obj)}{σ:St}{H:Hp}{s:Xd}{a:Addr}{kvs:List (Key×V)}{k:Key}{u:Xc}{A:Ql}{E:Xc->Xd->Prop}
end
section
variable {X:Cx}{o i e value:Expr}{pos pos' tpos:Pos}{td ty tv:TE}
end
section
variable {X:Cx}{pos:Pos}
end
noncomputable abbrev VV:List (V×V)->List (Xc×Xc)->Prop:=Paired λp q=>RelV p.1 q.1∧RelV p.2 q.2
structure M1(X:Cx)(o:Expr)(m:Str)(apos:Pos)(e:Expr)(cpos:Pos):Prop where
 base:attributeBase o m X.env (eval o X.env)=eval o X.env
 few:((BJ cpos (Xr [e] X.env)).all (λx=>!x.1)&&(backToKw cpos (keywordEach [] X.env)).all (λx=>x.1.isSome)
  &&decide (([e]:List Expr).length+([]:List Keyword).length+(if([]:List Keyword).isEmpty then 0 else 1)<30))=true
 line:(apos.endLine==cpos.line)=true
 trees:BJ cpos (Xr [e] X.env)=[(false,eval e X.env)]
structure M2(X:Cx)(o:Expr)(m:Str)(apos:Pos)(e f:Expr)(cpos:Pos):Prop where
 base:attributeBase o m X.env (eval o X.env)=eval o X.env
 few:((BJ cpos (Xr [e,f] X.env)).all (λx=>!x.1)&&(backToKw cpos (keywordEach [] X.env)).all (λx=>x.1.isSome)
  &&decide (([e,f]:List Expr).length+([]:List Keyword).length+(if([]:List Keyword).isEmpty then 0 else 1)<30))=true
 line:(apos.endLine==cpos.line)=true
 trees:BJ cpos (Xr [e,f] X.env)=[(false,eval e X.env),(false,eval f X.env)]
section
variable {X:Cx}{pins:List (Addr×Obj)}{σ:St}{H:Hp}{s:Xd}{a:Addr}{y d:V}{u r:Xc}{o:Option V}{A:Ql}{E:Xc->Xd->Prop}
end
section
variable {X:Cx}{o e f:Expr}{apos cpos:Pos}{td ty tx:TE}
end
variable {G:Xb}
noncomputable def Z8o(k:KY):List KY->List Xa->Option Xa
 | [],_=>none
 | _ :: _,[]=>none
 | j :: ks,d :: ds=>if j=k then some d else Z8o k ks ds
section
variable {H:Hp}{L:Addr->Prop}{κ:Type}[DecidableEq κ]{f:κ->KY}
noncomputable def Z90(G:Xb)(H:Hp)(L:Addr->Prop)(a:Option V)(b:Option Xa):Prop:=(∃v d,a=some v∧b=some d∧Da G H L v d)∨(a=none∧b=none)
theorem look(hf:∀a b,f a=f b->a=b)(k:κ)(kvs:List (κ×V)):∀ds,Das G H L (kvs.map (·.2)) ds->Z90 G H L (Zp3 kvs k) (Z8o (f k) (kvs.map λp=>f p.1) ds):=by
 induction kvs with
 | nil=>exact λds _=>.inr ⟨rfl,rfl⟩
 | cons p kvs ih=>
  intro ds h
  cases h with
  | cons h r=>
   rename_i d ds
   show Z90 G H L _ (if f p.1=f k then some d else Z8o (f k) (kvs.map λp=>f p.1) ds)
   by_cases e:p.1=k
   ·rw[Zh3 e,if_pos (congrArg f e)]
    exact .inl ⟨_,_,rfl,rfl,h⟩
   ·rw[Zhz e,if_neg λz=>e (hf _ _ z)]
    exact ih _ r
end
section
variable {H:Hp}{L:Addr->Prop}{y:V}{e:Xa}
end
end L2
namespace L2
open PySem PySem.Spec PyProof.Rows PySem.W PySem.SeqAt
variable {G:Xb}
section
variable {prog:XM}{w:Qo}{A:Ql}{E:Xc->Xd->Prop}{s:Xd}
theorem Zle{a:Addr}{Q:Unit->Xd->Prop}(na:(a==sysModules)=false)(h:Q () s):XN (X7 prog w) A (Builtin.Dict.showsAll a) Q E s:=by
 unfold Builtin.Dict.showsAll
 rw[if_neg (by rw[na];exact Xu)]
 exact X5 h
end
theorem Paired.at{α β:Type}{R:α->β->Prop}{as:List α}{bs:List β}(h:PySem.Paired R as bs):∀{i:Nat} {y:β},bs[i]? =some y->∃x,as[i]? =some x∧R x y:=by
 induction h with
 | nil=>intro i y z;cases z
 | cons h t ih=>
  intro i y z
  cases i with
  | zero=>cases z;exact⟨_,rfl,h⟩
  | succ i=>exact ih z
end L2
namespace L2
open PySem PySem.Spec PyProof.Rows
noncomputable def Yab(o:Option (Option OT))(δ:Zm):Option (OT×Zm):=match o with|some (some (.fz d))=>some (.fz d,δ)|_=>none
theorem Z0z(d:Xa)(δ:Zm):Yab (some (some (.fz d))) δ=some (.fz d,δ):=rfl
noncomputable def Z2b(o:Option (Option OT))(δ:Zm):Option (OT×Zm):=match o with|some (some t)=>some (.fz t.data,δ)|_=>none
theorem Z00(t:OT)(δ:Zm):Z2b (some (some t)) δ=some (.fz t.data,δ):=rfl
theorem Zzx(i:Nat)(δ:Zm):Ze i δ=Yab δ[i]? δ:=rfl
theorem Z0d(i:Nat)(δ:Zm):Zqg i δ=Z2b δ[i]? δ:=rfl
theorem Ycd(d:Xa)(δ:Zm):fC d δ=some (.fz d,δ):=rfl
theorem Zv2(g:Xa->Xa->Option Xa)(a b:FE)(δ:Zm):Zd g a b δ=(a δ).bind λp=>(b p.2).bind λq=>(g p.1.data q.1.data).bind λd=>some (.fz d,q.2):=rfl
theorem Zs9(g:Xa->Xa->Option OT)(a b:FE)(δ:Zm):Zt g a b δ=(a δ).bind λp=>(b p.2).bind λq=>(g p.1.data q.1.data).bind λd=>some (d,q.2):=rfl
theorem Z5g(g:Xa->Option Xa)(a:FE)(δ:Zm):fUn g a δ=(a δ).bind λp=>(g p.1.data).bind λd=>some (.fz d,p.2):=rfl
noncomputable def onB{α:Type}(d:Xa)(x y:Option α):Option α:=match d with| .bool true=>x| .bool false=>y|_=>none
theorem Z69{α:Type}(x y:Option α):onB (.bool true) x y=x:=rfl
theorem Z8m{α:Type}(x y:Option α):onB (.bool false) x y=y:=rfl
theorem Zsj(a b:FE)(δ:Zm):Zm8 a b δ=(a δ).bind λp=>onB p.1.data (b p.2) (some (.fz (.bool false),p.2)):=by
 unfold Zm8 onB
 cases a δ with
 | none=>rfl
 | some p=>first|rfl|(simp only[Xi];done)|(simp only[Xi];generalize p.1.data=d;cases d<;>first|rfl|(rename_i b;cases b<;>rfl))
theorem Yad(a b:FE)(δ:Zm):fOr a b δ=(a δ).bind λp=>onB p.1.data (some (.fz (.bool true),p.2)) (b p.2):=by
 unfold fOr onB
 cases a δ with
 | none=>rfl
 | some p=>first|rfl|(simp only[Xi];done)|(simp only[Xi];generalize p.1.data=d;cases d<;>first|rfl|(rename_i b;cases b<;>rfl))
theorem Z99(t:FT)(a b:FE)(δ:Zm):fIf t a b δ=(t δ).bind λp=>if p.1=true then a p.2 else b p.2:=rfl
noncomputable def Z67(t:OT)(δ:Zm):Option (Bool×Zm):=match t with| .fz (.bool b)=>some (b,δ)|_=>none
theorem Z3t(b:Bool)(δ:Zm):Z67 (.fz (.bool b)) δ=some (b,δ):=rfl
theorem Z73(e:FE)(δ:Zm):tV e δ=(e δ).bind λp=>Z67 p.1 p.2:=by
 unfold tV Z67
 cases e δ with
 | none=>rfl
 | some p=>rfl
theorem Z3k(t:FT)(δ:Zm):tNo t δ=(t δ).bind λp=>some (!p.1,p.2):=rfl
theorem Zwn(t u:FT)(δ:Zm):tAn t u δ=(t δ).bind λp=>if p.1=true then u p.2 else some (false,p.2):=rfl
theorem Z8w(t u:FT)(δ:Zm):tO t u δ=(t δ).bind λp=>if p.1=true then some (true,p.2)else u p.2:=rfl
theorem Z7x(e:FE)(δ:Zm):tD e δ=(e δ).bind λp=>(Zuy p.1.data).bind λb=>some (b,p.2):=rfl
theorem Z8r(δ:Zm):Zak δ=some (true,δ):=rfl
theorem Z7m(δ:Zm):Zn δ=some ([],δ):=rfl
theorem Zup(e:FE)(a:FA)(δ:Zm):Za e a δ=(e δ).bind λp=>(a p.2).bind λq=>some (p.1 :: q.1,q.2):=rfl
theorem Zzz(a:FA)(δ:Zm):Zby a δ=(a δ).bind λp=>if p.1.length≤Xq then some (.fz (.tuple (OT.datas p.1)),p.2)else none:=rfl
theorem Zsu(a:FA)(δ:Zm):Zbb a δ=(a δ).bind λp=>if p.1.length≤Xq then some (.nd p.1,p.2)else none:=rfl
theorem Zuf(a:FA)(δ:Zm):Zuk a δ=(a δ).bind λp=>if p.1.length≤Xq then some (.tp p.1,p.2)else none:=rfl
theorem Zv7(e:FE)(δ:Zm):Zmx e δ=(e δ).bind λp=>if Zca p.1.data=true then some (.fz p.1.data,p.2)else none:=rfl
theorem Z54(e:FE)(δ:Zm):Z35 e δ=(e δ).bind λp=>if Zy7 p.1=true then some (p.1,p.2)else none:=rfl
noncomputable def okO(x:RF)(δ:Zm):Option (OT×Zm):=match x with| .ok r=>some (r,δ)|_=>none
theorem Z5u(r:OT)(δ:Zm):okO (.ok r) δ=some (r,δ):=rfl
theorem Zul(F:FD)(a:FA)(δ:Zm):Zu F a δ=(a δ).bind λp=>okO (F (OT.datas p.1)) p.2:=by
 unfold Zu okO
 cases a δ with
 | none=>rfl
 | some p=>rfl
noncomputable def atO{α:Type}(o:Option (Option OT))(k:OT->Option α):Option α:=match o with|some (some t)=>k t|_=>none
theorem Yb5{α:Type}(t:OT)(k:OT->Option α):atO (some (some t)) k=k t:=rfl
theorem Z14(i:Nat)(F:FIO)(a:FA)(δ:Zm):Zw4 i F a δ=atO δ[i]? λ_=>(a δ).bind λp=>atO p.2[i]? λt=>(F t (OT.datas p.1)).bind λq=>some (q.1,p.2.set i (some q.2)):=by
 unfold Zw4
 generalize δ[i]? =o
 rcases o with _|_|t
 ·rfl
 ·rfl
 ·show(a δ).bind _=(a δ).bind _
  cases a δ with
  | none=>rfl
  | some p=>
   show(λo:Option (Option OT)=>(match o with|some (some t)=>(F t (OT.datas p.1)).bind λq=>some (q.1,p.2.set i (some q.2))|_=>none)) p.2[i]? =atO p.2[i]? _
   generalize p.2[i]? =o
   rcases o with _|_|t<;>rfl
theorem Z0o(g:List Xa->Option Xa)(a:FA)(δ:Zm):Wr g a δ=(a δ).bind λp=>(g (OT.datas p.1)).bind λd=>some (.fz d,p.2):=rfl
theorem Z2e(g:List Xa->Option OT)(a:FA)(δ:Zm):fBl g a δ=(a δ).bind λp=>(g (OT.datas p.1)).bind λd=>some (d,p.2):=rfl
theorem Zz1(T:String)(e:FE)(δ:Zm):Zla T e δ=(e δ).bind λp=>if Zj0 p.1.data=true then none else some (.fz (.bool (Zqo T p.1.data)),p.2):=rfl
theorem Yci(δ:Zm):oN δ=some (none,δ):=rfl
noncomputable def asInt{α:Type}(d:Xa)(k:Int->Option α):Option α:=match d with| .int i=>k i|_=>none
theorem Zse{α:Type}(i:Int)(k:Int->Option α):asInt (.int i) k=k i:=rfl
noncomputable def Ztm{α:Type}(d:Xa)(k:List Xa->Option α):Option α:=match d with| .list i=>k i|_=>none
theorem Zsd{α:Type}(i:List Xa)(k:List Xa->Option α):Ztm (.list i) k=k i:=rfl
noncomputable def Z0f{α:Type}(d:Xa)(k:List Xa->Option α):Option α:=match d with| .tuple i=>k i|_=>none
theorem Z7i{α:Type}(i:List Xa)(k:List Xa->Option α):Z0f (.tuple i) k=k i:=rfl
theorem Z9j(e:FE)(δ:Zm):oI e δ=(e δ).bind λp=>asInt p.1.data λi=>some (some i,p.2):=by
 unfold oI asInt
 cases e δ with
 | none=>rfl
 | some p=>rfl
theorem Z38(e:FE)(lo hi:FO)(δ:Zm):fSl e lo hi δ=(e δ).bind λp=>(lo p.2).bind λq=>(hi q.2).bind λr=>Ztm p.1.data λds=>some (.nd ((cutD ds q.1 r.1).map OT.fz),r.2):=by
 unfold fSl Ztm;rfl
theorem Zyx(e:FE)(δ:Zm):Zbu e δ=(e δ).bind λp=>Ztm p.1.data λds=>some (ds,p.2):=by
 unfold Zbu Ztm;rfl
theorem Z4j(e:FE)(δ:Zm):iTp e δ=(e δ).bind λp=>Z0f p.1.data λds=>some (ds,p.2):=by
 unfold iTp Z0f;rfl
noncomputable def as1{α:Type}(ds:List Xa)(k:Int->Option α):Option α:=match ds with|[.int i]=>k i|_=>none
theorem Z7j{α:Type}(i:Int)(k:Int->Option α):as1 [.int i] k=k i:=rfl
noncomputable def as2{α:Type}(ds:List Xa)(k:Int->Int->Option α):Option α:=match ds with|[.int i,.int j]=>k i j|_=>none
theorem Z9l{α:Type}(i j:Int)(k:Int->Int->Option α):as2 [.int i,.int j] k=k i j:=rfl
theorem Z6a(a:FA)(δ:Zm):iRa a δ=(a δ).bind λp=>as1 (OT.datas p.1) λj=>if rOk j=true then some (Zgg 0 j.toNat,p.2)else none:=by
 unfold iRa as1;rfl
theorem Z4h(a:FA)(δ:Zm):iRb a δ=(a δ).bind λp=>as2 (OT.datas p.1) λi j=>if(rOk i&&rOk j)=true then some (Zgg i (j-i).toNat,p.2)else none:=by
 unfold iRb as2;rfl
theorem Z7d(a:FA)(δ:Zm):Ybt a δ=(a δ).bind λp=>as1 (OT.datas p.1) λj=>if rOk j=true∧j.toNat≤Xq then some (.nd ((Zgg 0 j.toNat).map OT.fz),p.2)else none:=by
 unfold Ybt as1;rfl
theorem Zzr(a b:FE)(δ:Zm):Zz4 a b δ=(a δ).bind λp=>(b p.2).bind λq=>asInt q.1.data λk=>if rOk k=true∧k.toNat≤Xq then some (.nd (X4 k.toNat (.fz p.1.data)),p.2)else none:=by
 unfold Zz4 asInt;rfl
noncomputable def Z7u{α:Type}(ds:List Xa)(k:List Xa->List Xa->Option α):Option α:=match ds with|[.list i,.list j]=>k i j|_=>none
theorem Ybn{α:Type}(i j:List Xa)(k:List Xa->List Xa->Option α):Z7u [.list i,.list j] k=k i j:=rfl
theorem Z6k(a:FA)(δ:Zm):Z2x a δ=(a δ).bind λp=>Z7u (OT.datas p.1) λas bs=>some (Zo6 as bs,p.2):=by
 unfold Z2x Z7u;rfl
theorem Ya7(i:Nat)(d:Xa)(δ:Zm):gNm i d δ=some (δ.set i (some (.fz d))):=rfl
theorem Z74(i:Nat)(d:Xa)(δ:Zm):Yb0 i d δ=if Zca d=true then some (δ.set i (some (.fz d)))else none:=rfl
theorem Z98(δ:Zm):gNl [] δ=some δ:=rfl
theorem Ya5(g:FG)(gs:FGs)(d:Xa)(r:List Xa)(δ:Zm):gCn g gs (d :: r) δ=(g d δ).bind (gs r):=rfl
theorem Ybp(n:Nat)(gs:FGs)(ds:List Xa)(δ:Zm):gTp n gs (.tuple ds) δ=if ds.length=n then gs ds δ else none:=rfl
theorem Z9x(n:Nat)(gs:FGs)(ds:List Xa)(δ:Zm):gLs n gs (.list ds) δ=if ds.length=n then gs ds δ else none:=rfl
noncomputable def RS.thn(r:RS)(g:FS):RS:=match r with| .nx δ=>g δ|r=>r
theorem Zst(δ:Zm)(g:FS):(RS.nx δ).thn g=g δ:=rfl
theorem Zxm(r:OT)(δ:Zm)(g:FS):(RS.rt r δ).thn g= .rt r δ:=rfl
theorem Yam(δ:Zm)(g:FS):(RS.bk δ).thn g= .bk δ:=rfl
theorem Ya1(δ:Zm)(g:FS):(RS.ct δ).thn g= .ct δ:=rfl
theorem Yai(c:Str)(δ:Zm)(g:FS):(RS.ex c δ).thn g= .ex c δ:=rfl
theorem Zja(f g:FS)(δ:Zm):Z1 f g δ=(f δ).thn g:=rfl
theorem Yaz(δ:Zm):fNx δ= .nx δ:=rfl
theorem Z86(δ:Zm):Yc3 δ= .bk δ:=rfl
theorem Z9i(δ:Zm):Yc5 δ= .ct δ:=rfl
theorem Z16(c:Str)(δ:Zm):Zth c δ= .ex c δ:=rfl
theorem Z6t(δ:Zm):Z8a δ= .rt (.fz .none) δ:=rfl
noncomputable def onO{α:Type}(o:Option (α×Zm))(k:α->Zm->RS):RS:=match o with|some (r,δ')=>k r δ'|none=>.bad
theorem W9{α:Type}(r:α)(δ:Zm)(k:α->Zm->RS):onO (some (r,δ)) k=k r δ:=rfl
theorem Zhu(e:FE)(k:OT->Zm->RS)(δ:Zm):wE e k δ=onO (e δ) k:=by
 unfold wE onO
 cases e δ<;>rfl
noncomputable def onF(x:RF)(δ:Zm)(k:OT->Zm->RS):RS:=match x with| .ok r=>k r δ| .exn c=>.ex c δ| .bad=>.bad
theorem Ya8(r:OT)(δ:Zm)(k:OT->Zm->RS):onF (.ok r) δ k=k r δ:=rfl
theorem Ya2(c:Str)(δ:Zm)(k:OT->Zm->RS):onF (.exn c) δ k= .ex c δ:=rfl
theorem Ydg(F:FD)(a:FA)(k:OT->Zm->RS)(δ:Zm):wX F a k δ=onO (a δ) λrs δ1=>onF (F (OT.datas rs)) δ1 k:=by
 unfold wX onO onF
 cases a δ with
 | none=>rfl
 | some p=>rfl
theorem Zr1(t:FT)(u w:FS)(δ:Zm):J0 t u w δ=onO (t δ) λb δ'=>if b=true then u δ' else w δ':=by
 unfold J0 onO
 cases t δ<;>rfl
theorem Zx3(it:FI)(g:FG)(u:FS)(δ:Zm):Za2 it g u δ=onO (it δ) λds δ1=>forLoop g u ds δ1:=by
 unfold Za2 onO
 cases it δ<;>rfl
theorem Z6h(r:OT)(δ:Zm):Z88 r δ= .nx δ:=rfl
theorem Zzk(r:OT)(δ:Zm):Wa r δ= .rt r δ:=rfl
theorem Z6b(r:OT)(δ:Zm):Z8q r δ=if Zca r.data=true then .rt (.fz r.data) δ else .bad:=rfl
theorem Zy5(i:Nat)(r:OT)(δ:Zm):Yt i r δ= .nx (δ.set i (some (.fz r.data))):=rfl
theorem Z6m(i:Nat)(r:OT)(δ:Zm):Z9b i r δ=if Zca r.data=true then .nx (δ.set i (some (.fz r.data)))else .bad:=rfl
theorem Zvo(i:Nat)(r:OT)(δ:Zm):Zc9 i r δ= .nx (δ.set i (some r)):=rfl
noncomputable def onD(o:Option Zm):RS:=match o with|some δ=>.nx δ|none=>.bad
theorem Z6l(δ:Zm):onD (some δ)= .nx δ:=rfl
theorem Z7s(g:FG)(r:OT)(δ:Zm):Ycu g r δ=onD (g r.data δ):=rfl
noncomputable def onT(o:Option (Option OT))(k:OT->RS):RS:=match o with|some (some t)=>k t|_=>.bad
theorem Z2o(t:OT)(k:OT->RS):onT (some (some t)) k=k t:=rfl
theorem Zvi(i:Nat)(δ:Zm):Zho i δ=onT δ[i]? λt=>.rt t (δ.set i none):=rfl
theorem Zqi(i:Nat)(u:FS)(δ:Zm):Zdf i u δ=onT δ[i]? λt=>u (δ.set i (some (.fz t.data))):=rfl
noncomputable def onN(o:Option (Option OT))(k:List OT->RS):RS:=match o with|some (some (.nd ts))=>k ts|_=>.bad
theorem Z13(t:List OT)(k:List OT->RS):onN (some (some (.nd t))) k=k t:=rfl
theorem Zp9(i:Nat)(e:FE)(δ:Zm):J6 i e δ=onN δ[i]? λ_=>onO (e δ) λr δ1=>onN δ1[i]? λts=>if ts.length<Xq then .nx (δ1.set i (some (.nd (ts ++ [.fz r.data]))))else .bad:=by
 unfold J6
 generalize δ[i]? =o
 rcases o with _|_|(_|_|_|_)
 ·rfl
 ·rfl
 ·rfl
 ·show wE e _ δ=onO (e δ) _
  rw[Zhu]
  congr 1
 ·rfl
 ·rfl
theorem Z0v(i:Nat)(e:FE)(δ:Zm):Zo0 i e δ=onN δ[i]? λ_=>onO (e δ) λr δ1=>onN δ1[i]? λts=>if ts.length<Xq then .nx (δ1.set i (some (.nd (ts ++ [r]))))else .bad:=by
 unfold Zo0
 generalize δ[i]? =o
 rcases o with _|_|(_|_|_|_)
 ·rfl
 ·rfl
 ·rfl
 ·show wE e _ δ=onO (e δ) _
  rw[Zhu]
  congr 1
 ·rfl
 ·rfl
noncomputable def onI(d:Xa)(k:Int->RS):RS:=match d with| .int i=>k i|_=>.bad
theorem Ycn(i:Int)(k:Int->RS):onI (.int i) k=k i:=rfl
noncomputable def onX(o:Option Nat)(k:Nat->RS):RS:=match o with|some i=>k i|_=>.bad
theorem Yc0(i:Nat)(k:Nat->RS):onX (some i) k=k i:=rfl
theorem Z0e(i:Nat)(e j:FE)(δ:Zm):Zyh i e j δ=onO (e δ) λr δ1=>onN δ1[i]? λts=>onO (j δ1) λn _=>onI n.data λk=>onX (ixN ts.length k) λj=>.nx (δ1.set i (some (.nd (ts.set j (.fz r.data))))):=by
 unfold Zyh
 rw[Zhu]
 congr 1
 funext r δ1
 generalize δ1[i]? =o
 rcases o with _|_|(_|_|_|_)
 ·rfl
 ·rfl
 ·rfl
 ·show wE j _ δ1=onO (j δ1) _
  rw[Zhu]
  congr 1
  funext n δ2
  generalize n.data=d
  cases d<;>try rfl
  show(match ixN _ _ with|some j=>_|none=>_)=onX (ixN _ _) _
  generalize ixN _ _=x
  cases x<;>rfl
 ·rfl
 ·rfl
noncomputable def onU(o:Option OT)(k:List OT->RS):RS:=match o with|some (.nd ts)=>k ts|_=>.bad
theorem Ycz(t:List OT)(k:List OT->RS):onU (some (.nd t)) k=k t:=rfl
noncomputable def onP(o:Option (Option OT))(k:List OT->RS):RS:=match o with|some (some (.tp ts))=>k ts|_=>.bad
theorem Yb3(t:List OT)(k:List OT->RS):onP (some (some (.tp t))) k=k t:=rfl
theorem Z3c(i c:Nat)(e:FE)(δ:Zm):Zwo i c e δ=onP δ[i]? λts=>onU ts[c]? λus=>onO (e δ) λr _=>if us.length<Xq then .nx (δ.set i (some (.tp (ts.set c (.nd (us ++ [.fz r.data]))))))else .bad:=by
 unfold Zwo
 generalize δ[i]? =o
 rcases o with _|_|(_|_|ts|_)
 ·rfl
 ·rfl
 ·rfl
 ·rfl
 ·show(match ts[c]? with|some (.nd us)=>wE e _ δ|_=>_)=onU ts[c]? _
  generalize ts[c]? =o
  rcases o with _|(_|_|_|_)
  ·rfl
  ·rfl
  ·show wE e _ δ=onO (e δ) _
   rw[Zhu]
  ·rfl
  ·rfl
 ·rfl
noncomputable def on2(ds:List Xa)(k:Xa->Xa->RS):RS:=match ds with|[d,e]=>k d e|_=>.bad
theorem Yb2(d e:Xa)(k:Xa->Xa->RS):on2 [d,e] k=k d e:=rfl
theorem Z8i(i j:Nat)(a:FA)(δ:Zm):Ybd i j a δ=onO (a δ) λrs δ1=>on2 (OT.datas rs) λd e=>.nx ((δ1.set i (some (.fz d))).set j (some (.fz e))):=by
 unfold Ybd onO on2
 cases a δ<;>rfl
theorem Zzv{np n:Nat}{S:FS}{ds:List Xa}(h:ds.length=np):Jy np n S ds=(S (Za8 n ds)).told:=by
 unfold Jy;rw[if_pos h]
theorem Z7o(δ:Zm):(RS.nx δ).told= .ok (.fz .none):=rfl
theorem Z1d(r:OT)(δ:Zm):(RS.rt r δ).told= .ok r:=rfl
theorem Z65(c:Str)(δ:Zm):(RS.ex c δ).told= .exn c:=rfl
theorem Yba(i j:Int):Wx (.int i) (.int j)=some (.int (i+j)):=rfl
theorem Ycg(i j:Int):gSb (.int i) (.int j)=some (.int (i-j)):=rfl
theorem Yck(i j:Int):gLt (.int i) (.int j)=some (.bool (decide (i<j))):=rfl
theorem Ydj(i j:Int):gLe (.int i) (.int j)=some (.bool (decide (i≤j))):=rfl
theorem Z8k(i j:Int):gGt (.int i) (.int j)=some (.bool (decide (j<i))):=rfl
theorem Z8v(i j:Int):gGe (.int i) (.int j)=some (.bool (decide (j≤i))):=rfl
theorem Zer{i j:Int}(h:Zxv i j=true):Jk (.int i) (.int j)=some (.int (i*j)):=by
 unfold Jk i2c;dsimp only;rw[if_pos h]
theorem Zix{i j:Int}(h:Z3x i j=true):Wm (.int i) (.int j)=some (.int (i.fdiv j)):=by
 unfold Wm i2c;dsimp only;rw[if_pos h]
theorem Z3n{i j:Int}(h:j≠0):Y5 (.int i) (.int j)=some (.int (i.fmod j)):=by
 unfold Y5 i2c Z91;dsimp only;rw[if_pos (decide_eq_true h)]
theorem Zdp{m n:Nat}{x y:Int}(h:Bt m x)(k:Bt n y)(hmn:m+n≤100000000:=by decide):Zxv x y=true:=Zhv.mpr (h.mulOk k hmn)
theorem Z3s{x y:Int}(h:x.natAbs<2^64):Zxv x y=true:=Zhv.mpr (.of_left (intBits_le_64 (by omega) (by omega)))
theorem Z3j{x y:Int}(h:y.natAbs<2^64):Zxv x y=true:=Zhv.mpr (.of_right (intBits_le_64 (by omega) (by omega)))
theorem Zip{n:Nat}{i j:Int}(h0:j≠0)(h:Bt n j)(hn:n≤9000:=by decide):Z3x i j=true:=by
 obtain⟨h1,h2⟩:=DivOk.of (i:=i) h0 h hn
 unfold Z3x
 rw[decide_eq_true h1,decide_eq_true h2];rfl
theorem Z7p(i j:Int):gEq (.int i) (.int j)=some (.bool (decide (i=j))):=by
 show some (PyData.bool (i==j))=_
 rw[show(i==j)=decide (i=j)from rfl]
theorem Z81(i j:Int):gNe (.int i) (.int j)=some (.bool (!decide (i=j))):=by
 show some (PyData.bool (!(i==j)))=_
 rw[show(i==j)=decide (i=j)from rfl]
theorem Yc1(d:Xa):gIs d .none=some (.bool (Zkp d)):=rfl
theorem Z6n(d:Xa):Z5d d .none=some (.bool (!Zkp d)):=rfl
theorem Zhn(ds:List Xa)(i:Int):gIx (.list ds) (.int i)=(atI ds i).bind λx=>some (.fz x):=rfl
theorem Ycx(ds:List Xa)(i:Int):gIx (.tuple ds) (.int i)=(atI ds i).bind λx=>some (.fz x):=rfl
theorem Z4m(ds:List Xa):Zbs [.list ds]=some (.int ds.length):=rfl
theorem Zr0(ds:List Xa):Zbs [.tuple ds]=some (.int ds.length):=rfl
theorem Zrn(i:Int):Z1n [.int i]=some (.int (i.natAbs:Int)):=by
 show some (Xk (if i<0 then -i else i))=_
 congr 2;split<;>omega
theorem Zoz(i j:Int):Zph [.int i,.int j]=some (.int (if j>i then j else i)):=rfl
theorem Zxn(i j:Int):Z1j [.int i,.int j]=some (.int (if j<i then j else i)):=rfl
theorem Ybh(i:Int):Zm9 [.int i]=some (.int i):=rfl
theorem Yan(b:Bool):Zm9 [.bool b]=some (.int (if b then 1 else 0)):=rfl
theorem Zq6(ds:List Xa):Zpx [.list ds]=some (.nd (ds.map OT.fz)):=rfl
theorem Z7w(ds:List Xa):Zpx [.tuple ds]=some (.nd (ds.map OT.fz)):=rfl
theorem Z2l{ds es:List Xa}(h:ds.length+es.length≤Xq):Zjj (.list ds) (.list es)=some (.nd ((ds ++ es).map OT.fz)):=by
 unfold Zjj;dsimp only;rw[if_pos h]
theorem Z5q(i:Int):Zj4 (.int i)=some (.int (-i)):=rfl
theorem Yaj(b:Bool):Z7b (.bool b)=some (.bool (!b)):=rfl
theorem Z9v(b:Bool):Zuy (.bool b)=some b:=rfl
theorem Ya3(i:Int):Zuy (.int i)=some (i !=0):=rfl
theorem Ybj:Zuy .none=some false:=rfl
theorem Ybq(ds:List Xa):Zuy (.list ds)=some (!ds.isEmpty):=rfl
theorem Zu1{n:Nat}{d:Xa}(h:Sh n d)(hp:Yr d=true)(hn:n≤60):gNe d d=some (.bool false):=by
 have s:Be d=true:=(h.shp (by omega)).ok
 unfold gNe
 rw[if_pos (by rw[s];rfl),Zlr hp];rfl
theorem Zot{gg:FG}{u:FS}{ds:List Xa}{δ:Zm}(I:Nat->Zm->Prop)(h0:I 0 δ)
  (turn:∀(i:Nat) (d:Xa) (δ:Zm),ds[i]? =some d->I i δ->∃δ1 δ2,gg d δ=some δ1∧(u δ1= .nx δ2∨u δ1= .ct δ2)∧I (i+1) δ2):∃δ',forLoop gg u ds δ= .nx δ'∧I ds.length δ':=by
 induction ds generalizing δ I with
 | nil=>exact⟨δ,rfl,h0⟩
 | cons d ds ih=>
  obtain⟨δ1,δ2,e1,e2,h1⟩:=turn 0 d δ rfl h0
  obtain⟨δ',e3,h3⟩:=ih (δ:=δ2) (λi δ=>I (i+1) δ) h1 λi d' δ hd hi=>turn (i+1) d' δ (by simpa using hd) hi
  refine⟨δ',?_,h3⟩
  rw[Zhc,e1]
  dsimp only
  rcases e2 with e2|e2<;>rw[e2]<;>exact e3
noncomputable def Goes(r:RS)(Q:Zm->Prop):Prop:=∃δ,(r= .nx δ∨r= .ct δ)∧Q δ
theorem Goes.nx{δ:Zm}{Q:Zm->Prop}(h:Q δ):Goes (.nx δ) Q:=⟨δ,.inl rfl,h⟩
theorem Goes.ct{δ:Zm}{Q:Zm->Prop}(h:Q δ):Goes (.ct δ) Q:=⟨δ,.inr rfl,h⟩
theorem Zq2{α:Type}{me:FE}{cs:Zm}(mk:α->Xa)(f:α->OT):∀(xs:List α) (z:Option OT),(∀x∈xs,me (some (.fz (mk x)) :: cs)=some (f x,some (.fz (mk x)) :: cs)) ->
  ∃z',compLoop (gNm 0) Zak me (xs.map mk) (z :: cs)=some (xs.map f,z' :: cs)
 | [],z,_=>⟨z,rfl⟩
 | x :: xs,z,h=>by
  obtain⟨z',e⟩:=Zq2 mk f xs (some (.fz (mk x))) λy hy=>h y (.tail _ hy)
  refine⟨z',?_⟩
  rw[Qs,compLoop]
  show(some (some (OT.fz (mk x)) :: cs)).bind _=_
  rw[Xi]
  show(some (true,some (OT.fz (mk x)) :: cs)).bind _=_
  rw[Xi,if_pos rfl,h x (.head _),Xi,e];rfl
theorem Zoc{α:Type}{t:FT}{me:FE}{cs:Zm}(mk:α->Xa)(p:α->Bool)(f:α->OT):∀(xs:List α) (z:Option OT),(∀x∈xs,t (some (.fz (mk x)) :: cs)=some (p x,some (.fz (mk x)) :: cs))->(∀x∈xs,p x=true->me (some (.fz (mk x)) :: cs)=some (f x,some (.fz (mk x)) :: cs)) ->
  ∃z',compLoop (gNm 0) t me (xs.map mk) (z :: cs)=some ((xs.filter p).map f,z' :: cs)
 | [],z,_,_=>⟨z,rfl⟩
 | x :: xs,z,ht,h=>by
  obtain⟨z',e⟩:=Zoc mk p f xs (some (.fz (mk x))) (λy hy=>ht y (.tail _ hy)) λy hy=>h y (.tail _ hy)
  refine⟨z',?_⟩
  rw[Qs,compLoop]
  show(some (some (OT.fz (mk x)) :: cs)).bind _=_
  rw[Xi,ht x (.head _),Xi]
  dsimp only
  by_cases hp:p x=true
  ·rw[if_pos hp,h x (.head _) hp,Xi,e,List.filter_cons_of_pos hp];rfl
  ·rw[if_neg hp,e,List.filter_cons_of_neg hp]
theorem Zfr{α:Type}{caps:List Nat}{it:FI}{me:FE}{cs δ δ1:Zm}(xs:List α)(mk:α->Xa)(f:α->OT)(hi:it δ=some (xs.map mk,δ1))(hz:xs.length≤Xq)(hb:blk 1 caps δ1=none :: cs)
  (h:∀x∈xs,me (some (.fz (mk x)) :: cs)=some (f x,some (.fz (mk x)) :: cs)):Z6 1 caps it (gNm 0) Zak me δ=some (.nd (xs.map f),δ1):=by
 unfold Z6
 rw[hi,Xi]
 dsimp only
 rw[if_pos (by rw[Xf];exact hz),hb]
 obtain⟨z',e⟩:=Zq2 (me:=me) (cs:=cs) mk f xs none h
 rw[e];rfl
theorem Zmh{α:Type}{caps:List Nat}{it:FI}{t:FT}{me:FE}{cs δ δ1:Zm}(xs:List α)(mk:α->Xa)(p:α->Bool)(f:α->OT)(hi:it δ=some (xs.map mk,δ1))(hz:xs.length≤Xq)(hb:blk 1 caps δ1=none :: cs)
  (ht:∀x∈xs,t (some (.fz (mk x)) :: cs)=some (p x,some (.fz (mk x)) :: cs)) (h:∀x∈xs,p x=true->me (some (.fz (mk x)) :: cs)=some (f x,some (.fz (mk x)) :: cs)):Z6 1 caps it (gNm 0) t me δ=some (.nd ((xs.filter p).map f),δ1):=by
 unfold Z6
 rw[hi,Xi]
 dsimp only
 rw[if_pos (by rw[Xf];exact hz),hb]
 obtain⟨z',e⟩:=Zoc (t:=t) (me:=me) (cs:=cs) mk p f xs none ht h
 rw[e];rfl
theorem Ydc:(2≤Xq)=True:=by simp[Qe]
theorem Ycl:(1≤Xq)=True:=by simp[Qe]
theorem Yby:(0≤Xq)=True:=by simp
theorem Z9c:(3≤Xq)=True:=by simp[Qe]
theorem Zqf{α:Type}(f:α->Xa)(xs:List α):(xs.map λx=>OT.fz (f x)).map OT.data=xs.map f:=by
 rw[Qh];exact X8 λx _=>OT.data_fz _
theorem Zx6{α:Type}{j:Int}{x:α}(h0:0≤j)(h1:j≤1000000):(if rOk j=true then some x else none)=some x:=if_pos (Zkg (by omega) h1)
theorem Z02{α:Type}{i j:Int}{x:α}(h0:0≤i)(h1:i≤1000000)(h2:0≤j)(h3:j≤1000000):(if(rOk i&&rOk j)=true then some x else none)=some x:=if_pos (by rw[Zkg (by omega) h1,Zkg (by omega) h3];rfl)
theorem Z3z{r:RS}{k:Nat}(h:k≤1000000):(if k<Xq then r else .bad)=r:=if_pos (by rw[Qe];omega)
noncomputable def EvV(e:FE)(δ:Zm)(d:Xa):Prop:=∃t,e δ=some (t,δ)∧t.data=d
noncomputable def EvA(a:FA)(δ:Zm)(ds:List Xa):Prop:=∃ts,a δ=some (ts,δ)∧OT.datas ts=ds
noncomputable def EvT(t:FT)(δ:Zm)(b:Bool):Prop:=t δ=some (b,δ)
noncomputable def Told(F:FD)(ds:List Xa)(d:Xa):Prop:=∃t,F ds= .ok t∧t.data=d
section
variable {e a b:FE}{as:FA}{δ δ':Zm}{x y d:Xa}{xs ds:List Xa}{i j:Nat}{p q:Bool}{t u:FT}{S S':FS}{r:RS}
theorem EvV.cast{e:FE}{δ:Zm}{x y:Xa}(h:EvV e δ x)(k:x=y):EvV e δ y:=k▸h
theorem Zc(h:δ[i]? =some (some (.fz d)):=by rfl):EvV (Ze i) δ d:=⟨_,by rw[Zzx,h,Z0z],OT.data_fz _⟩
theorem Zxk{t:OT}(h:δ[i]? =some (some t))(hd:t.data=d):EvV (Zqg i) δ d:=⟨_,by rw[Z0d,h,Z00],by rw[OT.data_fz,hd]⟩
theorem Zq:EvV (fC d) δ d:=⟨_,rfl,OT.data_fz _⟩
theorem Z0{g:Xa->Xa->Option Xa}(ha:EvV a δ x)(hb:EvV b δ y)(h:g x y=some d):EvV (Zd g a b) δ d:=by
 obtain⟨_,e1,d1⟩:=ha
 obtain⟨_,e2,d2⟩:=hb
 exact⟨_,by rw[Zv2,e1,Xi,e2,Xi,d1,d2,h,Xi],OT.data_fz _⟩
theorem Zwr{g:Xa->Xa->Option OT}{o:OT}(ha:EvV a δ x)(hb:EvV b δ y)(h:g x y=some o)(hd:o.data=d):EvV (Zt g a b) δ d:=by
 obtain⟨_,e1,d1⟩:=ha
 obtain⟨_,e2,d2⟩:=hb
 exact⟨_,by rw[Zs9,e1,Xi,e2,Xi,d1,d2,h,Xi],hd⟩
theorem Z8(ha:EvV a δ x)(hb:EvV b δ y)(h:gIx x y=some (.fz d)):EvV (Zt gIx a b) δ d:=Zwr ha hb h (OT.data_fz _)
theorem Yn{i j:Int}(ha:EvV a δ (.int i))(hb:EvV b δ (.int j)):EvV (Zd Wx a b) δ (.int (i+j)):=Z0 ha hb rfl
theorem Zi7{i j:Int}(ha:EvV a δ (.int i))(hb:EvV b δ (.int j)):EvV (Zd gSb a b) δ (.int (i-j)):=Z0 ha hb rfl
theorem Z9g{g:Xa->Option Xa}(ha:EvV a δ x)(h:g x=some d):EvV (fUn g a) δ d:=by
 obtain⟨_,e1,d1⟩:=ha
 exact⟨_,by rw[Z5g,e1,Xi,d1,h,Xi],OT.data_fz _⟩
theorem Zh9(ha:EvV a δ (.bool true))(hb:EvV b δ d):EvV (Zm8 a b) δ d:=by
 obtain⟨_,e1,d1⟩:=ha
 obtain⟨_,e2,d2⟩:=hb
 exact⟨_,by rw[Zsj,e1,Xi,d1,Z69,e2],d2⟩
theorem Zuu(ha:EvV a δ (.bool false)):EvV (Zm8 a b) δ (.bool false):=by
 obtain⟨_,e1,d1⟩:=ha
 exact⟨_,by rw[Zsj,e1,Xi,d1,Z8m],OT.data_fz _⟩
theorem Z4q{T:String}(ha:EvV a δ x)(hf:Zj0 x=false:=by rfl):EvV (Zla T a) δ (.bool (Zqo T x)):=by
 obtain⟨_,e1,d1⟩:=ha
 exact⟨_,by rw[Zz1,e1,Xi,d1,if_neg (by rw[hf];decide)],OT.data_fz _⟩
theorem Zi:EvA Zn δ []:=⟨_,rfl,Zi4⟩
theorem Zb(h:EvV e δ d)(k:EvA as δ ds):EvA (Za e as) δ (d :: ds):=by
 obtain⟨_,e1,d1⟩:=h
 obtain⟨_,e2,d2⟩:=k
 exact⟨_,by rw[Zup,e1,Xi,e2,Xi],by rw[Zgz,d1,d2]⟩
theorem Zr{F:FD}(h:EvA as δ ds)(k:Told F ds d):EvV (Zu F as) δ d:=by
 obtain⟨_,e1,d1⟩:=h
 obtain⟨_,e2,d2⟩:=k
 exact⟨_,by rw[Zul,e1,Xi,d1,e2,Z5u],d2⟩
theorem Jf{g:List Xa->Option Xa}(h:EvA as δ ds)(k:g ds=some d):EvV (Wr g as) δ d:=by
 obtain⟨_,e1,d1⟩:=h
 exact⟨_,by rw[Z0o,e1,Xi,d1,k,Xi],OT.data_fz _⟩
theorem Zto{g:List Xa->Option OT}{o:OT}(h:EvA as δ ds)(k:g ds=some o)(hd:o.data=d):EvV (fBl g as) δ d:=by
 obtain⟨_,e1,d1⟩:=h
 exact⟨_,by rw[Z2e,e1,Xi,d1,k,Xi],hd⟩
theorem Zfs:∀ts:List OT,(OT.datas ts).length=ts.length
 | []=>by rw[Zi4];rfl
 | t :: ts=>by rw[Zgz,JD,JD,Zfs ts]
theorem datas_map:∀ts:List OT,OT.datas ts=ts.map OT.data
 | []=>Zi4
 | t :: ts=>by rw[Zgz,Qs,datas_map ts]
theorem Jo(h:EvA as δ ds)(hl:ds.length≤1000):EvV (Zby as) δ (.tuple ds):=by
 obtain⟨ts,e1,d1⟩:=h
 have:=Zfs ts
 rw[d1]at this
 exact⟨_,by rw[Zzz,e1,Xi,if_pos (by rw[Qe];show ts.length≤_;omega)],by rw[OT.data_fz];exact congrArg _ d1⟩
theorem W4(h:EvA as δ ds)(hl:ds.length≤1000):EvV (Zbb as) δ (.list ds):=by
 obtain⟨ts,e1,d1⟩:=h
 have:=Zfs ts
 rw[d1]at this
 exact⟨_,by rw[Zsu,e1,Xi,if_pos (by rw[Qe];show ts.length≤_;omega)],by rw[OT.data_nd,←datas_map,d1]⟩
theorem Zme{o:OT}{b:Bool}(h:o.data= .bool b):o= .fz (.bool b):=by
 cases o with
 | fz d=>rw[OT.data_fz]at h;rw[h]
 | nd ts=>rw[OT.data_nd]at h;cases h
 | tp ts=>rw[OT.data_tp]at h;cases h
 | dc _ _ _=>rw[OT.data_dc]at h;cases h
theorem Zc4(h:EvV e δ (.bool p)):EvT (tV e) δ p:=by
 obtain⟨_,e1,d1⟩:=h
 unfold EvT
 rw[Z73,e1,Xi,Zme d1,Z3t]
theorem Ycq(h:EvV e δ d)(k:Zuy d=some p):EvT (tD e) δ p:=by
 obtain⟨_,e1,d1⟩:=h
 unfold EvT
 rw[Z7x,e1,Xi,d1,k,Xi]
theorem Zhs(h:EvV e δ (.bool p)):EvT (tD e) δ p:=Ycq h rfl
theorem Zi8(h:EvT t δ p):EvT (tNo t) δ (!p):=by
 unfold EvT at h⊢
 rw[Z3k,h,Xi]
theorem Z78(h:EvT t δ true)(k:EvT u δ p):EvT (tAn t u) δ p:=by
 unfold EvT at h k⊢
 rw[Zwn,h,Xi,if_pos rfl,k]
theorem Zx4(h:EvT t δ false):EvT (tAn t u) δ false:=by
 unfold EvT at h⊢
 rw[Zwn,h,Xi,if_neg Xu]
theorem Zts(h:EvT t δ false)(k:EvT u δ p):EvT (tO t u) δ p:=by
 unfold EvT at h k⊢
 rw[Z8w,h,Xi,if_neg Xu,k]
theorem J4(h:S δ= .nx δ')(k:S' δ'=r):Z1 S S' δ=r:=by rw[Zja,h,Zst,k]
theorem Zq8{o:OT}(h:S δ= .rt o δ'):Z1 S S' δ= .rt o δ':=by rw[Zja,h,Zxm]
theorem Zy(h:EvV e δ d):wE e (Yt i) δ= .nx (δ.set i (some (.fz d))):=by
 obtain⟨_,e1,d1⟩:=h
 rw[Zhu,e1,W9,Zy5,d1]
theorem Z34(h:EvV e δ d):∃o,wE e Wa δ= .rt o δ∧o.data=d:=by
 obtain⟨_,e1,d1⟩:=h
 exact⟨_,by rw[Zhu,e1,W9,Zzk],d1⟩
theorem Zdg(h:EvT t δ true)(k:S δ=r):J0 t S S' δ=r:=by
 unfold EvT at h
 rw[Zr1,h,W9,if_pos rfl,k]
theorem Yd(h:EvT t δ false)(k:S' δ=r):J0 t S S' δ=r:=by
 unfold EvT at h
 rw[Zr1,h,W9,if_neg (by decide),k]
noncomputable def Zpo(S:FS)(δ:Zm)(d:Xa):Prop:=∃o δ',S δ= .rt o δ'∧o.data=d
theorem Z3(h:S δ= .nx δ')(k:Zpo S' δ' d):Zpo (Z1 S S') δ d:=by
 obtain⟨o,δ2,e,hd⟩:=k
 exact⟨o,δ2,J4 h e,hd⟩
theorem Zar(k:Zpo S δ d):Zpo (Z1 S S') δ d:=by
 obtain⟨o,δ2,e,hd⟩:=k
 exact⟨o,δ2,Zq8 e,hd⟩
theorem Ys(h:EvV e δ d):Zpo (wE e Wa) δ d:=by
 obtain⟨o,e1,hd⟩:=Z34 h
 exact⟨o,δ,e1,hd⟩
theorem Zcp(h:EvT t δ true)(k:Zpo S δ d):Zpo (J0 t S S') δ d:=by
 obtain⟨o,δ2,e,hd⟩:=k
 exact⟨o,δ2,Zdg h e,hd⟩
theorem Z4{np n:Nat}(hl:xs.length=np)(k:Zpo S (Za8 n xs) d):Told (Jy np n S) xs d:=by
 obtain⟨o,δ2,e,hd⟩:=k
 exact⟨o,by rw[Zzv hl,e,Z1d],hd⟩
noncomputable def EvO(o:FO)(δ:Zm)(l:Option Int):Prop:=o δ=some (l,δ)
theorem Ztt:EvO oN δ none:=rfl
theorem Zpb{i:Int}(h:EvV e δ (.int i)):EvO (oI e) δ (some i):=by
 obtain⟨_,e1,d1⟩:=h
 unfold EvO
 rw[Z9j,e1,Xi,d1,Zse]
theorem Zwi{lo hi:FO}{l h:Option Int}(he:EvV e δ (.list ds))(hl:EvO lo δ l)(hh:EvO hi δ h):EvV (fSl e lo hi) δ (.list (cutD ds l h)):=by
 obtain⟨_,e1,d1⟩:=he
 unfold EvO at hl hh
 exact⟨_,by rw[Z38,e1,Xi,hl,Xi,hh,Xi,d1,Zsd],by rw[OT.data_nd,OT.map_fz]⟩
theorem Zm3{es:List Xa}(ha:EvV a δ (.list ds))(hb:EvV b δ (.list es))(h:ds.length+es.length≤1000000):EvV (Zt Zjj a b) δ (.list (ds ++ es)) :=
 Zwr ha hb (Z2l (by rw[Qe];omega)) (by rw[OT.data_nd,OT.map_fz])
noncomputable def EvI(it:FI)(δ:Zm)(ds:List Xa):Prop:=it δ=some (ds,δ)
theorem W6(h:EvV e δ (.list ds)):EvI (Zbu e) δ ds:=by
 obtain⟨_,e1,d1⟩:=h
 unfold EvI
 rw[Zyx,e1,Xi,d1,Zsd]
theorem Zc8{n:Nat}(h:EvA as δ [.int n])(hn:n≤1000000):EvI (iRa as) δ (Zgg 0 n):=by
 obtain⟨_,e1,d1⟩:=h
 unfold EvI
 rw[Z6a,e1,Xi,d1,Z7j,Zx6 (by omega) (by omega),Qn]
theorem Zo9{it:FI}{g:FG}(h:EvI it δ ds)(k:forLoop g S ds δ=r):Za2 it g S δ=r:=by
 unfold EvI at h
 rw[Zx3,h,W9,k]
theorem Zcg{α:Type}{caps:List Nat}{it:FI}{me:FE}{cs:Zm}(xs:List α)(mk f:α->Xa)(hi:EvI it δ (xs.map mk))(hz:xs.length≤1000000)(hb:blk 1 caps δ=none :: cs)(h:∀x∈xs,EvV me (some (.fz (mk x)) :: cs) (f x)):EvV (Z6 1 caps it (gNm 0) Zak me) δ (.list (xs.map f)):=by
 have g:∀x,∃o:OT,x∈xs->me (some (.fz (mk x)) :: cs)=some (o,some (.fz (mk x)) :: cs)∧o.data=f x:=λx=>by
  by_cases c:x∈xs
  ·obtain⟨o,h1,h2⟩:=h x c
   exact⟨o,λ_=>⟨h1,h2⟩⟩
  ·exact⟨.fz .none,λz=>absurd z c⟩
 obtain⟨o,ho⟩:=Uz g
 unfold EvI at hi
 refine⟨_,Zfr (cs:=cs) xs mk o hi (by rw[Qe];omega) hb (λx hx=>(ho x hx).1),?_⟩
 rw[OT.data_nd,Qh]
 exact congrArg _ (X8 λx hx=>(ho x hx).2)
theorem Zox{ts:List OT}(h:EvV e δ d)(hi:δ[i]? =some (some (.nd ts)))(hl:ts.length≤1000000):J6 i e δ= .nx (δ.set i (some (.nd (ts ++ [.fz d])))):=by
 obtain⟨_,e1,d1⟩:=h
 rw[Zp9,hi,Z13,e1,W9,hi,Z13,Z3z hl,d1]
theorem Zil{o:OT}(h:e δ=some (o,δ)):wE e (Zc9 i) δ= .nx (δ.set i (some o)):=by rw[Zhu,h,W9,Zvo]
theorem Z26{o:OT}(h:δ[i]? =some (some o))(hd:o.data=d):Zpo (Zho i) δ d:=⟨o,_,by rw[Zvi,h,Z2o],hd⟩
theorem Zrh{o:OT}(h:δ[i]? =some (some o))(k:S (δ.set i (some (.fz o.data)))=r):Zdf i S δ=r:=by rw[Zqi,h,Z2o,k]
theorem Told.ok{F:FD}{b:Bool}(h:Told F ds (.bool b)):F ds= .ok (.fz (.bool b)):=by
 obtain⟨o,e1,d1⟩:=h
 rw[e1,Zme d1]
theorem Zvd{o:OT}{i:Int}(h:o.data= .int i):o= .fz (.int i):=by
 cases o with
 | fz d=>rw[OT.data_fz]at h;rw[h]
 | nd ts=>rw[OT.data_nd]at h;cases h
 | tp ts=>rw[OT.data_tp]at h;cases h
 | dc _ _ _=>rw[OT.data_dc]at h;cases h
theorem Told.int{F:FD}{i:Int}(h:Told F ds (.int i)):F ds= .ok (.fz (.int i)):=by
 obtain⟨o,e1,d1⟩:=h
 rw[e1,Zvd d1]
theorem Zs5{o:OT}(h:o.data= .none):o= .fz .none:=by
 cases o with
 | fz d=>rw[OT.data_fz]at h;rw[h]
 | nd ts=>rw[OT.data_nd]at h;cases h
 | tp ts=>rw[OT.data_tp]at h;cases h
 | dc _ _ _=>rw[OT.data_dc]at h;cases h
theorem Told.of{F:FD}{o:OT}(h:F ds= .ok o)(hd:o.data=d):Told F ds d:=⟨o,h,hd⟩
end
section
variable {e a b:FE}{as:FA}{δ δ':Zm}{x y d:Xa}{xs ds:List Xa}{i j:Int}{k:Nat}{p q:Bool}{t u:FT}{S S':FS}{r:RS}{Q:Xa->Prop}
theorem Yb(ha:EvV a δ (.int i))(hb:EvV b δ (.int j))(h:j≠0):EvV (Zd Y5 a b) δ (.int (i.fmod j)):=Z0 ha hb (Z3n h)
theorem Z4r{i j:Int}(h:(decide (0<j)&&decide (j<18446744073709551616))=true):Wm (.int i) (.int j)=some (.int (i.fdiv j)):=by
 rw[Xo,decide_eq_true_eq,decide_eq_true_eq]at h
 exact Zix (Zip (n:=64) (by omega) (Bt.of_lt (by omega) (by omega)))
theorem Za4(ha:EvV a δ (.int i))(hb:EvV b δ (.int j))(h:(decide (0<j)&&decide (j<18446744073709551616))=true:=by decide):EvV (Zd Wm a b) δ (.int (i.fdiv j)):=Z0 ha hb (Z4r h)
theorem Jd(ha:EvV a δ (.int i))(hb:EvV b δ (.int j))(h:i.natAbs<2^64:=by decide):EvV (Zd Jk a b) δ (.int (i*j)):=Z0 ha hb (Zer (Z3s h))
theorem Zgb(ha:EvV a δ (.int i))(hb:EvV b δ (.int j))(h:j.natAbs<2^64:=by decide):EvV (Zd Jk a b) δ (.int (i*j)):=Z0 ha hb (Zer (Z3j h))
theorem Znz(ha:EvV a δ (.int i))(hb:EvV b δ (.int j))(h:decide (i<j)=p):EvV (Zd gLt a b) δ (.bool p):=h▸Z0 ha hb rfl
theorem Zv6(ha:EvV a δ (.int i))(hb:EvV b δ (.int j))(h:decide (j<i)=p):EvV (Zd gGt a b) δ (.bool p):=h▸Z0 ha hb (Z8k _ _)
theorem Zzq(ha:EvV a δ (.int i))(hb:EvV b δ (.int j))(h:decide (j≤i)=p):EvV (Zd gGe a b) δ (.bool p):=h▸Z0 ha hb (Z8v _ _)
theorem Zfx(ha:EvV a δ (.int i))(hb:EvV b δ (.int j))(h:decide (i=j)=p):EvV (Zd gEq a b) δ (.bool p):=h▸Z0 ha hb (Z7p _ _)
theorem Zkk(ha:EvV a δ (.int i))(hb:EvV b δ (.int j))(h:(!decide (i=j))=p):EvV (Zd gNe a b) δ (.bool p):=h▸Z0 ha hb (Z81 _ _)
theorem Zfj(ha:EvV a δ (.int i)):EvV (fUn Zj4 a) δ (.int (-i)):=Z9g ha (Z5q _)
theorem Zjd{ds:List Xa}(h:EvV e δ (.list ds)):EvV (Wr Zbs (Za e Zn)) δ (.int ds.length):=Jf (Zb h Zi) (Z4m ds)
theorem Zw7(ha:EvV a δ (.list ds))(hb:EvV b δ (.int i))(h:atI ds i=some d):EvV (Zt gIx a b) δ d:=Z8 ha hb (by rw[Zhn,h];rfl)
noncomputable def Zpd(S:FS)(δ:Zm)(Q:Xa->Prop):Prop:=∃d,Zpo S δ d∧Q d
theorem Ws(h:S δ= .nx δ')(k:Zpd S' δ' Q):Zpd (Z1 S S') δ Q:=k.imp λ_ k=>⟨Z3 h k.1,k.2⟩
theorem Zei(k:Zpd S δ Q):Zpd (Z1 S S') δ Q:=k.imp λ_ k=>⟨Zar k.1,k.2⟩
theorem Zcz(h:EvV e δ d)(k:Q d):Zpd (wE e Wa) δ Q:=⟨d,Ys h,k⟩
theorem Zf5(h:EvT t δ true)(k:Zpd S δ Q):Zpd (J0 t S S') δ Q:=k.imp λ_ k=>⟨Zcp h k.1,k.2⟩
theorem Yav{o:OT}(h:δ[k]? =some (some o))(hd:Q o.data):Zpd (Zho k) δ Q:=⟨_,Z26 h rfl,hd⟩
theorem Znm{np n:Nat}(hl:xs.length=np)(h:Zpd S (Za8 n xs) Q):∃d,Told (Jy np n S) xs d∧Q d:=h.imp λ_ k=>⟨Z4 hl k.1,k.2⟩
theorem Zj9{it:FI}{g:FG}(I:Nat->Zm->Prop)(hi:EvI it δ ds)(h0:I 0 δ)(turn:∀(i:Nat) (d:Xa) (δ:Zm),ds[i]? =some d->I i δ->∃δ1 δ2,g d δ=some δ1∧(S δ1= .nx δ2∨S δ1= .ct δ2)∧I (i+1) δ2)(k:∀δ',I ds.length δ'->Zpd S' δ' Q):Zpd (Z1 (Za2 it g S) S') δ Q:=by
 obtain⟨δ',e,h⟩:=Zot I h0 turn
 exact Ws (Zo9 hi e) (k δ' h)
theorem Zi3{it:FI}{g:FG}(I:Nat->Zm->Prop)(hi:EvI it δ ds)(h0:I 0 δ)(turn:∀(i:Nat) (d:Xa) (δ:Zm),ds[i]? =some d->I i δ->∃δ1 δ2,g d δ=some δ1∧(S δ1= .nx δ2∨S δ1= .ct δ2)∧I (i+1) δ2)(k:∀δ',I ds.length δ'->Zpo S' δ' d):Zpo (Z1 (Za2 it g S) S') δ d:=by
 obtain⟨δ',e,h⟩:=Zot I h0 turn
 exact Z3 (Zo9 hi e) (k δ' h)
theorem Zsk{it:FI}{g:FG}(I:Nat->Zm->Prop)(hi:EvI it δ ds)(h0:I 0 δ)(turn:∀(i:Nat) (d:Xa) (δ:Zm),ds[i]? =some d->I i δ->∃δ1 δ2,g d δ=some δ1∧(S δ1= .nx δ2∨S δ1= .ct δ2)∧I (i+1) δ2):∃δ',Za2 it g S δ= .nx δ'∧I ds.length δ':=by
 obtain⟨δ',e,h⟩:=Zot I h0 turn
 exact⟨δ',Zo9 hi e,h⟩
theorem Zva{m n:Nat}(h:EvA as δ [.int m,.int n])(hm:m≤1000000)(hn:n≤1000000):EvI (iRb as) δ (Zgg m (n-m)):=by
 obtain⟨_,e1,d1⟩:=h
 unfold EvI
 rw[Z4h,e1,Xi,d1,Z9l,Z02 (by omega) (by omega) (by omega) (by omega),show((n:Int)-(m:Int)).toNat=n-m by omega]
theorem Z8n{m n:Nat}(h:EvA as δ [.int m,.int n,.int (-1)])(hm:m≤1000000)(hn:n≤1000000):EvI (iRc as) δ (Zr3 m (m-n)):=by
 obtain⟨_,e1,d1⟩:=h
 unfold EvI iRc
 rw[e1,Xi,d1]
 show(if(-1:Int)= -1∧rOk m=true∧rOk n=true then some ((m:Int),(n:Int))else none).bind _=_
 rw[if_pos ⟨rfl,Zkg (by omega) (by omega),Zkg (by omega) (by omega)⟩,Xi,show((m:Int)-(n:Int)).toNat=m-n by omega]
theorem Zo3:wE (Zbb Zn) (Zc9 k) δ= .nx (δ.set k (some (.nd []))):=Zil (by rw[Zsu];rfl)
theorem Zbr{i:Int}(h:0<j):0≤i.fmod j:=by rw[Zh1 h];exact Int.emod_nonneg _ (by omega)
theorem Zbx{i:Int}(h:0<j):i.fmod j<j:=by rw[Zh1 h];exact Int.emod_lt_of_pos _ h
theorem Wk(i:Int){n:Nat}(h:0<n):∃m:Nat,i.fmod (n:Int)=m∧m<n:=by
 have h0:=Zbr (i:=i) (j:=n) (by omega)
 have h1:=Zbx (i:=i) (j:=n) (by omega)
 exact⟨(i.fmod n).toNat,by omega,by omega⟩
theorem Zm0{o:OT}(h:δ[k]? =some (some o))(g:Zpd S (δ.set k (some (.fz o.data))) Q):Zpd (Zdf k S) δ Q:=by
 obtain⟨d,⟨o',δ2,e,hd⟩,hq⟩:=g
 exact⟨d,⟨o',δ2,Zrh h e,hd⟩,hq⟩
theorem Z0m{es:List Xa}(h:EvA as δ ds)(hz:Z2j ds=some es):EvI (Zdb as) δ es:=by
 obtain⟨_,e1,d1⟩:=h
 unfold EvI Zdb
 rw[e1,Xi,d1,hz,Xi]
theorem Zh8{it:FI}{g gg:FG}{δ1:Zm}(I:Nat->Zm->Prop){J:Zm->Prop}(hg:gg d δ=some δ1)(hi:EvI it δ1 ds)(h0:I 0 δ1)(turn:∀(i:Nat) (d:Xa) (δ:Zm),ds[i]? =some d->I i δ->∃δ1 δ2,g d δ=some δ1∧(S δ1= .nx δ2∨S δ1= .ct δ2)∧I (i+1) δ2)(hJ:∀δ',I ds.length δ'->J δ'):∃δ1 δ2,gg d δ=some δ1∧(Za2 it g S δ1= .nx δ2∨Za2 it g S δ1= .ct δ2)∧J δ2:=by
 obtain⟨δ',e,h⟩:=Zot I h0 turn
 exact⟨δ1,δ',hg,.inl (Zo9 hi e),hJ δ' h⟩
theorem Zhd{T:String}(ha:EvV a δ x)(h:Zqo T x=p)(hf:Zj0 x=false:=by rfl):EvV (Zla T a) δ (.bool p):=(Z4q ha hf).cast (by rw[h])
theorem Ziz{a b:FE}{bs es:List Xa}{as:List Xa}(ha:EvV a δ (.list as))(hb:EvV b δ (.list bs))(hz:Zo6 as bs=es):EvI (Zdb (Za a (Za b Zn))) δ es:=Z0m (Zb ha (Zb hb Zi)) (congrArg some hz)
theorem Zh4{α:Type}{caps:List Nat}{it:FI}{me:FE}{t:FT}{cs:Zm}(xs:List α)(mk:α->Xa)(pr:α->Bool)(hi:EvI it δ (xs.map mk))(hz:xs.length≤1000000)(hb:blk 1 caps δ=none :: cs)(ht:∀x∈xs,EvT t (some (.fz (mk x)) :: cs) (pr x))(h:∀x∈xs,pr x=true->me (some (.fz (mk x)) :: cs)=some (.fz (mk x),some (.fz (mk x)) :: cs)):EvV (Z6 1 caps it (gNm 0) t me) δ (.list ((xs.filter pr).map mk)):=by
 unfold EvI at hi
 refine⟨_,Zmh (cs:=cs) xs mk pr (λx=>.fz (mk x)) hi (by rw[Qe];omega) hb (λx hx=>ht x hx) h,?_⟩
 rw[OT.data_nd,Qh]
 exact congrArg _ (X8 λx _=>OT.data_fz _)
theorem Told.none{F:FD}(h:Told F ds .none):F ds= .ok (.fz .none):=by
 obtain⟨o,e1,d1⟩:=h
 rw[e1,Zs5 d1]
end
end L2
namespace My
open PySem L2 PySem.Spec
noncomputable def Jm:FS :=
 (Z1 (wE (Wr Z1n (Za (Ze 0) Zn)) (Yt 0))
  (Z1 (wE (Wr Z1n (Za (Ze 1) Zn)) (Yt 1))
  (Z1 (Zkb (tV (Zd gNe (Ze 1) (fC (.int 0)))) (Z1 (wE (Zd Y5 (Ze 0) (Ze 1)) (Yt 2))
  (Z1 (wE (Ze 1) (Yt 0))
  (wE (Ze 2) (Yt 1)))))
  (wE (Ze 0) Wa))))
noncomputable def Yg:FD:=Jy 2 3 Jm
theorem Zks{f1 f2:Int->Int->Option OT->Zm}{t:FT}{u:FS}(ht:∀x y z,t (f1 x y z)=some (!decide (y=0),f1 x y z))(hu:∀x y z,y≠0->∃z',u (f1 x y z)= .nx (f1 y (x.fmod y) z')) :
  ∀(n:Nat) (x y:Int) (z:Option OT),0≤x->0≤y->y.toNat<n->∃z',whileLoop t u n (f1 x y z)= .nx (f1 (JG x y:Int) 0 z')
 | 0,_,_,_,_,_,h=>absurd h (Nat.not_lt_zero _)
 | n+1,x,y,z,hx,hy,h=>by
  unfold whileLoop
  rw[ht]
  dsimp only
  by_cases c:y=0
  ·subst c
   refine⟨z,?_⟩
   simp only[decide_true,Bool.not_true,Bq,if_false]
   rw[Int.gcd_zero_right]
   congr 2
   omega
  ·simp only[c,decide_false,Bool.not_false,if_true]
   obtain⟨z1,e1⟩:=hu x y z c
   rw[e1]
   dsimp only
   have hm:x.fmod y=x%y:=Zh1 (by omega)
   have h1:0≤x%y:=Int.emod_nonneg x c
   have h2:x%y<y:=Int.emod_lt_of_pos x (by omega)
   obtain⟨z2,e2⟩:=Zks (f1:=f1) (f2:=f2) ht hu n y (x.fmod y) z1 hy (by omega) (by omega)
   exact⟨z2,by rw[e2,Zu0 hx (by omega)]⟩
theorem Za7(a b:Int):Yg [.int a,.int b]= .ok (.fz (.int (JG a b:Int))):=by
 obtain⟨z',e⟩:=Zks (f1:=λx y z=>[some (.fz (.int x)),some (.fz (.int y)),z]) (f2:=λx y z=>[]) (t:=tV (Zd gNe (Ze 1) (fC (.int 0)))) (u:=Z1 (wE (Zd Y5 (Ze 0) (Ze 1)) (Yt 2)) (Z1 (wE (Ze 1) (Yt 0)) (wE (Ze 2) (Yt 1)))) (λx y z=>Zc4 (Zkk Zc Zq rfl)) (λx y z hy=>⟨_,J4 (Zy (Yb Zc Zc hy)) (J4 (Zy Zc) (Zy Zc))⟩) ((b.natAbs:Int).toNat+1) (a.natAbs:Int) (b.natAbs:Int) none (by omega) (by omega) (by omega)
 rw[Vd,Vv,Vv]at e
 exact Told.int<|Z4 rfl<|Z3 (Zy (Jf (Zb Zc Zi) (Zrn a)))<|Z3 (Zy (Jf (Zb Zc Zi) (Zrn b)))<|Z3 (Zm6 _ e (by intro z;cases z)) (Ys Zc)
noncomputable def Zd7:FS :=
 (Z1 (wE (Zu Yg (Za (Ze 0) (Za (Ze 1) Zn))) (Yt 2))
  (Z1 (J0 (tV (Zd gLt (Ze 1) (fC (.int 0))))
  (wE (fUn Zj4 (Ze 2)) (Yt 2))
  fNx)
  (wE (Zby (Za (Zd Wm (Ze 0) (Ze 2)) (Za (Zd Wm (Ze 1) (Ze 2)) Zn))) Wa)))
noncomputable def Zdk:FD:=Jy 2 3 Zd7
theorem Z8p{n:Nat}{t b:Int}(hb:b≠0)(hB:Bt n b)(hn:n≤9000)(s:Int)(e:s=shr t b):Wm (.int t) (.int s)=some (.int (QZ t b).num)∧Wm (.int b) (.int s)=some (.int ((QZ t b).den:Int)):=by
 subst e
 rw[Zix (Zip (Zwz hb) (Zxd hb hB) hn),Zix (Zip (Zwz hb) (Zxd hb hB) hn),Z0w hb,Zzb hb]
 exact⟨rfl,rfl⟩
noncomputable def Zeb:FS :=
 (wE (Zm8 (Zla "int" (Ze 0)) (fUn Z7b (Zla "bool" (Ze 0)))) Wa)
noncomputable def Ym:FD:=Jy 1 1 Zeb
theorem Zml(i:Int):Ym [.int i]= .ok (.fz (.bool true)):=rfl
noncomputable def Zd3:FS :=
 (Z1 (J0 (tO (tNo (tD (Zu Ym (Za (Ze 0) Zn)))) (tO (tNo (tD (Zu Ym (Za (Ze 1) Zn)))) (tV (Zd gEq (Ze 1) (fC (.int 0))))))
  (Zth "NoNumber")
  fNx)
  (wE (Zu Zdk (Za (Ze 0) (Za (Ze 1) Zn))) Wa))
noncomputable def Zdh:FD:=Jy 2 2 Zd3
noncomputable def Zaq:FS :=
 (Z1 (wE (fC (.int 1)) (Yt 1))
  (Z1 (Za2 (Zbu (Ze 0)) (gNm 2)
  (wE (Zd Jk (Zd Wm (Ze 1) (Zu Yg (Za (Ze 1) (Za (Zt gIx (Ze 2) (fC (.int 1))) Zn)))) (Zt gIx (Ze 2) (fC (.int 1)))) (Yt 1)))
  (wE (Ze 1) Wa)))
noncomputable def Z2:FD:=Jy 1 3 Zaq
noncomputable def prD(p:Int×Int):Xa:=.tuple [.int p.1,.int p.2]
theorem Zvq{a b B:Int}(ha:0<a)(hb:0<b)(h1:a∣B)(h2:b∣B)(hB:0<B):0<a.fdiv (JG a b)*b∧a∣a.fdiv (JG a b)*b∧b∣a.fdiv (JG a b)*b∧a.fdiv (JG a b)*b∣B:=by
 have hg:0<(JG a b:Int):=Zfe (by omega)
 have d1:(JG a b:Int)∣a:=Int.gcd_dvd_left ..
 have d2:(JG a b:Int)∣b:=Int.gcd_dvd_right ..
 rw[Zaf hg]
 have e:a/(JG a b:Int)*b=(Int.lcm a b:Int):=by
  have q:=Int.gcd_mul_lcm a b
  have h3:(JG a b:Int)*(Int.lcm a b:Int)=a*b:=by
   rw[←Ue,q,Ue,Int.natAbs_of_nonneg (by omega),Int.natAbs_of_nonneg (by omega)]
  obtain⟨k,hk⟩:=d1
  have e1:a/(JG a b:Int)=k:=Int.ediv_eq_of_eq_mul_right (by omega) hk
  rw[e1]
  apply Int.eq_of_mul_eq_mul_left (a:=(JG a b:Int)) (by omega)
  rw[h3,←Int.mul_assoc,←hk]
 rw[e]
 refine⟨?_,Int.dvd_lcm_left ..,Int.dvd_lcm_right ..,Int.coe_lcm_dvd h1 h2⟩
 have:Int.lcm a b≠0:=by
  rw[Ne,Int.lcm_eq_zero_iff]
  omega
 omega
theorem Zl2{n:Nat}{a B:Int}(hB:0<B)(h:a∣B)(b:Bt n B):Bt n a:=by
 refine Bt.of_le b ?_
 have:=Int.natAbs_dvd_natAbs.mpr h
 exact Nat.le_of_dvd (by omega) this
theorem Zhr{n:Nat}{B:Int}(hB:0<B)(bB:Bt n B)(hn:n≤9000:=by decide)(ps:List (Int×Int))(h:∀p∈ps,0<p.2∧p.2∣B) :
  ∃m,Told Z2 [.list (ps.map prD)] (.int m)∧0<m∧(∀p∈ps,p.2∣m)∧m∣B:=by
 have key:∃d,Told Z2 [.list (ps.map prD)] d∧∃m,d= .int m∧0<m∧(∀p∈ps,p.2∣m)∧m∣B:=by
  refine Znm rfl<|Ws (Zy Zq)<|Zj9 (ds:=ps.map prD) (λi δ=>∃m z,δ=[some (.fz (.list (ps.map prD))),some (.fz (.int m)),z]∧0<m∧(∀j p,j<i->ps[j]? =some p->p.2∣m)∧m∣B) (W6 Zc) ⟨1,none,rfl,by decide,λj p hj=>absurd hj (Nat.not_lt_zero j),Int.one_dvd _⟩ (λi d δ hd hi=>?_) λδ' hi=>?_
  ·obtain⟨m,z,hδ,h1,h2,h3⟩:=hi
   subst hδ
   rw[Xl]at hd
   cases e:ps[i]? with
   | none=>rw[e]at hd;cases hd
   | some p=>
    rw[e]at hd
    cases hd
    obtain⟨q1,q2⟩:=h p (Qc e)
    obtain⟨s1,s2,s3,s4⟩:=Zvq h1 q1 h3 q2 hB
    have g0:0<(JG m p.2:Int):=Zfe (by omega)
    have bg:Bt n (JG m p.2:Int):=Zl2 hB (Int.dvd_trans (Int.gcd_dvd_right ..) q2) bB
    have bm:Bt n (m.fdiv (JG m p.2)):=by
     rw[Zaf g0]
     exact Bt.of_le (Zl2 hB h3 bB) (Bw _ _)
    have at1:∀{δ:Zm},δ[2]? =some (some (.fz (prD p)))->EvV (Zt gIx (Ze 2) (fC (.int 1))) δ (.int p.2):=λh=>Z8 (Zc h) Zq rfl
    refine⟨_,_,rfl,.inl (Zy (Z0 (Z0 Zc (Zr (Zb Zc (Zb (at1 rfl) Zi)) (.of (Za7 m p.2) (OT.data_fz _))) (Zix (Zip (by omega) bg hn))) (at1 rfl) (Zer (Zdp bm (Zl2 hB q2 bB) (by omega))))),_,_,rfl,s1,λj p' hj hp=>?_,s4⟩
    by_cases z:j=i
    ·subst z
     rw[e]at hp;cases hp
     exact s3
    ·exact Int.dvd_trans (h2 j p' (by omega) hp) s2
  ·obtain⟨m,z,rfl,h1,h2,h3⟩:=hi
   refine Zcz Zc ⟨m,rfl,h1,λp hp=>?_,h3⟩
   obtain⟨j,hj⟩:=Vm hp
   exact h2 j p (by have:=(Xm.mp hj).1;rwa[Xf]) hj
 obtain⟨d,h,m,rfl,hm⟩:=key
 exact⟨m,h,hm⟩
noncomputable def Ze6:FS :=
 (Z1 (wE (fC (.int 1)) (Yt 1))
  (Z1 (Za2 (Zbu (Ze 0)) (gNm 2)
  (wE (Zu Z2 (Za (Zt Zjj (Zbb (Za (Zby (Za (fC (.int 1)) (Za (Ze 1) Zn))) Zn)) (Ze 2)) Zn)) (Yt 1)))
  (wE (Ze 1) Wa)))
noncomputable def Znj:FD:=Jy 1 3 Ze6
theorem Zxw(r:List Rat):r.map frD=(r.map λq=>(q.num,(q.den:Int))).map prD:=by rw[Qh];rfl
noncomputable def scI(m:Int)(q:Rat):Int:=q.num*(m/(q.den:Int))
theorem Zoo{m:Int}{q:Rat}(h:(q.den:Int)∣m):(scI m q:Rat)=q*(m:Rat):=by
 obtain⟨k,rfl⟩:=h
 unfold scI
 rw[Int.mul_ediv_cancel_left _ (Zrj q)]
 rw[Rat.intCast_mul,Rat.intCast_mul,Yco,Rat.mul_assoc]
noncomputable def Zcw:FS :=
 (wE (Z6 1 [0] (Zbu (Ze 1)) (gNm 0) Zak (Zd Jk (Zt gIx (Ze 0) (fC (.int 0))) (Zd Wm (Ze 1) (Zt gIx (Ze 0) (fC (.int 1)))))) Wa)
noncomputable def Yq:FD:=Jy 2 2 Zcw
theorem Zm7{n:Nat}{m:Int}(hm:0<m)(bm:Bt n m)(r:List Rat)(hz:r.length≤1000)(h:∀q∈r,(q.den:Int)∣m∧Bt n q.num)(hn:n≤9000:=by decide) :
  Told Yq [.int m,Yx r] (.list (r.map λq=>.int (scI m q))) :=
 Z4 rfl<|Ys<|Zcg (cs:=[some (.fz (.int m))]) r frD (λq=>.int (scI m q)) (W6 Zc) (by omega) rfl λq hq=>by
  obtain⟨h1,h2⟩:=h q hq
  refine(Z0 (Z8 (d:=.int q.num) Zc Zq rfl) (Z0 Zc (Z8 (d:=.int (q.den:Int)) Zc Zq rfl) (Zix (Zip (Zrj q) (Zl2 hm h1 bm) hn))) (Zer ?_)).cast ?_
  ·rw[Zaf (Wz q)]
   exact Zdp h2 (Bt.of_le bm (Bw _ _)) (by omega)
  ·rw[Zaf (Wz q)];rfl
noncomputable def Zgc:FS :=
 (wE (Z6 1 [0] (Zbu (Ze 1)) (gNm 0) Zak (Zu Yq (Za (Ze 1) (Za (Ze 0) Zn)))) Wa)
noncomputable def Zpn:FD:=Jy 2 2 Zgc
noncomputable def Zd1:FS :=
 (Z1 (wE (Zbb Zn) (Zc9 1))
  (Z1 (Za2 (iRa (Za (Ze 0) Zn)) (gNm 2)
  (Za2 (iRb (Za (Zd Wx (Ze 2) (fC (.int 1))) (Za (Ze 0) Zn))) (gNm 3)
  (J6 1 (Zby (Za (Ze 2) (Za (Ze 3) Zn))))))
  (Zho 1)))
noncomputable def Yl:FD:=Jy 1 4 Zd1
noncomputable def Zz(n:Nat):List (Nat×Nat):=(Xn n).flatMap λi=>(Xn (n-(i+1))).map λj=>(i,i+1+j)
noncomputable def ptD(p:Nat×Nat):Xa:=.tuple [.int p.1,.int p.2]
theorem J8{n:Nat}{p:Nat×Nat}(h:p∈Zz n):p.1<p.2∧p.2<n:=by
 unfold Zz at h
 obtain⟨i,hi,hp⟩:=List.mem_flatMap.mp h
 obtain⟨j,hj,rfl⟩:=XQ.mp hp
 have:=QB.mp hi
 have:=QB.mp hj
 dsimp only
 omega
noncomputable def Zlo(n i:Nat):List (Nat×Nat):=(Xn i).flatMap λi=>(Xn (n-(i+1))).map λj=>(i,i+1+j)
theorem Ziu(n:Nat):∀i,(Zlo n i).length≤i*n
 | 0=>by simp[Zlo]
 | i+1=>by
  have:=Ziu n i
  unfold Zlo at this⊢
  rw[List.range_succ,List.flatMap_append,X6]
  simp only[List.flatMap_cons,List.flatMap_nil,Bb,Xf,XC]
  have e:(i+1)*n=i*n+n:=by rw[Uq]
  omega
theorem Zqe(n i:Nat):Zlo n (i+1)=Zlo n i ++ (Xn (n-(i+1))).map λj=>(i,i+1+j):=by
 unfold Zlo;rw[List.range_succ,List.flatMap_append];simp
theorem Ze4(n:Nat)(hn:n≤1000):Told Yl [.int n] (.list ((Zz n).map ptD)):=by
 refine Z4 rfl<|Z3 Zo3<|Zi3 (ds:=Zgg 0 n) (λi δ=>∃z1 z2,δ=[some (.fz (.int n)),some (.nd (((Zlo n i).map ptD).map OT.fz)),z1,z2]) (Zc8 (Zb Zc Zi) (by omega)) ⟨_,_,rfl⟩ (λi d δ hd h=>?_) λδ' h=>?_
 ·obtain⟨z1,z2,rfl⟩:=h
  obtain⟨hi,rfl⟩:=W3 hd
  rw[Vb]
  have ln:=Ziu n i
  have l2:i*n≤999*1000:=Nat.mul_le_mul (by omega) hn
  refine Zh8 (ds:=Zgg ((i+1:Nat):Int) (n-(i+1))) (λj δ=>∃z,δ=[some (.fz (.int n)),some (.nd (((Zlo n i ++ (Xn j).map λj=>(i,i+1+j)).map ptD).map OT.fz)),some (.fz (.int i)),z]) rfl (Zva (m:=i+1) (Zb (EvV.cast (Yn Zc Zq) rfl) (Zb Zc Zi)) (by omega) (by omega)) ⟨z2,by rw[List.range_zero,List.map_nil,Bb];rfl⟩ (λj d δ hd h=>?_) λδ' h=>?_
  ·obtain⟨z,rfl⟩:=h
   obtain⟨hj,rfl⟩:=W3 hd
   refine⟨_,_,rfl,.inl (Zox (Jo (Zb Zc (Zb Zc Zi)) (show 2≤1000 by decide)) rfl (by rw[Xf,Xf,X6,Xf,XC];omega)),some (.fz (.int (((i+1:Nat):Int)+j))),?_⟩
   rw[List.range_succ]
   simp only[QJ,VG]
   rfl
  ·obtain⟨z,rfl⟩:=h
   rw[Yz,←Zqe]
   exact⟨_,_,rfl⟩
 ·obtain⟨z1,z2,rfl⟩:=h
  rw[Yz]
  exact Z26 rfl (by rw[OT.data_nd,OT.map_fz];rfl)
end My
namespace My
open PySem L2 PySem.Spec
noncomputable def Zbi:FS :=
 (Z1 (J0 (tV (Zd gLt (Ze 1) (Wr Zbs (Za (Ze 0) Zn))))
  (wE (Zt gIx (Ze 0) (Ze 1)) Wa)
  fNx)
  (wE (fC (.int 0)) Wa))
noncomputable def Jt:FD:=Jy 2 2 Zbi
noncomputable def Zjf:FS :=
 (Z1 (J0 (tV (Zd gEq (Zd Y5 (Zd Wm (Ze 0) (fC (.int 7))) (fC (.int 8))) (fC (.int 3))))
  (wE (Zd Wx (Zd Wx (Ze 2) (fC (.int 1))) (Zd Y5 (Zd Wm (Ze 0) (fC (.int 56))) (Zd gSb (Ze 3) (Ze 2)))) Wa)
  fNx)
  (wE (Zd Wx (Ze 1) (Zd Y5 (Ze 0) (Zd gSb (Zd Wx (Ze 2) (fC (.int 1))) (Ze 1)))) Wa))
noncomputable def Zsi:FD:=Jy 4 4 Zjf
noncomputable def Zje:FS :=
 (Z1 (wE (Zd Y5 (Zd Jk (Zd Wx (Zd Wx (Zd Y5 (Ze 0) (fC (.int 2147483629))) (Zd Jk (fC (.int 9973)) (Ze 1))) (fC (.int 5))) (fC (.int 48271))) (fC (.int 2147483647))) (Yt 2))
  (Z1 (wE (Zd Y5 (Zd Jk (Ze 2) (Ze 2)) (fC (.int 2147483587))) (Yt 2))
  (wE (Zd Wm (Zd Y5 (Zd Jk (Zd Wx (Ze 2) (Zd Jk (fC (.int 7919)) (Ze 1))) (fC (.int 16807))) (fC (.int 2147483563))) (fC (.int 8))) Wa)))
noncomputable def Zjh:FD:=Jy 2 3 Zje
noncomputable def Zfu:FS :=
 (Z1 (wE (Zbb Zn) (Zc9 2))
  (Z1 (wE (Ze 0) (Yt 3))
  (Z1 (Za2 (iRa (Za (Ze 1) Zn)) (gNm 4)
  (Z1 (wE (Zu Zjh (Za (Ze 0) (Za (Ze 4) Zn))) (Yt 5))
  (Z1 (J0 (tV (Zd gGe (Ze 0) (Zd Zv5 (fC (.int 10)) (fC (.int 18)))))
  (wE (Zd Y5 (Ze 3) (fC (.int 720720))) (Yt 5))
  fNx)
  (Z1 (wE (Zd Wm (Ze 3) (fC (.int 720720))) (Yt 3))
  (J6 2 (Ze 5))))))
  (Zho 2))))
noncomputable def Zoy:FD:=Jy 2 6 Zfu
noncomputable def Zj(p:List Int):Xa:=.list (p.map Xk)
theorem Zpc{p:List Int}{i:Int}(h0:0≤i)(h1:i<p.length):atI (p.map Xk) i=some (.int (p.getD i.toNat 0)):=by
 rw[Zms h0,Xl,Xg (by omega)]
 simp[Xh,Xg (show i.toNat<p.length by omega)]
theorem Zqz{a b:FE}{δ:Zm}{p:List Int}{i:Int}(ha:EvV a δ (Zj p))(hb:EvV b δ (.int i))(h0:0≤i)(h1:i<p.length):EvV (Zt gIx a b) δ (.int (p.getD i.toNat 0)):=Zw7 ha hb (Zpc h0 h1)
theorem Zef{a:FE}{δ:Zm}{p:List Int}(ha:EvV a δ (Zj p)):EvV (Wr Zbs (Za a Zn)) δ (.int p.length):=by
 have:=Zjd (ds:=p.map Xk) ha
 rwa[Xf]at this
theorem Yc9:Zv5 (.int 10) (.int 18)=some (.int 1000000000000000000):=rfl
theorem Zpr(ns:List Int){k:Int}(h0:0≤k):∃c,Jt [Zj ns,.int k]= .ok (.fz (.int c)):=by
 by_cases c:k<ns.length
 ·exact⟨_,Told.int<|Z4 rfl<|Zar (Zcp (Zc4 (Znz Zc (Zef Zc) (decide_eq_true c))) (Ys (Zqz Zc Zc h0 c)))⟩
 ·exact⟨_,Told.int<|Z4 rfl<|Z3 (Yd (Zc4 (Znz Zc (Zef Zc) (decide_eq_false c))) rfl) (Ys Zq)⟩
theorem Zpi{i:Nat}{e:FE}{δ:Zm}{vs:List Int}{v:Int}(h:EvV e δ (.int v))(hi:δ[i]? =some (some (.nd (vs.map λv=>.fz (.int v)))))(hl:vs.length≤1000000):J6 i e δ= .nx (δ.set i (some (.nd ((vs ++ [v]).map λv=>.fz (.int v))))):=by
 rw[Zox h hi (by rw[Xf];exact hl),QJ];rfl
theorem Zu5(vs:List Int):(OT.nd (vs.map λv=>OT.fz (.int v))).data=Zj vs:=by rw[OT.data_nd,Zqf];rfl
end My
namespace L2
open PySem PySem.Spec PyProof.Rows PySem.W
structure TmS where
 p:Array Nat
 q:Array (Nat×Nat×Nat)
 g:Nat
noncomputable def TM(α:Type):Type:=TmS->KasT (Option (α×TmS))
noncomputable def TM.nxt{α β:Type}(f:α->TM β):Option (α×TmS)->KasT (Option (β×TmS))
 | none=>.ret none
 | some r=>f r.1 r.2
noncomputable instance:Monad TM where
 pure a:=λt=>.ret (some (a,t))
 bind m f:=λt=>(m t).bind (TM.nxt f)
noncomputable def Ztr{α:Type}:TM α:=λ_=>.ret none
noncomputable def Z1l(i j:Nat):TM (Option Bool):=λt=>.ask i j λb=>.ret (some (some b,t))
noncomputable def Zhg(a:Array Nat)(i:Nat):TM Nat:=match a[i]? with|some x=>pure x|none=>Ztr
noncomputable def Zjp:TM TmS:=λt=>.ret (some (t,t))
noncomputable def Zk5(f:TmS->TmS):TM PUnit:=λt=>.ret (some (⟨⟩,f t))
noncomputable def Zvk{β:Type}:List Nat->β->(Nat->β->TM (ForInStep β))->TM β
 | [],b,_=>pure b
 | x :: l,b,f=>do
  match←f x b with
  | .done b=>pure b
  | .yield b=>Zvk l b f
noncomputable def stM{α β:Type}(f:α->β):ForInStep α->ForInStep β
 | .done a=>.done (f a)
 | .yield a=>.yield (f a)
section
variable {prog:XM}{w:Qo}{A:Ql}{E:Xc->Xd->Prop}{κ:Bp}{it:Array Vu}
noncomputable def toS(κ:Bp)(it:Array Vu)(t:TmS):Bl:=Bm κ (t.p.map (XF it)) t.q t.g none
noncomputable def Sim(prog:XM)(w:Qo)(A:Ql)(E:Xc->Xd->Prop)(κ:Bp)(it:Array Vu){α β:Type}(φ:β->α)(m:StateT Bl Sem α)(t:TM β):Prop:=∀(u:TmS) (s:Xd) (Q:α->Bl->Xd->Prop),
 (t u).kasWp (kas_cmp prog w A κ it) (λo s'=>∃r,o=some r∧Q (φ r.1) (toS κ it r.2) s') s->kasC (X7 prog w) A E m Q (toS κ it u) s
variable {α β α' β':Type}
theorem Zg{φ:β->α}{a:α}{b:β}(h:φ b=a):Sim prog w A E κ it φ (pure a) (pure b):=λu s Q h1=>by
 obtain⟨r,e,h2⟩:=h1
 cases e
 rw[h]at h2
 exact kasC_pure h2
theorem Zk{φ:β->α}{ψ:β'->α'}{m:StateT Bl Sem α}{t:TM β}{f:α->StateT Bl Sem α'}{g:β->TM β'}(h:Sim prog w A E κ it φ m t)(k:∀b,Sim prog w A E κ it ψ (f (φ b)) (g b)):Sim prog w A E κ it ψ (m>>=f) (t>>=g):=λu s Q h1=>by
 have h2:((t u).bind (TM.nxt g)).kasWp (kas_cmp prog w A κ it) (λo s'=>∃r,o=some r∧Q (ψ r.1) (toS κ it r.2) s') s:=h1
 rw[KasT.kasWp_bind]at h2
 refine kasC_bind (h u s _ (kas_wp_mono h2 λo s' h3=>?_))
 cases o with
 | none=>
  obtain⟨r,e,_⟩:=h3
  cases e
 | some r=>exact⟨r,rfl,k r.1 r.2 s' Q h3⟩
theorem Zcf:Sim prog w A E κ it (toS κ it) (get:StateT Bl Sem Bl) Zjp:=λu s Q h1=>by
 obtain⟨r,e,h2⟩:=h1
 cases e
 exact kasC_get h2
theorem Ze5{f:Bl->Bl}{g:TmS->TmS}(h:∀t,f (toS κ it t)=toS κ it (g t)):Sim prog w A E κ it id (modify f:StateT Bl Sem PUnit) (Zk5 g):=λu s Q h1=>by
 obtain⟨r,e,h2⟩:=h1
 cases e
 refine kasC_modify ?_
 rw[h]
 exact h2
theorem Zik{φ:β->α}{m:StateT Bl Sem α}:Sim prog w A E κ it φ m Ztr:=λu s Q h1=>by
 obtain⟨r,e,_⟩:=h1
 cases e
theorem Ww{a:Array Nat}{i:Nat}:Sim prog w A E κ it (XF it) (elem' (a.map (XF it)) i) (Zhg a i):=by
 rw[elem'_eq]
 unfold Zhg
 rw[Array.getElem?_map]
 cases a[i]? with
 | none=>exact Zik
 | some x=>exact Zg rfl
theorem Zl7{i j:Nat}:Sim prog w A E κ it id (lt' (XF it i) (XF it j)) (Z1l i j):=λu s Q h1=>by
 have h2:kas_cmp prog w A κ it i j (λb s'=>∃r,some (some b,u)=some r∧Q (id r.1) (toS κ it r.2) s') s:=h1
 rw[lt'_eq]
 refine kasC_bind (kasC_get ?_)
 refine kasC_bind (kasC_lift (wpAny_attempt (Bk h2 (λc s' hc=>?_) λ_ _ hF=>hF.elim)))
 obtain⟨r,e,h3⟩:=hc
 cases e
 exact kasC_pure h3
theorem Zt5{φ:β->α}{f:Nat->α->StateT Bl Sem (ForInStep α)}{g:Nat->β->TM (ForInStep β)}(h:∀x b,Sim prog w A E κ it (stM φ) (f x (φ b)) (g x b))(l:List Nat)(b:β):Sim prog w A E κ it φ (forIn l (φ b) f) (Zvk l b g):=by
 induction l generalizing b with
 | nil=>rw[VB];exact Zg rfl
 | cons x l ih=>
  rw[Ua]
  refine Zk (h x b) λr=>?_
  cases r with
  | done b=>exact Zg rfl
  | yield b=>exact ih b
theorem Zsf{φ:β->α}{f:Nat->α->StateT Bl Sem (ForInStep α)}{g:Nat->β->TM (ForInStep β)}{x y:Nat}{a:α}{b:β}(e:φ b=a)(h:∀x b,Sim prog w A E κ it (stM φ) (f x (φ b)) (g x b)):Sim prog w A E κ it φ (forIn [x:y] a f) (Zvk (List.range' x (y-x)) b g):=λu s Q h1=>by
 refine kasC_range ?_
 rw[←e]
 exact Zt5 h _ b u s Q h1
theorem Zv{φ:β->α}{c:Prop}[Decidable c]{m n:StateT Bl Sem α}{t v:TM β}(h1:Sim prog w A E κ it φ m t)(h2:Sim prog w A E κ it φ n v):Sim prog w A E κ it φ (if c then m else n) (if c then t else v):=by
 split
 ·exact h1
 ·exact h2
end
end L2
namespace L2
open PySem PySem.Spec PyProof.Rows PySem.W
structure Rg where
 a:Nat
 b:Nat
noncomputable instance:ForIn TM Rg Nat where
 forIn r b f:=Zvk (List.range' r.a (r.b-r.a)) b f
noncomputable def Z93:Bool->Vu->Array Vu->Nat->Nat->Nat->StateT Bl Sem (Option Nat):=sortPriv%PySem.Builtin.gallop
noncomputable def Zq1(le:Bool)(key:Nat)(arr:Array Nat)(base i:Nat):TM (Option Bool):=do
 let x←Zhg arr (base+i)
 if le then Z1l x key else return(←Z1l key x).map (!·)
noncomputable def Zkt(le:Bool)(key:Nat)(arr:Array Nat)(base n hint:Nat):TM (Option Nat):=do
 let mut last:=0
 let mut ofs:=1
 let mut lo:=0
 let mut hi:=0
 let some right←Zq1 le key arr base hint|return none
 if right then
  let most:=n-hint
  for _ in Rg.mk 0 n do
   if ofs≥most then break
   let some more←Zq1 le key arr base (hint+ofs)|return none
   if !more then break
   last:=ofs
   ofs:=2*ofs+1
  lo:=hint+last+1
  hi:=hint+min ofs most
 else
  let most:=hint+1
  for _ in Rg.mk 0 n do
   if ofs≥most then break
   let some more←Zq1 le key arr base (hint-ofs)|return none
   if more then break
   last:=ofs
   ofs:=2*ofs+1
  lo:=hint+1-min ofs most
  hi:=hint-last
 for _ in Rg.mk 0 n do
  if lo≥hi then break
  let m:=lo+(hi-lo)/2
  let some more←Zq1 le key arr base m|return none
  if more then lo:=m+1 else hi:=m
 return some hi
section
variable {prog:XM}{w:Qo}{A:Ql}{E:Xc->Xd->Prop}{κ:Bp}{it:Array Vu}{α β:Type}
theorem Zc2{φ:β->α}{f:Nat->α->StateT Bl Sem (ForInStep α)}{g:Nat->β->TM (ForInStep β)}{x y:Nat}{a:α}{b:β}(e:φ b=a)(h:∀x b,Sim prog w A E κ it (stM φ) (f x (φ b)) (g x b)):Sim prog w A E κ it φ (forIn [x:y] a f) (forIn (Rg.mk x y) b g):=Zsf e h
theorem Zi6{le:Bool}{key:Nat}{arr:Array Nat}{base n hint:Nat}:Sim prog w A E κ it id (Z93 le (XF it key) (arr.map (XF it)) base n hint) (Zkt le key arr base n hint):=by
 have bey:∀i,Sim prog w A E κ it id (do
   let x←elem' (arr.map (XF it)) (base+i)
   if le then lt' x (XF it key)else return(←lt' (XF it key) x).map (!·)) (Zq1 le key arr base i):=λi=>Zk Ww λx=>Zv Zl7 (Zk Zl7 λo=>Zg rfl)
 unfold Zkt
 refine Zk (bey hint) λo=>?_
 cases o with
 | none=>exact Zg rfl
 | some right=>
  refine Zv ?_ ?_
  ·refine Zk (Zc2 (φ:=id) rfl λx b=>?_) λr=>?_
   ·exact Zv (Zg rfl) (Zk (bey _) λo=>by
     cases o with
     | none=>exact Zg rfl
     | some m=>exact Zv (Zg rfl) (Zg rfl))
   ·obtain⟨r1,last,ofs⟩:=r
    cases r1 with
    | some v=>exact Zg rfl
    | none=>
     refine Zk (Zc2 (φ:=id) rfl λx b=>?_) λr=>?_
     ·exact Zv (Zg rfl) (Zk (bey _) λo=>by
       cases o with
       | none=>exact Zg rfl
       | some m=>exact Zv (Zg rfl) (Zg rfl))
     ·obtain⟨r1,lo,hi⟩:=r
      cases r1 with
      | some v=>exact Zg rfl
      | none=>exact Zg rfl
  ·refine Zk (Zc2 (φ:=id) rfl λx b=>?_) λr=>?_
   ·exact Zv (Zg rfl) (Zk (bey _) λo=>by
     cases o with
     | none=>exact Zg rfl
     | some m=>exact Zv (Zg rfl) (Zg rfl))
   ·obtain⟨r1,last,ofs⟩:=r
    cases r1 with
    | some v=>exact Zg rfl
    | none=>
     refine Zk (Zc2 (φ:=id) rfl λx b=>?_) λr=>?_
     ·exact Zv (Zg rfl) (Zk (bey _) λo=>by
       cases o with
       | none=>exact Zg rfl
       | some m=>exact Zv (Zg rfl) (Zg rfl))
     ·obtain⟨r1,lo,hi⟩:=r
      cases r1 with
      | some v=>exact Zg rfl
      | none=>exact Zg rfl
end
end L2
namespace L2
open PySem PySem.Spec PyProof.Rows PySem.W
noncomputable def Ya6:Array Vu->Array Vu->StateT Bl Sem (Array Vu):=sortPriv%PySem.Builtin.mergeLo
noncomputable def Z63:Nat->StateT Bl Sem PUnit:=sortPriv%PySem.Builtin.setMinGallop
noncomputable def Zlu(g:Nat):TM PUnit:=Zk5 λt=>{ t with g:=g }
noncomputable def Z6f(a b:Array Nat):TM (Array Nat):=do
 let total:=a.size+b.size
 let fin (out:Array Nat) (i j:Nat):=out ++ a.extract i a.size ++ b.extract j b.size
 let lst (out:Array Nat) (i j:Nat):=out ++ b.extract j b.size ++ a.extract i a.size
 let mut out:Array Nat:=#[←Zhg b 0]
 let mut i:=0
 let mut j:=1
 if j==b.size then return fin out i j
 if i+1==a.size then return lst out i j
 let mut mg:=(←Zjp).g
 for _ in Rg.mk 0 total do
  let mut na:=0
  let mut nb:=0
  for _ in Rg.mk 0 total do
   let some c←Z1l (←Zhg b j) (←Zhg a i)|return fin out i j
   if c then
    out:=out.push (←Zhg b j);j:=j+1;nb:=nb+1;na:=0
    if j==b.size then return fin out i j
    if nb≥mg then break
   else
    out:=out.push (←Zhg a i);i:=i+1;na:=na+1;nb:=0
    if i+1==a.size then return lst out i j
    if na≥mg then break
  mg:=mg+1
  for _ in Rg.mk 0 total do
   if mg>1 then mg:=mg-1
   Zlu mg
   let some k←Zkt false (←Zhg b j) a i (a.size-i) 0|return fin out i j
   na:=k
   if k>0 then
    out:=out ++ a.extract i (i+k);i:=i+k
    if i+1==a.size then return lst out i j
    if i==a.size then return fin out i j
   out:=out.push (←Zhg b j);j:=j+1
   if j==b.size then return fin out i j
   let some k←Zkt true (←Zhg a i) b j (b.size-j) 0|return fin out i j
   nb:=k
   if k>0 then
    out:=out ++ b.extract j (j+k);j:=j+k
    if j==b.size then return fin out i j
   out:=out.push (←Zhg a i);i:=i+1
   if i+1==a.size then return lst out i j
   if na<7&&nb<7 then break
  mg:=mg+1
  Zlu mg
 Ztr
section
variable {prog:XM}{w:Qo}{A:Ql}{E:Xc->Xd->Prop}{κ:Bp}{it:Array Vu}{α β γ:Type}
theorem Zeg{φ:β->α}{x:String}{f:PUnit->StateT Bl Sem α}{t:TM β}(h:Sim prog w A E κ it φ (f ⟨⟩) t):Sim prog w A E κ it φ ((liftM (rule x):StateT Bl Sem PUnit)>>=f) t:=λu s Q h1=>kasC_bind (kasC_lift (wpAny_rule (h u s Q h1)))
theorem Jp{φ:β->α}{c d:Prop}[Decidable c][Decidable d]{m n:StateT Bl Sem α}{t v:TM β}(e:c↔d)(h1:Sim prog w A E κ it φ m t)(h2:Sim prog w A E κ it φ n v):Sim prog w A E κ it φ (if c then m else n) (if d then t else v):=by
 by_cases q:d
 ·rw[if_pos q,if_pos (e.mpr q)];exact h1
 ·rw[if_neg q,if_neg λz=>q (e.mp z)];exact h2
theorem Zg7{φ:β->α}{f:Nat->α->StateT Bl Sem (ForInStep α)}{g:Nat->β->TM (ForInStep β)}{x y y':Nat}{a:α}{b:β}(ey:y'=y)(e:φ b=a)(h:∀x b,Sim prog w A E κ it (stM φ) (f x (φ b)) (g x b)):Sim prog w A E κ it φ (forIn [x:y'] a f) (forIn (Rg.mk x y) b g):=ey▸Zsf e h
theorem Zo8{le:Bool}{key:Nat}{arr:Array Nat}{base n n' hint:Nat}(e:n'=n):Sim prog w A E κ it id (Z93 le (XF it key) (arr.map (XF it)) base n' hint) (Zkt le key arr base n hint):=e▸Zi6
noncomputable def mpS(f:Nat->Vu)(b:Option (Array Nat)×Array Nat×γ):Option (Array Vu)×Array Vu×γ:=(b.1.map (Uj f),b.2.1.map f,b.2.2)
theorem Zh2{g:Nat}:Sim prog w A E κ it id (Z63 g) (Zlu g):=Ze5 λt=>rfl
theorem Yy{φ:β->α}{m:StateT Bl Sem (Option γ)}{t:TM (Option γ)}{f:Option γ->StateT Bl Sem α}{g:Option γ->TM β}(h:Sim prog w A E κ it id m t)(k0:Sim prog w A E κ it φ (f none) (g none))(k:∀c,Sim prog w A E κ it φ (f (some c)) (g (some c))):Sim prog w A E κ it φ (m>>=f) (t>>=g):=Zk h λo=>by
 cases o with
 | none=>exact k0
 | some c=>exact k c
theorem Z44{a b:Array Nat}:Sim prog w A E κ it (Uj (XF it)) (Ya6 (a.map (XF it)) (b.map (XF it))) (Z6f a b):=by
 have sz:∀(a:Array Nat) (k:Nat),(k==(a.map (XF it)).size)=true↔(k==a.size)=true:=λa k=>by rw[X3]
 have tot:(a.map (XF it)).size+(b.map (XF it)).size=a.size+b.size:=by rw[X3,X3]
 have m1:∀x,Uj (XF it) #[x]=#[XF it x]:=λx=>by simp
 unfold Z6f
 refine Zeg (Zk Ww λx0=>?_)
 refine Jp (sz _ _) (Zg (by simp only[XH,Xy,X3,m1])) (Jp (sz _ _) (Zg (by simp only[XH,Xy,X3,m1])) (Zk Zcf λt0=>?_))
 refine Zk (Zg7 (φ:=mpS (XF it)) tot (by simp only[mpS,m1];rfl) λx b=>?_) λr=>?_
 ·refine Zk (Zg7 (φ:=mpS (XF it)) tot rfl λx b=>?_) λr=>?_
  ·refine Zk Ww λx=>Zk Ww λy=>Yy Zl7 ?_ λc=>?_
   ·exact Zg (by simp only[stM,mpS,XH,Xy,X3,XX])
   ·refine Zv (Zk Ww λz=>Jp (sz _ _) (Zg ?_) (Zv (Zg ?_) (Zg ?_))) (Zk Ww λz=>Jp (sz _ _) (Zg ?_) (Zv (Zg ?_) (Zg ?_)))<;>simp only[stM,mpS,Qu,XH,Xy,X3,XX,Qm]
  ·obtain⟨r1,r2⟩:=r
   cases r1 with
   | some v=>exact Zg rfl
   | none=>
    refine Zeg (Zk (Zg7 (φ:=mpS (XF it)) tot rfl λx b=>?_) λr=>?_)
    ·refine Zv ?_ ?_<;>(
      refine Zk Zh2 λ_=>Zk Ww λy=>Yy (Zo8 (by rw[X3];rfl)) (Zg (by simp only[stM,mpS,Qu,XH,Xy,X3,XX,Qm])) λk=>?_
      refine Zv (Jp (sz _ _) (Zg (by simp only[stM,mpS,Qu,XH,Xy,X3,XX,Qm])) (Jp (sz _ _) (Zg (by simp only[stM,mpS,Qu,XH,Xy,X3,XX,Qm])) ?_)) ?_<;>(
       refine Zk Ww λz=>Jp (sz _ _) (Zg (by simp only[stM,mpS,Qu,XH,Xy,X3,XX,Qm])) (Zk Ww λy2=>Yy (Zo8 (by rw[X3];rfl)) (Zg (by simp only[stM,mpS,Qu,XH,Xy,X3,XX,Qm])) λk2=>?_)
       refine Zv (Jp (sz _ _) (Zg (by simp only[stM,mpS,Qu,XH,Xy,X3,XX,Qm])) ?_) ?_<;>(
        refine Zk Ww λz2=>Jp (sz _ _) (Zg (by simp only[stM,mpS,Qu,XH,Xy,X3,XX,Qm])) (Zv (Zg (by simp only[stM,mpS,Qu,XH,Xy,X3,XX,Qm])) (Zg (by simp only[stM,mpS,Qu,XH,Xy,X3,XX,Qm]))))))
    ·obtain⟨r1,r2⟩:=r
     cases r1 with
     | some v=>exact Zg rfl
     | none=>exact Zk Zh2 λ_=>Zg rfl
 ·obtain⟨r1,r2⟩:=r
  cases r1 with
  | some v=>exact Zg rfl
  | none=>exact Zik
end
end L2
namespace L2
open PySem PySem.Spec PyProof.Rows PySem.W
noncomputable def Ya0:Array Vu->Array Vu->StateT Bl Sem (Array Vu):=sortPriv%PySem.Builtin.mergeHi
noncomputable def Z6x(a b:Array Nat):TM (Array Nat):=do
 let total:=a.size+b.size
 let fin (out:Array Nat) (i j:Nat):=a.extract 0 i ++ b.extract 0 j ++ out.reverse
 let fst (out:Array Nat) (i j:Nat):=b.extract 0 j ++ a.extract 0 i ++ out.reverse
 let mut i:=a.size-1
 let mut j:=b.size
 let mut out:Array Nat:=#[←Zhg a i]
 if i==0 then return fin out i j
 if j==1 then return fst out i j
 let mut mg:=(←Zjp).g
 for _ in Rg.mk 0 total do
  let mut na:=0
  let mut nb:=0
  for _ in Rg.mk 0 total do
   let some c←Z1l (←Zhg b (j-1)) (←Zhg a (i-1))|return fin out i j
   if c then
    i:=i-1;out:=out.push (←Zhg a i);na:=na+1;nb:=0
    if i==0 then return fin out i j
    if na≥mg then break
   else
    j:=j-1;out:=out.push (←Zhg b j);nb:=nb+1;na:=0
    if j==1 then return fst out i j
    if nb≥mg then break
  mg:=mg+1
  for _ in Rg.mk 0 total do
   if mg>1 then mg:=mg-1
   Zlu mg
   let some x←Zkt false (←Zhg b (j-1)) a 0 i (i-1)|return fin out i j
   let k:=i-x
   na:=k
   if k>0 then
    out:=out ++ (a.extract x i).reverse;i:=x
    if i==0 then return fin out i j
   j:=j-1;out:=out.push (←Zhg b j)
   if j==1 then return fst out i j
   let some x←Zkt true (←Zhg a (i-1)) b 0 j (j-1)|return fin out i j
   let k:=j-x
   nb:=k
   if k>0 then
    out:=out ++ (b.extract x j).reverse;j:=x
    if j==1 then return fst out i j
    if j==0 then return fin out i j
   i:=i-1;out:=out.push (←Zhg a i)
   if i==0 then return fin out i j
   if na<7&&nb<7 then break
  mg:=mg+1
  Zlu mg
 Ztr
section
variable {prog:XM}{w:Qo}{A:Ql}{E:Xc->Xd->Prop}{κ:Bp}{it:Array Vu}{α β γ:Type}
noncomputable def mpH(f:Nat->Vu)(b:Option (Array Nat)×Nat×Nat×Array Nat×γ):Option (Array Vu)×Nat×Nat×Array Vu×γ:=(b.1.map (Uj f),b.2.1,b.2.2.1,b.2.2.2.1.map f,b.2.2.2.2)
theorem Zx9{a:Array Nat}{i j:Nat}(e:j=i):Sim prog w A E κ it (XF it) (elem' (a.map (XF it)) j) (Zhg a i):=e▸Ww
theorem Z5w{a b:Array Nat}:Sim prog w A E κ it (Uj (XF it)) (Ya0 (a.map (XF it)) (b.map (XF it))) (Z6x a b):=by
 have tot:(a.map (XF it)).size+(b.map (XF it)).size=a.size+b.size:=by rw[X3,X3]
 have m1:∀x,Uj (XF it) #[x]=#[XF it x]:=λx=>by simp
 unfold Z6x
 refine Zeg (Zk (Zx9 (by rw[X3])) λx0=>?_)
 refine Jp (by rw[X3]) (Zg (by simp only[XH,Xy,QK,X3,m1])) (Jp (by rw[X3]) (Zg (by simp only[XH,Xy,QK,X3,m1])) (Zk Zcf λt0=>?_))
 refine Zk (Zg7 (φ:=mpH (XF it)) tot (by simp only[mpH,m1,X3];rfl) λx b=>?_) λr=>?_
 ·refine Zk (Zg7 (φ:=mpH (XF it)) tot rfl λx b=>?_) λr=>?_
  ·refine Zk Ww λx=>Zk Ww λy=>Yy Zl7 ?_ λc=>?_
   ·exact Zg (by simp only[stM,mpH,XH,Xy,QK,XX])
   ·refine Zv (Zk Ww λz=>Zv (Zg ?_) (Zv (Zg ?_) (Zg ?_))) (Zk Ww λz=>Zv (Zg ?_) (Zv (Zg ?_) (Zg ?_)))<;>simp only[stM,mpH,Qu,XH,Xy,QK,XX,Qm]
  ·obtain⟨r1,r2⟩:=r
   cases r1 with
   | some v=>exact Zg rfl
   | none=>
    refine Zeg (Zk (Zg7 (φ:=mpH (XF it)) tot rfl λx b=>?_) λr=>?_)
    ·refine Zv ?_ ?_<;>(
      refine Zk Zh2 λ_=>Zk Ww λy=>Yy Zi6 (Zg (by simp only[stM,mpH,Qu,XH,Xy,QK,XX,Qm])) λk=>?_
      refine Zv (Zv (Zg (by simp only[stM,mpH,Qu,XH,Xy,QK,XX,Qm])) ?_) ?_<;>(
       refine Zk Ww λz=>Zv (Zg (by simp only[stM,mpH,Qu,XH,Xy,QK,XX,Qm])) (Zk Ww λy2=>Yy Zi6 (Zg (by simp only[stM,mpH,Qu,XH,Xy,QK,XX,Qm])) λk2=>?_)
       refine Zv (Zv (Zg (by simp only[stM,mpH,Qu,XH,Xy,QK,XX,Qm])) (Zv (Zg (by simp only[stM,mpH,Qu,XH,Xy,QK,XX,Qm])) ?_)) ?_<;>(
        refine Zk Ww λz2=>Zv (Zg (by simp only[stM,mpH,Qu,XH,Xy,QK,XX,Qm])) (Zv (Zg (by simp only[stM,mpH,Qu,XH,Xy,QK,XX,Qm])) (Zg (by simp only[stM,mpH,Qu,XH,Xy,QK,XX,Qm]))))))
    ·obtain⟨r1,r2⟩:=r
     cases r1 with
     | some v=>exact Zg rfl
     | none=>exact Zk Zh2 λ_=>Zg rfl
 ·obtain⟨r1,r2⟩:=r
  cases r1 with
  | some v=>exact Zg rfl
  | none=>exact Zik
end
end L2
namespace L2
open PySem PySem.Spec PyProof.Rows PySem.W
noncomputable def Znn(i j:Nat):TM (Option Bool):=do
 let t←Zjp
 let x←Zhg t.p i
 let y←Zhg t.p j
 Z1l x y
noncomputable def Zti(i j:Nat):TM PUnit:=Zk5 λt=>{ t with p:=kas_rev t.p i j }
noncomputable def Z10(i j:Nat):TM PUnit:=Zk5 λt=>{ t with p:=bubble t.p i (i-j) }
noncomputable def Z1h(lo m:Nat):TM (Option Nat):=do
 let mut n:=1
 for _ in Rg.mk 1 m do
  let some c←Znn (lo+n) (lo+n-1)|return none
  if c then break
  n:=n+1
 if n==m then return some n
 if n>1 then
  let some c←Znn lo (lo+n-1)|return none
  if c then return some n
  Zti lo (lo+n)
 n:=n+1
 let mut e:=0
 for _ in Rg.mk n m do
  let some c←Znn (lo+n) (lo+n-1)|return none
  if c then
   if e>0 then Zti (lo+n-(e+1)) (lo+n)
   e:=0
  else
   let some d←Znn (lo+n-1) (lo+n)|return none
   if d then break
   e:=e+1
  n:=n+1
 if e>0 then Zti (lo+n-(e+1)) (lo+n)
 Zti lo (lo+n)
 for _ in Rg.mk n m do
  let some c←Znn (lo+n) (lo+n-1)|return none
  if c then break
  n:=n+1
 return some n
noncomputable def Zz9(lo n ok:Nat):TM Bool:=do
 for k in Rg.mk (max ok 1) n do
  let mut l:=0
  let mut r:=k
  for _ in Rg.mk 0 k do
   if l≥r then break
   let m:=(l+r)/2
   let some c←Znn (lo+k) (lo+m)|return false
   if c then r:=m else l:=m+1
  Z10 (lo+k) (lo+l)
 return true
section
variable {prog:XM}{w:Qo}{A:Ql}{E:Xc->Xd->Prop}{κ:Bp}{it:Array Vu}{α β γ:Type}
theorem Zgy{i j:Nat}:Sim prog w A E κ it id (ltAt' i j) (Znn i j):=Zk Zcf λt=>Zk Ww λx=>Zk Ww λy=>Zl7
theorem Zk7{i j:Nat}:Sim prog w A E κ it id (reverseSlice' i j) (Zti i j):=by
 rw[reverseSlice'_eq]
 exact Ze5 λt=>by
  show Bm κ (mirror (t.p.map (XF it)) i j ((j-i)/2)) t.q t.g none=Bm κ ((mirror t.p i j ((j-i)/2)).map (XF it)) t.q t.g none
  rw[show mirror (t.p.map (XF it)) i j ((j-i)/2)=(mirror t.p i j ((j-i)/2)).map (XF it)from kas_swaps_map (XF it) (λk=>i+k) (λk=>j-1-k) _ t.p]
theorem Zyz{i j:Nat}:Sim prog w A E κ it id (moveDown' i j) (Z10 i j):=by
 rw[moveDown'_eq]
 exact Ze5 λt=>by
  show Bm κ (bubble (t.p.map (XF it)) i (i-j)) t.q t.g none=Bm κ ((bubble t.p i (i-j)).map (XF it)) t.q t.g none
  rw[show bubble (t.p.map (XF it)) i (i-j)=(bubble t.p i (i-j)).map (XF it)from kas_swaps_map (XF it) (λk=>i-k) (λk=>i-k-1) _ t.p]
theorem Zy1{lo m:Nat}:Sim prog w A E κ it id (countRun' lo m) (Z1h lo m):=by
 unfold Z1h
 refine Zk (Zc2 (φ:=id) rfl λx b=>Yy Zgy (Zg rfl) λc=>Zv (Zg rfl) (Zg rfl)) λr=>?_
 obtain⟨r1,n⟩:=r
 cases r1 with
 | some v=>exact Zg rfl
 | none=>
  refine Zv (Zg rfl) (Zv (Yy Zgy (Zg rfl) λc=>Zv (Zg rfl) (Zk Zk7 λ_=>?_)) ?_)<;>(
   refine Zeg (Zk (Zc2 (φ:=id) rfl λx b=>Yy Zgy (Zg rfl) λc=>Zv (Zv (Zk Zk7 λ_=>Zg rfl) (Zg rfl)) (Yy Zgy (Zg rfl) λd=>Zv (Zg rfl) (Zg rfl))) λr=>?_)
   obtain⟨r1,n,e⟩:=r
   cases r1 with
   | some v=>exact Zg rfl
   | none=>
    refine Zv (Zk Zk7 λ_=>?_) ?_<;>(
     refine Zk Zk7 λ_=>Zk (Zc2 (φ:=id) rfl λx b=>Yy Zgy (Zg rfl) λc=>Zv (Zg rfl) (Zg rfl)) λr=>?_
     obtain⟨r1,n⟩:=r
     cases r1 with
     | some v=>exact Zg rfl
     | none=>exact Zg rfl))
theorem Zzh{lo n ok:Nat}:Sim prog w A E κ it id (binarySort' lo n ok) (Zz9 lo n ok):=by
 unfold Zz9
 refine Zk (Zc2 (φ:=id) rfl λk b=>?_) λr=>?_
 ·refine Zk (Zc2 (φ:=id) rfl λx b=>Zv (Zg rfl) (Yy Zgy (Zg rfl) λc=>Zv (Zg rfl) (Zg rfl))) λr=>?_
  obtain⟨r1,l,m⟩:=r
  cases r1 with
  | some v=>exact Zg rfl
  | none=>exact Zk Zyz λ_=>Zg rfl
 ·obtain⟨r1,r2⟩:=r
  cases r1 with
  | some v=>exact Zg rfl
  | none=>exact Zg rfl
end
end L2
namespace L2
open PySem PySem.Spec PyProof.Rows PySem.W
noncomputable def layA{γ:Type}(k:Nat)(m a:Array γ):Array γ:=m.toList.zipIdx.foldl (λa q=>a.setIfInBounds (k+q.2) q.1) a
noncomputable def Z6i(i:Nat):TM Bool:=do
 let t←Zjp
 let(some (c,n,u),some (d,m,_)):=(t.q[i]?,t.q[i+1]?)|Ztr
 Zk5 λ_=>{ t with q:=(t.q.setIfInBounds i (c,n+m,u)).eraseIdxIfInBounds (i+1) }
 let some k←Zkt false (←Zhg t.p d) t.p c n 0|return false
 let(c,n):=(c+k,n-k)
 if n==0 then return true
 let some m←Zkt true (←Zhg t.p (c+n-1)) t.p d m (m-1)|return false
 if m==0 then return true
 let x:=t.p.extract c d
 let y:=t.p.extract d (d+m)
 let z←if n≤m then Z6f x y else Z6x x y
 Zk5 λt=>{ t with p:=layA c z t.p }
 let _←Zjp
 return true
section
variable {prog:XM}{w:Qo}{A:Ql}{E:Xc->Xd->Prop}{κ:Bp}{it:Array Vu}{α β γ:Type}
theorem Z0y{a:Bl}{t:TmS}(h:toS κ it t=a):Sim prog w A E κ it id (set a:StateT Bl Sem PUnit) (Zk5 λ_=>t):=λu s Q h1=>by
 obtain⟨r,e,h2⟩:=h1
 cases e
 unfold kasC
 rw[StateT.run_set,←h]
 exact X5 h2
theorem Zya{α β:Type}(f:α->β)(xs:Array α)(i:Nat)(v:α):(xs.map f).setIfInBounds i (f v)=(xs.setIfInBounds i v).map f:=by
 apply Array.ext_getElem?
 intro k
 rw[Array.getElem?_map,Array.getElem?_setIfInBounds,Array.getElem?_setIfInBounds,X3]
 split
 ·split<;>rfl
 ·rw[Array.getElem?_map]
theorem Zv1{α β:Type}(f:α->β)(k:Nat)(m a:Array α):layA k (m.map f) (a.map f)=(layA k m a).map f:=by
 unfold layA
 rw[Array.toList_map,List.zipIdx_map,List.foldl_map]
 generalize m.toList.zipIdx=l
 induction l generalizing a with
 | nil=>rfl
 | cons q l ih=>
  rw[List.foldl_cons,List.foldl_cons]
  show List.foldl _ ((a.map f).setIfInBounds (k+q.2) (f q.1)) l=_
  rw[Zya]
  exact ih _
theorem Zy2{a b:Array Nat}{c d:Array Vu}(e:c=a.map (XF it))(e':d=b.map (XF it)):Sim prog w A E κ it (Uj (XF it)) (Ya6 c d) (Z6f a b):=e▸e'▸Z44
theorem Z1a{a b:Array Nat}{c d:Array Vu}(e:c=a.map (XF it))(e':d=b.map (XF it)):Sim prog w A E κ it (Uj (XF it)) (Ya0 c d) (Z6x a b):=e▸e'▸Z5w
theorem Zwp{i:Nat}:Sim prog w A E κ it id (mergeAt' i) (Z6i i):=by
 unfold Z6i
 refine Zk Zcf λt=>?_
 have e1:(VM (toS κ it t))[i]? =t.q[i]?:=rfl
 have e2:(VM (toS κ it t))[i+1]? =t.q[i+1]?:=rfl
 generalize(VM (toS κ it t))[i]? =o1 at e1⊢
 generalize(VM (toS κ it t))[i+1]? =o2 at e2⊢
 subst e1 e2
 cases t.q[i]? with
 | none=>exact Zik
 | some x=>
  cases t.q[i+1]? with
  | none=>exact Zik
  | some y=>
   obtain⟨c,n,u⟩:=x
   obtain⟨d,m,v⟩:=y
   refine Zk (Z0y rfl) λ_=>Zk Ww λx=>Yy Zi6 (Zg rfl) λk=>Zv (Zg rfl) (Zk Ww λy=>Yy Zi6 (Zg rfl) λm=>Zv (Zg rfl) ?_)
   have ex:∀i j,(t.p.map (XF it)).extract i j=(t.p.extract i j).map (XF it):=λi j=>by rw[Xy]
   refine Zv (Zk (Zy2 (ex _ _) (ex _ _)) λz=>?_) (Zk (Z1a (ex _ _) (ex _ _)) λz=>?_)<;>(
    refine Zk (Ze5 λt=>?_) λ_=>Zk Zcf λt=>Zg rfl
    show Bm κ (layA (c+k) (z.map (XF it)) (t.p.map (XF it))) t.q t.g none=Bm κ ((layA (c+k) z t.p).map (XF it)) t.q t.g none
    rw[Zv1])
noncomputable def Zrr:TM PUnit:=do
 let sz:=(←Zjp).p.size
 let mr:=minRun' sz sz 0
 let mut lo:=0
 for _ in Rg.mk 0 sz do
  if lo≥sz then break
  let some f←Z1h lo (sz-lo)|return
  let mut n:=f
  if n<mr then
   let fo:=min (sz-lo) mr
   if !(←Zz9 lo fo n)then return
   n:=fo
  if let some (c,m,_):=(←Zjp).q.back? then
   let u:=power' sz (2*c+m) (2*c+m+m+n) sz
   for _ in Rg.mk 0 sz do
    let z:=(←Zjp).q
    let some (_,_,v):=(if z.size>1 then z[z.size-2]? else none)|break
    if v≤u then break
    if !(←Z6i (z.size-2))then return
   Zk5 λt=>{ t with q:=t.q.modify (t.q.size-1) λ(c,m,_)=>(c,m,u) }
  Zk5 λt=>{ t with q:=t.q.push (lo,n,0) }
  lo:=lo+n
 for _ in Rg.mk 0 sz do
  let z:=(←Zjp).q
  if z.size≤1 then break
  let k:=z.size-2
  let bf:=if k>0 then z[k-1]?.map (·.2.1)else none
  let k:=if bf.any (·<(z[k+1]?.elim 0 (·.2.1)))then k-1 else k
  if !(←Z6i k)then return
theorem Zvg:Sim prog w A E κ it id sortRuns' Zrr:=by
 rw[sortRuns'_eq]
 unfold Zrr
 refine Zk Zcf λt=>?_
 have sz:(arrOf (toS κ it t)).size=t.p.size:=X3 ..
 generalize(arrOf (toS κ it t)).size=n1 at sz⊢
 subst sz
 refine Zk (Zc2 (φ:=id) rfl λx b=>?_) λr=>?_
 ·refine Zv (Zg rfl) (Yy Zy1 (Zg rfl) λf=>?_)
  refine Zv (Zeg (Zk Zzh λc=>Zv (Zg rfl) ?_)) ?_<;>(
   refine Zk Zcf λt2=>?_
   have e1:(VM (toS κ it t2)).back? =t2.q.back?:=rfl
   generalize(VM (toS κ it t2)).back? =o1 at e1⊢
   subst e1
   cases t2.q.back? with
   | none=>exact Zk (Ze5 λt=>rfl) λ_=>Zg rfl
   | some y=>
    obtain⟨c,m,v⟩:=y
    refine Zk (Zc2 (φ:=id) rfl λx b=>?_) λr=>?_
    ·refine Zk Zcf λt3=>?_
     have e1:VM (toS κ it t3)=t3.q:=rfl
     generalize VM (toS κ it t3)=z at e1⊢
     subst e1
     show Sim prog w A E κ it _ (match(if t3.q.size>1 then t3.q[t3.q.size-2]? else none)with|some (_,_,_)=>_|_=>_) (match(if t3.q.size>1 then t3.q[t3.q.size-2]? else none)with|some (_,_,_)=>_|_=>_)
     generalize(if t3.q.size>1 then t3.q[t3.q.size-2]? else none)=o
     cases o with
     | none=>exact Zg rfl
     | some y=>
      obtain⟨_,_,v⟩:=y
      exact Zv (Zg rfl) (Zk Zwp λc=>Zv (Zg rfl) (Zg rfl))
    ·obtain⟨r1,r2⟩:=r
     cases r1 with
     | some v=>exact Zg rfl
     | none=>exact Zk (Ze5 λt=>rfl) λ_=>Zk (Ze5 λt=>rfl) λ_=>Zg rfl)
 ·obtain⟨r1,lo⟩:=r
  cases r1 with
  | some v=>exact Zg rfl
  | none=>
   refine Zk (Zc2 (φ:=id) rfl λx b=>?_) λr=>?_
   ·refine Zk Zcf λt3=>?_
    have e1:VM (toS κ it t3)=t3.q:=rfl
    generalize VM (toS κ it t3)=z at e1⊢
    subst e1
    exact Zv (Zg rfl) (Zk Zwp λc=>Zv (Zg rfl) (Zg rfl))
   ·obtain⟨r1,r2⟩:=r
    cases r1 with
    | some v=>exact Zg rfl
    | none=>exact Zg rfl
end
end L2
namespace L2
open PySem PySem.Spec PyProof.Rows PySem.W
noncomputable def Zwj{α:Type}(lt:Nat->Nat->Bool)(n:Nat):KasT α->Option α
 | .ret a=>some a
 | .ask i j k=>if(Nat.blt i n&&Nat.blt j n)=true then Zwj lt n (k (lt i j))else none
theorem Z1b{α:Type}{lt:Nat->Nat->Bool}{n:Nat}{cmp:Nat->Nat->(Bool->Xd->Prop)->Xd->Prop}{s:Xd}{Q:α->Xd->Prop}(hc:∀i j C,i<n->j<n->C (lt i j) s->cmp i j C s){t:KasT α}{a:α}(h:Zwj lt n t=some a)(q:Q a s):t.kasWp cmp Q s:=by
 induction t with
 | ret b=>cases h;exact q
 | ask i j k ih=>
  rw[Zwj]at h
  split at h
  ·rename_i c
   rw[Xo]at c
   exact hc i j _ (VN c.1) (VN c.2) (ih _ h)
  ·cases h
theorem Zpu{α:Type}{lt lt':Nat->Nat->Bool}{n:Nat}(h:∀i<n,∀j<n,lt i j=lt' i j)(t:KasT α):Zwj lt n t=Zwj lt' n t:=by
 induction t with
 | ret b=>rfl
 | ask i j k ih=>
  rw[Zwj,Zwj]
  split
  ·rename_i c
   rw[Xo]at c
   rw[h i (VN c.1) j (VN c.2)]
   exact ih _
  ·rfl
noncomputable def Zhq(lt:Nat->Nat->Bool)(n:Nat):Option (List Nat):=(Zwj lt n (Zrr ⟨(Xn n).toArray,#[],7⟩)).bind λo=>o.map λr=>r.2.p.toList
theorem Znu{lt lt':Nat->Nat->Bool}{n:Nat}(h:∀i<n,∀j<n,lt i j=lt' i j):Zhq lt n=Zhq lt' n:=by
 unfold Zhq
 rw[Zpu h]
noncomputable def tLay{α:Type}(d:α)(l:List Nat)(vs:List α):List α:=l.map λi=>vs.getD i d
section
variable {prog:XM}{w:Qo}{A:Ql}{E:Xc->Xd->Prop}{s:Xd}
theorem Zp6{κ:Bp}{lt:Nat->Nat->Bool}{h0:Heap}{a:Addr}{vs:List Xc}{n:Nat}{P:PySem.Fin->Xd->Prop}{l:List Nat}(ho:s.heap.get? a=some (QX "list" vs.toArray n))
  (k0:∀b o,h0.get? b=some o->s.heap.get? b=some o) (ha0:h0.get? a=none) (h2:2≤vs.length) (hz:vs.length≤10000) (hl:Zhq lt vs.length=some l) (hp:l.length=vs.length)
  (hk:∀s':Xd,(∀b o,h0.get? b=some o->s'.heap.get? b=some o)->∀Q:Bp->Xd->Prop,Q κ s'->XN (X7 prog w) A (keyKind' vs.toArray) Q E s')
  (hc:∀s':Xd,(∀b o,h0.get? b=some o->s'.heap.get? b=some o)->∀i j C,i<vs.length->j<vs.length->C (lt i j) s'->kas_ask prog w A κ vs i j C s')
  (h:P (.done (.ret .none)) { s with heap:=sortedHeap s.heap a vs (JZ (tLay QH l vs)) }):XN (X7 prog w) A (Ui.«list.sort» ⟨[.ref a],[]⟩) P E s:=by
 have ha:a<s.heap.objs.size:=Xz ho
 obtain⟨e1,ho1⟩:∃e1,(s.heap.update a (QC λ_=>(#[]:Array Xc))).get? a=some (QX "list" #[] e1):=⟨_,get?_update_seq ho λ_=>#[]⟩
 have ho6:(((s.heap.update a (QC λ_=>(#[]:Array Xc))).push (QX "tuple" vs.toArray 0)).push (QX "list" #[] 0)).get? a=some (QX "list" #[] e1):=Xj _ (Xj _ ho1)
 have k6:∀b o,h0.get? b=some o->(((s.heap.update a (QC λ_=>(#[]:Array Xc))).push (QX "tuple" vs.toArray 0)).push (QX "list" #[] 0)).get? b=some o:=λb o e=>by
  refine Xj _ (Xj _ ?_)
  rw[Ug _ _ _ _ (λq=>by rw[q,ha0]at e;cases e)]
  exact k0 b o e
 rw[list_sort_plain]
 refine Xe (listItems_at ho rfl ?_)
 refine Xe (listUpdate_at ho rfl ?_ (by rw[Xx,Qe];omega) (Q6 _))
 refine Xe (seqEpoch_at ho1 rfl ?_)
 refine Xe (wpAny_newTuple ?_ (by show vs.length≤_;rw[Qe];omega))
 refine Xe (wpAny_newList ?_ (Q6 _))
 refine Vw ?_
 show XN (X7 prog w) A _ P E { s with heap:=((s.heap.update a (QC λ_=>(#[]:Array Xc))).push (QX "tuple" vs.toArray 0)).push (QX "list" #[] 0) }
 dsimp only
 have hs:vs.toArray.size=vs.length:=Xx ..
 have n2:¬vs.toArray.size<2:=by omega
 rw[if_neg n2,if_neg n2]
 refine Xe (hk _ k6 _ ?_)
 have est:Bm κ (vs.toArray.zip vs.toArray) #[] 7 none=toS κ (Vz vs) ⟨(Xn vs.length).toArray,#[],7⟩:=by
  have e:=kas_range (Vz vs)
  rw[pairsOf_size]at e
  show Bm κ (Vz vs) #[] 7 none=Bm κ ((JZ (Xn vs.length)).map (XF (Vz vs))) #[] 7 none
  rw[e]
 obtain⟨o,eo,hl⟩:=BP.mp hl
 obtain⟨r0,er,hq⟩:=Option.map_eq_some_iff.mp hl
 subst er
 have run:=Zvg (prog:=prog) (w:=w) (A:=A) (E:=E) (κ:=κ) (it:=Vz vs) ⟨(Xn vs.length).toArray,#[],7⟩ { s with heap:=((s.heap.update a (QC λ_=>(#[]:Array Xc))).push (QX "tuple" vs.toArray 0)).push (QX "list" #[] 0) }
  (λ_ st' s'=>arrOf st'=r0.2.p.map (XF (Vz vs))∧failedOf st'=none∧s'={ s with heap:=((s.heap.update a (QC λ_=>(#[]:Array Xc))).push (QX "tuple" vs.toArray 0)).push (QX "list" #[] 0) })
  (Z1b (λi j C hi hj hC=>by
   have:=hc _ k6 i j C hi hj hC
   rw[kas_ask_eq]at this
   exact this) eo ⟨r0,rfl,rfl,rfl,rfl⟩)
 rw[←est]at run
 refine Xe (Bk run ?_ λ_ _ e=>e)
 intro r s' z
 obtain⟨har,hf,rfl⟩:=z
 have hout:(arrOf r.2).map (·.2)=JZ (tLay QH l vs):=by
  apply Array.toList_inj.mp
  rw[har,Array.map_map,Array.toList_map,←hq]
  exact X8 λi _=>by show(XF (Vz vs) i).2=_;rw[kas_item_eq]
 rw[hout]
 refine Xe (seqEpoch_at ho6 rfl ?_)
 refine Xe (listUpdate_at ho6 rfl ?_ (Q6 _) (by rw[Xx,tLay,Xf,hp,Qe];omega))
 rw[hf]
 simp only[bne_self_eq_false,Bq,if_false]
 exact X5 h
theorem Z05{κ:Bp}{lt:Nat->Nat->Bool}{l:Addr}{vs:List Xc}{p:List Nat}{Q:Xc->Xd->Prop}(hl:s.heap.IsList l vs.toArray)(h2:2≤vs.length)(hz:vs.length≤10000)(ho:Zhq lt vs.length=some p)(hp:p.length=vs.length)
  (hk:∀s':Xd,(∀b o,s.heap.get? b=some o->s'.heap.get? b=some o)->∀Q:Bp->Xd->Prop,Q κ s'->XN (X7 prog w) A.in1.in1 (keyKind' vs.toArray) Q E s')
  (hc:∀s':Xd,(∀b o,s.heap.get? b=some o->s'.heap.get? b=some o)->∀i j C,i<vs.length->j<vs.length->C (lt i j) s'->kas_ask prog w A.in1.in1 κ vs i j C s')
  (h:Q (.ref (s.heap.objs.size+1)) { s with heap:=sortedAll s.heap vs (JZ (tLay QH p vs)) }):XN (X7 prog w) A (call (.builtin "sorted") [.ref l]) Q E s:=by
 refine Calls.call_function_entry kind_sorted plain_sorted entry_sorted (args_sorted1 _) ?_
 unfold Ui.«sorted»
 refine Xe (m:=checkCount "sorted" 1 1 _) (X5 ?_)
 refine Xe (collect_list hl ?_ (by rw[Qe];omega))
 refine Xe (wpAny_newList ?_ (by rw[Qe];omega))
 have hsz:((s.heap.push (QX "list" #[] 0)).update s.heap.objs.size (QC (· ++ vs.toArray))).objs.size=s.heap.objs.size+1:=by
  rw[Heap.size_update,size_push']
 have hoL:(((s.heap.push (QX "list" #[] 0)).update s.heap.objs.size (QC (· ++ vs.toArray))).push (QX "list" vs.toArray 0)).get? (s.heap.objs.size+1)=some (QX "list" vs.toArray 0):=by
  rw[←hsz];exact Qa _ rfl
 have keep:∀b o,s.heap.get? b=some o->(((s.heap.push (QX "list" #[] 0)).update s.heap.objs.size (QC (· ++ vs.toArray))).push (QX "list" vs.toArray 0)).get? b=some o:=λb o q=>by
  have hlt:b<s.heap.objs.size:=Xz q
  rw[U5 _ _ _ (by rw[hsz];exact Xp (Nat.lt_succ_of_lt hlt)),Ug _ _ _ _ (Xp hlt),U5 _ _ _ (Xp hlt)]
  exact q
 show XN _ _ _ _ _ { s with heap:=((s.heap.push (QX "list" #[] 0)).update s.heap.objs.size (QC (· ++ vs.toArray))).push (QX "list" vs.toArray 0) }
 rw[hsz]
 refine Xe (Vw (Vs slot_list_sort ⟨_,hoL,rfl⟩ entry_list_sort (Zp6 (h0:=s.heap) hoL keep (Heap.get?_none_of_le (Nat.le_succ _)) h2 hz ho hp hk hc ⟨_,rfl,?_⟩) (args_list_sort _)))
 exact X5 ⟨_,rfl,h⟩
end
variable {G:Xb}
theorem Zq7{p:List Nat}{xs:List V}{us:List Xc}(h:Vals xs us):Vals (tLay .non p xs) (tLay .none p us):=by
 unfold tLay
 induction p with
 | nil=>exact .nil
 | cons i l ih=>
  refine .cons ?_ ih
  show RelV (xs.getD i V.non) (us.getD i QH)
  rw[Xh,Xh]
  cases e:xs[i]? with
  | some x=>
   obtain⟨u,e',r⟩:=h.get e
   rw[e'];exact r
  | none=>
   have:us[i]? =none:=Qz (by rw[←h.length];exact Qt.mp e)
   rw[this];exact rfl
theorem Das.tLay{H:Hp}{L:Addr->Prop}{p:List Nat}{xs:List V}{ds:List Xa}(h:Das G H L xs ds):Das G H L (L2.tLay .non p xs) (L2.tLay .none p ds):=by
 unfold L2.tLay
 induction p with
 | nil=>exact .nil
 | cons i l ih=>
  refine .cons ?_ ih
  show Da G H L (xs.getD i .non) (ds.getD i .none)
  rw[Xh,Xh]
  cases e:xs[i]? with
  | some x=>
   obtain⟨u,e',r⟩:=h.get' e
   rw[e'];exact r
  | none=>
   have:ds[i]? =none:=Qz (by rw[←h.length];exact Qt.mp e)
   rw[this];exact .non
noncomputable def Zol{α:Type}(kd:Xa->Option α)(lt:α->α->Bool)(K:Xb):List V->Hp->VK->Prop:=λxs H Q=>∃(a:Addr) (vs:List V) (L:Addr->Prop) (es:List Xa) (p:List Nat),xs=[.ref a]∧SqL K H a vs∧Das K H L vs es∧2≤vs.length∧vs.length≤10000∧Zhq (lk kd lt es) vs.length=some p∧p.length=vs.length∧keyed kd es∧∀l,H l=none->Q (.ref l) (upd H l (.lst (tLay .non p vs)))
section
variable {X:Cx}{α:Type}{kd:Xa->Option α}{lt:α->α->Bool}
theorem Zpv{K:Xb}(S:Z4f kd lt)(hK:X.K=K)(hu:X.A.units+64<cLine):Zcl X (.builtin "sorted") (Zol kd lt K):=by
 subst hK
 intro pins s σ H xs us Q I r h
 obtain⟨l,vs,L,es,p,rfl,hs,hd,h2,hz0,ho,hp,hk,q⟩:=h
 obtain⟨u,rfl,ru⟩:=vals1 r
 cases(show u=Q4 l from ru)
 obtain⟨its,rv,pl,hz⟩:=I.list hs
 have hl:=rv.length
 obtain⟨as,ra⟩:=hd.reads rfl I rv (Zke λd m=>by obtain⟨k,e⟩:=hk d m;exact S.lay d k e)
 obtain⟨κ,S1,S2⟩:=S.run
 obtain⟨z1,z2⟩:=readsAll_get ra
 rw[hl]at h2 hz0 ho hp
 refine Z05 (κ:=κ) (lt:=lk kd lt es) pl.isList h2 hz0 ho hp (λs' k Q q=>S1 _ _ _ _ s' _ es as Q h2 (ReadsAll.keeps k ra) hk q) (λs' k i j C hi hj hc=>?_) ?_
 ·rw[z1]at hi hj
  obtain⟨v,b1,e1,r1⟩:=z2 i _ (Xg hi)
  obtain⟨w,b2,e2,r2⟩:=z2 j _ (Xg hj)
  obtain⟨k1,q1⟩:=hk _ (QD hi)
  obtain⟨k2,q2⟩:=hk _ (QD hj)
  have ek:lk kd lt es i j=lt k1 k2:=by
   unfold lk
   rw[Xh,Xh,Xg hi,Xg hj]
   show((kd es[i]).bind λa=>(kd es[j]).map λb=>lt a b).getD false=_
   rw[q1,q2];rfl
  rw[ek]at hc
  unfold kas_ask
  rw[Xh,Xh,e1,e2]
  exact S2 _ _ _ _ s' v w _ _ _ _ k1 k2 C (show X.A.units+1+1+32<cLine by omega) (Reads.keeps k r1) (Reads.keeps k r2) q1 q2 hc
 ·obtain⟨e,he⟩:=sortedAll_at s.heap its (JZ (tLay QH p its))
  refine⟨.ref (s.heap.objs.size+1),_,I.laid (t':=s.toks) (o:=.lst (tLay .non p vs)) (λb ob q=>sortedAll_old q) (by omega) ⟨?_,tLay QH p its,e,Zq7 rv,he⟩,rfl,q _ (I.hok.fresh (by omega))⟩
  rw[tLay,Xf,hp,Qe];omega
theorem Zp2{K:Xb}(S:Z4f kd lt)(hK:X.K=K)(hu:X.A.units+64<cLine):Zcl X (.builtin "sorted") (λxs H Q=>Zpf kd lt K xs H Q∨Zol kd lt K xs H Q):=by
 intro pins s σ H xs us Q I r h
 rcases h with h|h
 ·exact Zgx S hK hu pins s σ H xs us Q I r h
 ·exact Zpv S hK hu pins s σ H xs us Q I r h
noncomputable def Zqt(kd:Xa->Option α)(lt:α->α->Bool):List Xa->(OT->Prop)->Prop:=λds k=>n1 (λd=>∃(es:List Xa) (p:List Nat),d= .list es∧2≤es.length∧es.length≤10000∧Zhq (lk kd lt es) es.length=some p∧p.length=es.length∧keyed kd es∧k (.nd ((tLay .none p es).map OT.fz))) ds
theorem Zt7:PN G (Zol kd lt G) (Zqt kd lt):=λH L xs ds k Q hx h kk=>by
 obtain⟨v,d,rfl,rfl,q,es,p,e,h2,hz,ho,hp,hk,h⟩:=hx.one h
 have fin:∀(vs:List V) (r:Addr),Das G H L vs es->H r=none->Q (.ref r) (upd H r (.lst (tLay .non p vs))):=λvs r hv hr=>kk _ _ _ [r] (Yu hr _) (Own.list hr hv.tLay) (Zhi r) (Zd6 hr) h
 subst e
 generalize ed:JW es=d at q
 cases q with
 | lst l e r=>
  cases ed
  exact⟨_,_,L,es,p,rfl,.inl e,r,by rw[r.length];exact h2,by rw[r.length];exact hz,by rw[r.length];exact ho,by rw[r.length];exact hp,hk,λp hp=>fin _ p r hp⟩
 | scr ks=>
  cases ed
  exact⟨_,_,L,_,p,rfl,ks.sq,Das.ints _,by rw[(Das.ints (G:=G) (H:=H) (L:=L) _).length];exact h2,by rw[(Das.ints (G:=G) (H:=H) (L:=L) _).length];exact hz,by rw[(Das.ints (G:=G) (H:=H) (L:=L) _).length];exact ho,by rw[(Das.ints (G:=G) (H:=H) (L:=L) _).length];exact hp,hk,λp hp=>fin _ p (Das.ints _) hp⟩
 | _=>cases ed
theorem Zwa:PN G (λxs H Q=>Zpf kd lt G xs H Q∨Zol kd lt G xs H Q) (λds k=>Zpe kd lt ds k∨Zqt kd lt ds k):=λH L xs ds k Q hx h kk=>by
 rcases h with h|h
 ·exact .inl (Zkv H L xs ds k Q hx h kk)
 ·exact .inr (Zt7 H L xs ds k Q hx h kk)
noncomputable def Zxf(kd:Xa->Option α)(lt:α->α->Bool):List Xa->Option OT:=λds=>match ds with
 | [.list es]=>(Zhq (lk kd lt es) es.length).bind λp=>if(decide (2≤es.length)&&decide (es.length≤10000)&&decide (p.length=es.length)&&es.all λd=>(kd d).isSome)=true then some (.nd ((tLay .none p es).map OT.fz))else none
 | _=>none
noncomputable def Zhm(kd:Xa->Option α)(lt:α->α->Bool):List Xa->Option OT:=λds=>match Zhj kd lt ds with|some o=>some o|none=>Zxf kd lt ds
theorem Zzu:∀ds r k,Zhm kd lt ds=some r->k r->Zpe kd lt ds k∨Zqt kd lt ds k:=λds r k h hk=>by
 unfold Zhm at h
 split at h
 ·rename_i e
  cases h
  exact .inl (Zn9 ds _ k e hk)
 ·refine .inr ?_
  unfold Zxf at h
  split at h
  case h_2=>cases h
  obtain⟨p,hp,h⟩:=BP.mp h
  split at h
  case isFalse=>cases h
  rename_i c
  rw[Xo,Xo,Xo]at c
  cases h
  exact⟨_,p,rfl,of_decide_eq_true c.1.1.1,of_decide_eq_true c.1.1.2,hp,of_decide_eq_true c.1.2,λd m=>UL.mp (Bo.mp c.2 d m),hk⟩
end
end L2
namespace L2
open PySem PySem.Spec PyProof.Rows PySem.W
structure Tot(lt:Nat->Nat->Bool)(n:Nat):Prop where
 tr:∀i j k,i<n->j<n->k<n->lt i j=true->lt j k=true->lt i k=true
 tot:∀i j,i<n->j<n->i≠j->lt i j=false->lt j i=true
 asy:∀i j,i<n->j<n->lt i j=true->lt j i=false
section
variable {lt:Nat->Nat->Bool}{n:Nat}
noncomputable abbrev gD(p:Array Nat)(i:Nat):Nat:=p.getD i 0
theorem kP.size{p:Array Nat}(h:kP n p):p.size=n:=by rw[←BR,List.Perm.length_eq h,XC]
variable (T:Tot lt n)
include T
end
end L2
namespace L2
open PySem PySem.Spec PyProof.Rows
variable {G:Xb}{X:Cx}
theorem Z47:OpR X (Bj .Is) (λx y H Q=>∃a b,x= .bl a∧y= .bl b∧Q (.bl (a==b)) H):=by
 intro pins s σ H x y v u Q I rx ry h
 obtain⟨a,b,rfl,rfl,q⟩:=h
 cases(show v=Ul a from rx)
 cases(show u=Ul b from ry)
 have:XN (X7 X.prog X.w) X.A (Bj .Is (.bool a) (.bool b)) (EP X pins σ Q) X.xe s:=X5 (Z3y I q (by cases a<;>cases b<;>rfl))
 exact this
noncomputable def Yaq:Xa->Xa->(Xa->Prop)->Prop:=λd e k=>∃a b,d= .bool a∧e= .bool b∧k (.bool (a==b))
theorem Z18:P2s G (λx y H Q=>∃a b,x= .bl a∧y= .bl b∧Q (.bl (a==b)) H) Yaq:=λH L x y d e k Q hx hy h kk=>by
 obtain⟨a,b,rfl,rfl,h⟩:=h
 cases hx
 cases hy
 exact⟨a,b,rfl,rfl,kk _ _ (.bl _) h⟩
noncomputable def Z8e:Xa->Xa->Option Xa:=λd e=>match d,e with| .bool a,.bool b=>some (.bool (a==b))|_,_=>none
theorem Z8d:ByS Z8e Yaq:=λd e r k h hk=>by
 unfold Z8e at h
 split at h
 ·cases h;exact⟨_,_,rfl,rfl,hk⟩
 ·cases h
end L2
namespace My
open PySem L2 PySem.Spec
noncomputable def Zdv:FS :=
 (Z1 (wE (Zbb (Za (Zbb Zn) Zn)) (Yt 1))
  (Z1 (Za2 (iRc (Za (Zd gSb (Ze 0) (fC (.int 1))) (Za (fC (.int 0)) (Za (fUn Zj4 (fC (.int 1))) Zn)))) (gNm 2)
  (wE (Zt Zjj (Z6 1 [2] (Zbu (Ze 1)) (gNm 0) Zak (Zt Zjj (Zbb (Za (Ze 1) Zn)) (Ze 0))) (Ze 1)) (Yt 1)))
  (wE (fBl (Zhj kdL ltI) (Za (Z6 1 [] (Zbu (Ze 1)) (gNm 0) (tV (Zd gNe (Ze 0) (Zbb Zn))) (Ze 0)) Zn)) Wa)))
noncomputable def Jx:FD:=Jy 1 3 Zdv
noncomputable def Zeo:FS :=
 (Z1 (wE (Wr Z1n (Za (Ze 0) Zn)) (Yt 2))
  (Z1 (wE (Ze 1) (Yt 3))
  (Z1 (Zkb (tV (Zd gNe (Ze 3) (fC (.int 0)))) (Z1 (wE (Zd Y5 (Ze 2) (Ze 3)) (Yt 4))
  (Z1 (wE (Ze 3) (Yt 2))
  (wE (Ze 4) (Yt 3)))))
  (wE (Zby (Za (Zd Wm (Ze 0) (Ze 2)) (Za (Zd Wm (Ze 1) (Ze 2)) Zn))) Wa))))
noncomputable def Z5:FD:=Jy 2 5 Zeo
noncomputable def J5:FS :=
 (Z1 (J0 (tO (tNo (tD (Zla "tuple" (Ze 0)))) (tV (Zd gNe (Wr Zbs (Za (Ze 0) Zn)) (fC (.int 2)))))
  (wE (fC (.bool false)) Wa)
  fNx)
  (Z1 (Za2 (iTp (Ze 0)) (gNm 1)
  (J0 (tO (tNo (tD (Zla "int" (Ze 1)))) (tD (Zla "bool" (Ze 1))))
  (wE (fC (.bool false)) Wa)
  fNx))
  (wE (Zm8 (Zd gGt (Zt gIx (Ze 0) (fC (.int 1))) (fC (.int 0))) (Zd gEq (Zu Z5 (Za (Zt gIx (Ze 0) (fC (.int 0))) (Za (Zt gIx (Ze 0) (fC (.int 1))) Zn))) (Ze 0))) Wa)))
noncomputable def Y0:FD:=Jy 1 2 J5
noncomputable def Zdu:FS :=
 (wE (Zu Z5 (Za (Zd Wx (Zd Jk (Zt gIx (Ze 0) (fC (.int 0))) (Zt gIx (Ze 1) (fC (.int 1)))) (Zd Jk (Zt gIx (Ze 1) (fC (.int 0))) (Zt gIx (Ze 0) (fC (.int 1))))) (Za (Zd Jk (Zt gIx (Ze 0) (fC (.int 1))) (Zt gIx (Ze 1) (fC (.int 1)))) Zn))) Wa)
noncomputable def Zx:FD:=Jy 2 2 Zdu
noncomputable def Zb8:FS :=
 (Z1 (wE (Zby (Za (fC (.int 0)) (Za (fC (.int 1)) Zn))) (Yt 3))
  (Z1 (wE (fC (.int 0)) (Yt 4))
  (Z1 (Za2 (iRa (Za (Ze 0) Zn)) (gNm 5)
  (Za2 (iRb (Za (Zd Wx (Ze 5) (fC (.int 1))) (Za (Ze 0) Zn))) (gNm 6)
  (Z1 (J0 (tV (Zd gNe (Zd (Ztw false) (Ze 5) (Ze 2)) (Zd (Ztw false) (Ze 6) (Ze 2))))
  (wE (Zu Zx (Za (Ze 3) (Za (Zt gIx (Ze 1) (Ze 4)) Zn))) (Yt 3))
  fNx)
  (wE (Zd Wx (Ze 4) (fC (.int 1))) (Yt 4)))))
  (wE (Ze 3) Wa))))
noncomputable def Zae:FD:=Jy 3 7 Zb8
noncomputable def Zbg:FS :=
 (Z1 (wE (Zby (Za (fC (.int 0)) (Za (fC (.int 1)) Zn))) (Yt 2))
  (Z1 (wE (fC (.int 0)) (Yt 3))
  (Z1 (Za2 (iRa (Za (Wr Zbs (Za (Ze 0) Zn)) Zn)) (gNm 4)
  (Za2 (iRb (Za (Zd Wx (Ze 4) (fC (.int 1))) (Za (Wr Zbs (Za (Ze 0) Zn)) Zn))) (gNm 5)
  (Z1 (wE (Zu Zx (Za (Ze 2) (Za (Zby (Za (Zd Jk (Zt gIx (Zt gIx (Ze 1) (Ze 3)) (fC (.int 0))) (Zt gIx (Zt gIx (Zt gIx (Ze 0) (Ze 4)) (Ze 5)) (fC (.int 0)))) (Za (Zd Jk (Zt gIx (Zt gIx (Ze 1) (Ze 3)) (fC (.int 1))) (Zt gIx (Zt gIx (Zt gIx (Ze 0) (Ze 4)) (Ze 5)) (fC (.int 1)))) Zn))) Zn))) (Yt 2))
  (wE (Zd Wx (Ze 3) (fC (.int 1))) (Yt 3)))))
  (wE (Ze 2) Wa))))
noncomputable def Wq:FD:=Jy 2 6 Zbg
noncomputable def Zdd:FS :=
 (Z1 (wE (Wr Zbs (Za (Ze 0) Zn)) (Yt 2))
  (Z1 (J0 (tO (tNo (tD (Zla "list" (Ze 1)))) (tV (Zd gNe (Wr Zbs (Za (Ze 1) Zn)) (Zd Wm (Zd Jk (Ze 2) (Zd gSb (Ze 2) (fC (.int 1)))) (fC (.int 2))))))
  (wE (fC (.bool false)) Wa)
  fNx)
  (Z1 (J0 (tO (tV (Zd gNe (Z6 1 [] (Zbu (Ze 1)) (gNm 0) (tNo (tD (Zu Y0 (Za (Ze 0) Zn)))) (Ze 0)) (Zbb Zn))) (tV (Zd gGe (Zt gIx (Zu Wq (Za (Ze 0) (Za (Ze 1) Zn))) (fC (.int 0))) (fC (.int 0)))))
  (wE (fC (.bool false)) Wa)
  fNx)
  (wE (Zd gEq (Z6 1 [2,1] (Zbu (Zu Jx (Za (Ze 2) Zn))) (gNm 0) (tV (Zd gLt (Zt gIx (Zu Zae (Za (Ze 1) (Za (Ze 2) (Za (Ze 0) Zn)))) (fC (.int 0))) (fC (.int 0)))) (Ze 0)) (Zbb Zn)) Wa))))
noncomputable def Za5:FD:=Jy 2 3 Zdd
noncomputable def Zc6:FS :=
 (Z1 (wE (Zbb Zn) (Yt 1))
  (Z1 (Za2 (iRa (Za (Ze 0) Zn)) (gNm 2)
  (wE (Zt Zjj (Ze 1) (Z6 1 [2] (iRb (Za (Zd Wx (Ze 2) (fC (.int 1))) (Za (Ze 0) Zn))) (gNm 0) Zak (Zby (Za (Ze 1) (Za (Ze 0) Zn))))) (Yt 1)))
  (wE (Ze 1) Wa)))
noncomputable def Yh:FD:=Jy 1 3 Zc6
noncomputable def Zbk:FS :=
 (wE (Z6 2 [2,1] (Zbu (Zu Yh (Za (Ze 0) Zn))) (gTp 2 (gCn (gNm 0) (gCn (gNm 1) gNl))) Zak (Zby (Za (Zd gSb (fC (.int 0)) (Zd Jk (Zd Jk (Ze 2) (Zt gIx (Ze 3) (Ze 0))) (Zt gIx (Ze 3) (Ze 1)))) (Za (fC (.int 1)) Zn)))) Wa)
noncomputable def Y8:FD:=Jy 3 3 Zbk
noncomputable def Zbm:FS :=
 (Z1 (wE (Zd Y5 (Zt gIx (Ze 1) (fC (.int 0))) (Wr Zbs (Za (Ze 0) Zn))) (Yt 2))
  (Z1 (wE (Zd Y5 (Zt gIx (Ze 1) (fC (.int 1))) (fC (.int 9))) (Yt 3))
  (Z1 (J0 (tV (Zd gLt (Ze 3) (fC (.int 3))))
  (Z1 (wE (Zt gIx (Zbb (Za (Zby (Za (fUn Zj4 (fC (.int 1))) (Za (fC (.int 1)) Zn))) (Za (Zby (Za (fUn Zj4 (fC (.int 1))) (Za (Zd Zv5 (fC (.int 10)) (fC (.int 6))) Zn))) (Za (Zby (Za (fC (.int 1)) (Za (fC (.int 2)) Zn))) Zn)))) (Ze 3)) (Yt 4))
  (wE (Zt Zjj (Zt Zjj (fSl (Ze 0) oN (oI (Ze 2))) (Zbb (Za (Zu Zx (Za (Zt gIx (Ze 0) (Ze 2)) (Za (Ze 4) Zn))) Zn))) (fSl (Ze 0) (oI (Zd Wx (Ze 2) (fC (.int 1)))) oN)) Wa))
  fNx)
  (Z1 (J0 (tV (Zd gEq (Ze 3) (fC (.int 3))))
  (wE (Z6 1 [] (Zbu (Ze 0)) (gNm 0) Zak (Zby (Za (Zd gSb (fC (.int 0)) (Zt gIx (Ze 0) (fC (.int 0)))) (Za (Zt gIx (Ze 0) (fC (.int 1))) Zn)))) Wa)
  fNx)
  (Z1 (J0 (tV (Zd gEq (Ze 3) (fC (.int 4))))
  (wE (Z6 1 [] (Zbu (Ze 0)) (gNm 0) Zak (Zu Z5 (Za (Zd Jk (Zt gIx (Ze 0) (fC (.int 0))) (fC (.int 7))) (Za (Zd Jk (Zt gIx (Ze 0) (fC (.int 1))) (fC (.int 3))) Zn)))) Wa)
  fNx)
  (Z1 (J0 (tV (Zd gEq (Ze 3) (fC (.int 5))))
  (wE (Zt Zjj (fSl (Ze 0) oN (oI (Ze 2))) (fSl (Ze 0) (oI (Zd Wx (Ze 2) (fC (.int 1)))) oN)) Wa)
  fNx)
  (Z1 (J0 (tV (Zd gEq (Ze 3) (fC (.int 6))))
  (wE (Zt Zjj (Zt Zjj (fSl (Ze 0) oN (oI (Ze 2))) (Zbb (Za (Zby (Za (Zd Y5 (Zt gIx (Ze 1) (fC (.int 2))) (fC (.int 2))) (Za (fC (.int 1)) Zn))) Zn))) (fSl (Ze 0) (oI (Ze 2)) oN)) Wa)
  fNx)
  (Z1 (J0 (tV (Zd gEq (Ze 3) (fC (.int 7))))
  (wE (Zt Zjj (fSl (Ze 0) (oI (fC (.int 1))) oN) (fSl (Ze 0) oN (oI (fC (.int 1))))) Wa)
  fNx)
  (wE (Z6 1 [] (Zbu (Ze 0)) (gNm 0) Zak (Zby (Za (fC (.int 0)) (Za (fC (.int 1)) Zn)))) Wa)))))))))
noncomputable def Jr:FD:=Jy 2 5 Zbm
noncomputable def Zd8:FS :=
 (wE (Z6 1 [] (Zbu (Ze 0)) (gNm 0) Zak (fBl Zpx (Za (Ze 0) Zn))) Wa)
noncomputable def Zay:FD:=Jy 1 1 Zd8
noncomputable def Zc0:FS :=
 (Z1 (wE (Z6 1 [0] (iRa (Za (Ze 0) Zn)) (gNm 0) Zak (Z6 1 [] (iRa (Za (Ze 1) Zn)) (gNm 0) Zak (Zby (Za (fC (.int 0)) (Za (fC (.int 1)) Zn))))) (Zc9 2))
  (Z1 (Za2 (Zbu (Ze 1)) (gTp 2 (gCn (gNm 3) (gCn (gNm 4) gNl)))
  (Za2 (Zbu (Ze 3)) (gNm 5)
  (Za2 (iRa (Za (Ze 0) Zn)) (gNm 6)
  (J0 (tV (Zd (Ztw true) (Ze 6) (Ze 3)))
  (Z1 (Zgr 2 (Zmx (Zu Zx (Za (Zt gIx (Zt gIx (Zqg 2) (Ze 5)) (Ze 6)) (Za (Ze 4) Zn)))) (Ze 5) (Ze 6))
  (Zgr 2 (Zmx (Zt gIx (Zt gIx (Zqg 2) (Ze 5)) (Ze 6))) (Ze 6) (Ze 5)))
  fNx))))
  (Zho 2)))
noncomputable def Jb:FD:=Jy 2 7 Zc0
noncomputable def Zdn:FS :=
 (Z1 (wE (Zbb (Za (fC (.int 1)) (Za (fC (.int 1)) (Za (fC (.int 1)) (Za (fUn Zj4 (fC (.int 1))) (Za (fUn Zj4 (fC (.int 1))) Zn)))))) (Yt 2))
  (Z1 (wE (Zbb Zn) (Zc9 3))
  (Z1 (Za2 (iRa (Za (fC (.int 5)) Zn)) (gNm 4)
  (J6 3 (Z6 1 [0,2,4] (iRa (Za (fC (.int 5)) Zn)) (gNm 0) Zak (Zby (Za (Zd Jk (Ze 1) (Zt gIx (Zbb (Za (Zt gIx (Zbb (Za (fC (.int 2)) (Za (fC (.int 1)) Zn))) (Wr Zm9 (Za (Zd gNe (Zt gIx (Ze 2) (Ze 3)) (Zt gIx (Ze 2) (Ze 0))) Zn))) (Za (fC (.int 0)) Zn))) (Wr Zm9 (Za (Zd gEq (Ze 3) (Ze 0)) Zn)))) (Za (fC (.int 1)) Zn))))))
  (Z1 (wE (Zu Jb (Za (fC (.int 5)) (Za (Ze 1) Zn))) (Yt 5))
  (Zdf 3 (wE (Z6 2 [] (Zdb (Za (Ze 3) (Za (Ze 5) Zn))) (gTp 2 (gCn (gNm 0) (gCn (gNm 1) gNl))) Zak (Z6 2 [] (Zdb (Za (Ze 0) (Za (Ze 1) Zn))) (gTp 2 (gCn (gNm 0) (gCn (gNm 1) gNl))) Zak (Zu Zx (Za (Ze 0) (Za (Ze 1) Zn))))) Wa))))))
noncomputable def Ju:FD:=Jy 2 6 Zdn
noncomputable def Zb4:FS :=
 (Z1 (J0 (tV (Zd gEq (Zd Y5 (Ze 1) (fC (.int 4))) (fC (.int 0))))
  (wE (Zby (Za (Zd Wx (fC (.int 1)) (Zd Y5 (Ze 0) (fC (.int 9)))) (Za (fC (.int 1)) Zn))) Wa)
  fNx)
  (Z1 (J0 (tV (Zd gEq (Zd Y5 (Ze 1) (fC (.int 4))) (fC (.int 1))))
  (wE (Zu Z5 (Za (Zd Wx (fC (.int 1)) (Zd Y5 (Ze 0) (fC (.int 12)))) (Za (Zd Wx (fC (.int 1)) (Zd Y5 (Zd Wm (Ze 0) (fC (.int 12))) (fC (.int 5)))) Zn))) Wa)
  fNx)
  (Z1 (J0 (tV (Zd gEq (Zd Y5 (Ze 1) (fC (.int 4))) (fC (.int 2))))
  (wE (Zu Z5 (Za (Zd Wx (fC (.int 1)) (Zd Y5 (Zd Jk (Ze 0) (fC (.int 641))) (fC (.int 100003)))) (Za (Zd Wx (fC (.int 1)) (Zd Y5 (Zd Wm (Ze 0) (fC (.int 3))) (fC (.int 97)))) Zn))) Wa)
  fNx)
  (wE (Zby (Za (Zd Wx (Zd Jk (Zd Wx (fC (.int 1)) (Zd Y5 (Ze 0) (fC (.int 63)))) (Zd Zv5 (fC (.int 10)) (fC (.int 30)))) (Ze 0)) (Za (fC (.int 1)) Zn))) Wa))))
noncomputable def Zad:FD:=Jy 2 2 Zb4
noncomputable def Za3:FS :=
 (Z1 (wE (Zu Jx (Za (Ze 0) Zn)) (Yt 2))
  (Z1 (wE (Zbb Zn) (Zc9 3))
  (Z1 (Za2 (iRa (Za (Wr Z1j (Za (Wr Zbs (Za (Ze 2) Zn)) (Za (fC (.int 16)) Zn))) Zn)) (gNm 4)
  (Z1 (wE (Zd Y5 (Zd Wx (Zt gIx (Ze 1) (fC (.int 0))) (Zd Jk (Ze 4) (Zd Wx (fC (.int 1)) (Zd Jk (fC (.int 2)) (Zd Y5 (Zt gIx (Ze 1) (fC (.int 1))) (fC (.int 8))))))) (Wr Zbs (Za (Ze 2) Zn))) (Yt 5))
  (J0 (tV (Zd gEq (Zd Y5 (Zt gIx (Ze 1) (Zd Wx (fC (.int 2)) (Ze 4))) (Zt gIx (Zbb (Za (fC (.int 2)) (Za (fC (.int 3)) (Za (fC (.int 5)) (Za (fC (.int 8)) Zn))))) (Zd Y5 (Zt gIx (Ze 1) (fC (.int 18))) (fC (.int 4))))) (fC (.int 0))))
  (J6 3 (Zby (Za (Zt gIx (Ze 2) (Ze 5)) (Za (Zu Zad (Za (Zd Wx (Zd Wm (Zt gIx (Ze 1) (Zd Wx (fC (.int 2)) (Ze 4))) (fC (.int 8))) (Zd Jk (fC (.int 8)) (Zt gIx (Ze 1) (fC (.int 0))))) (Za (Zt gIx (Ze 1) (fC (.int 19))) Zn))) Zn))))
  fNx)))
  (Zdf 3 (wE (fBl (Zhj kdT ltT) (Za (Z6 1 [3] (iRa (Za (Wr Zbs (Za (Ze 3) Zn)) Zn)) (gNm 0) (tV (Zd (Znb true) (Zt gIx (Zt gIx (Ze 1) (Ze 0)) (fC (.int 0))) (Z6 1 [] (Zbu (fSl (Ze 1) oN (oI (Ze 0)))) (gNm 0) Zak (Zt gIx (Ze 0) (fC (.int 0)))))) (Zt gIx (Ze 1) (Ze 0))) Zn)) Wa)))))
noncomputable def Wi:FD:=Jy 2 6 Za3
noncomputable def Zcs:FS :=
 (Z1 (wE (Z6 1 [0] (iRa (Za (Ze 0) Zn)) (gNm 0) Zak (Z6 1 [] (iRa (Za (Ze 1) Zn)) (gNm 0) Zak (Zby (Za (fC (.int 0)) (Za (fC (.int 1)) Zn))))) (Zc9 3))
  (Z1 (J0 (tAn (tV (Zd gEq (Ze 0) (fC (.int 5)))) (tV (Zd gEq (Zd Y5 (Zt gIx (Ze 2) (fC (.int 20))) (fC (.int 2))) (fC (.int 0)))))
  (wE (Zu Ju (Za (Zd Wx (fC (.int 1)) (Zd Y5 (Zt gIx (Ze 2) (fC (.int 21))) (fC (.int 40)))) (Za (Zu Wi (Za (fC (.int 5)) (Za (Ze 2) Zn))) Zn))) (Zc9 3))
  (Za2 (Zbu (Zu Yh (Za (Ze 0) Zn))) (gTp 2 (gCn (gNm 4) (gCn (gNm 5) gNl)))
  (Z1 (wE (Zd Wx (Zd Y5 (Zt gIx (Ze 2) (Zd Y5 (Zd Wx (Zd Jk (fC (.int 3)) (Ze 4)) (Ze 5)) (fC (.int 18)))) (fC (.int 7))) (Zd Jk (Zt gIx (Zbb (Za (fC (.int 0)) (Za (fC (.int 2)) (Za (fC (.int 90)) Zn)))) (Zd Y5 (Zt gIx (Ze 2) (fC (.int 21))) (fC (.int 3)))) (Wr Zm9 (Za (Zd gGt (Zd Jk (Zt gIx (Ze 1) (Ze 4)) (Zt gIx (Ze 1) (Ze 5))) (fC (.int 0))) Zn)))) (Yt 6))
  (Z1 (Zgr 3 (Zu Z5 (Za (Ze 6) (Za (Zd Wx (fC (.int 1)) (Zd Y5 (Zt gIx (Ze 2) (fC (.int 21))) (fC (.int 2)))) Zn))) (Ze 4) (Ze 5))
  (Zgr 3 (Zmx (Zt gIx (Zt gIx (Zqg 3) (Ze 4)) (Ze 5))) (Ze 5) (Ze 4))))))
  (Zho 3)))
noncomputable def Zal:FD:=Jy 3 7 Zcs
noncomputable def Zbj:FS :=
 (Z1 (wE (Zbb Zn) (Zc9 2))
  (Z1 (wE (Ze 0) (Yt 3))
  (Z1 (wE (Zd Y5 (Ze 0) (fC (.int 2147483647))) (Yt 4))
  (Z1 (Za2 (iRa (Za (Ze 1) Zn)) (gNm 5)
  (J0 (tAn (tV (Zd gGe (Ze 0) (Zd Zv5 (fC (.int 10)) (fC (.int 18))))) (tV (Zd gGt (Ze 3) (fC (.int 0)))))
  (Z1 (J6 2 (Zd Y5 (Ze 3) (fC (.int 64))))
  (wE (Zd Wm (Ze 3) (fC (.int 64))) (Yt 3)))
  (Z1 (wE (Zd Y5 (Zd Jk (Zd Wx (Zd Wx (Ze 4) (Zd Jk (fC (.int 7)) (Ze 5))) (fC (.int 3))) (fC (.int 48271))) (fC (.int 2147483647))) (Yt 4))
  (Z1 (wE (Zd Y5 (Zd Jk (Zd Y5 (Zd Jk (Ze 4) (Ze 4)) (fC (.int 2147483629))) (fC (.int 69621))) (fC (.int 2147483587))) (Yt 6))
  (J6 2 (Zd Y5 (Zd Wm (Ze 6) (fC (.int 8))) (fC (.int 720720))))))))
  (Zho 2)))))
noncomputable def Wo:FD:=Jy 2 7 Zbj
noncomputable def Zdw:FS :=
 (Z1 (wE (Z6 1 [1] (iRa (Za (Ze 0) Zn)) (gNm 0) Zak (Zt gIx (Zbb (Za (fC (.int 0)) (Za (fC (.int 1)) (Za (fUn Zj4 (fC (.int 1))) (Za (fC (.int 0)) (Za (fC (.int 2)) (Za (fUn Zj4 (fC (.int 1))) (Za (fC (.int 1)) Zn)))))))) (Zd Y5 (Zd Wm (Zt gIx (Ze 1) (Zd Y5 (Ze 0) (fC (.int 6)))) (Zd Wx (fC (.int 1)) (Zd Jk (Zd Wm (Ze 0) (fC (.int 6))) (fC (.int 7))))) (fC (.int 7))))) (Zc9 2))
  (Z1 (Zyh 2 (fC (.int 0)) (Zd Y5 (Zt gIx (Ze 1) (fC (.int 5))) (Ze 0)))
  (Z1 (Zyh 2 (Zd gSb (fC (.int 1)) (Wr Ztu (Za (Zqg 2) Zn))) (Zd Y5 (Zt gIx (Ze 1) (fC (.int 5))) (Ze 0)))
  (Zho 2))))
noncomputable def Jw:FD:=Jy 2 3 Zdw
noncomputable def Zcy:FS :=
 (Z1 (wE (Z6 1 [] (Zbu (Zu Yh (Za (Ze 0) Zn))) (gNm 0) Zak (Zby (Za (fC (.int 0)) (Za (fC (.int 1)) Zn)))) (Yt 2))
  (Z1 (Za2 (iRa (Za (Zd Wx (fC (.int 1)) (Zd Y5 (Zt gIx (Ze 1) (fC (.int 7))) (fC (.int 3)))) Zn)) (gNm 3)
  (Z1 (wE (Zu Y8 (Za (Ze 0) (Za (Zu Jw (Za (Ze 0) (Za (fSl (Ze 1) (oI (Zd Wx (fC (.int 8)) (Zd Jk (fC (.int 6)) (Ze 3)))) (oI (Zd Wx (fC (.int 14)) (Zd Jk (fC (.int 6)) (Ze 3))))) Zn))) (Za (Zd Wx (fC (.int 1)) (Zd Y5 (Zt gIx (Ze 1) (fC (.int 6))) (fC (.int 4)))) Zn)))) (Yt 4))
  (wE (Z6 2 [] (Zdb (Za (Ze 2) (Za (Ze 4) Zn))) (gTp 2 (gCn (gNm 0) (gCn (gNm 1) gNl))) Zak (Zu Zx (Za (Ze 0) (Za (Ze 1) Zn)))) (Yt 2))))
  (Z1 (J0 (tV (Zd gEq (Zd Y5 (Zt gIx (Ze 1) (fC (.int 6))) (fC (.int 5))) (fC (.int 1))))
  (Z1 (wE (Zd Y5 (Zd Wm (Zt gIx (Ze 1) (fC (.int 7))) (fC (.int 3))) (Wr Zph (Za (fC (.int 1)) (Za (Wr Zbs (Za (Ze 2) Zn)) Zn)))) (Yt 5))
  (wE (Z6 1 [2,5,1] (iRa (Za (Wr Zbs (Za (Ze 2) Zn)) Zn)) (gNm 0) Zak (Zu Zx (Za (Zt gIx (Ze 1) (Ze 0)) (Za (Zby (Za (Wr Zm9 (Za (Zd gEq (Ze 0) (Ze 2)) Zn)) (Za (Zd Wx (fC (.int 1)) (Zd Y5 (Zt gIx (Ze 3) (fC (.int 7))) (fC (.int 4)))) Zn))) Zn)))) (Yt 2)))
  fNx)
  (wE (Ze 2) Wa))))
noncomputable def W8:FD:=Jy 2 6 Zcy
noncomputable def Zds:FS :=
 (Z1 (wE (Zbb (Za (Zbb Zn) Zn)) (Yt 1))
  (Z1 (Za2 (iRb (Za (fC (.int 1)) (Za (Ze 0) Zn))) (gNm 2)
  (wE (Zt Zjj (Ze 1) (Z6 1 [2] (Zbu (Ze 1)) (gNm 0) Zak (Zt Zjj (Ze 0) (Zbb (Za (Ze 1) Zn))))) (Yt 1)))
  (wE (Z6 1 [] (Zbu (fBl (Zhm kdL ltI) (Za (Ze 1) Zn))) (gNm 0) (tV (Zd gGt (Wr Zbs (Za (Ze 0) Zn)) (fC (.int 0)))) (Ze 0)) Wa)))
noncomputable def Za1:FD:=Jy 1 3 Zds
noncomputable def Zb2:FS :=
 (wE (Wr Ztu (Za (Z6 2 [2] (Zdb (Za (Ze 0) (Za (Ze 1) Zn))) (gTp 2 (gCn (gNm 0) (gCn (gNm 1) gNl))) (tV (Zd gNe (Zt gIx (Ze 2) (Zt gIx (Ze 0) (fC (.int 0)))) (Zt gIx (Ze 2) (Zt gIx (Ze 0) (fC (.int 1)))))) (Ze 1)) Zn)) Wa)
noncomputable def Zac:FD:=Jy 3 3 Zb2
noncomputable def Zd4:FS :=
 (wE (Z6 1 [1] (iRa (Za (Ze 0) Zn)) (gNm 0) Zak (fIf (tV (Zd (Ztw false) (Ze 0) (Ze 1))) (fC (.int 1)) (fC (.int 0)))) Wa)
noncomputable def Js:FD:=Jy 2 2 Zd4
noncomputable def Zbl:FS :=
 (Z1 (wE (Zu Yl (Za (Ze 0) Zn)) (Yt 2))
  (Z1 (Za2 (Zbu (Zu Za1 (Za (Ze 0) Zn))) (gNm 3)
  (J0 (tV (Zd gLt (Zu Zac (Za (Ze 2) (Za (Ze 1) (Za (Zu Js (Za (Ze 0) (Za (Ze 3) Zn))) Zn)))) (fC (.int 0))))
  (wE (fC (.bool false)) Wa)
  fNx))
  (wE (fC (.bool true)) Wa)))
noncomputable def Y6:FD:=Jy 2 4 Zbl
noncomputable def Za0:FS :=
 (wE (Z6 2 [0] (Zbu (Zu Yl (Za (Wr Zbs (Za (Ze 0) Zn)) Zn))) (gTp 2 (gCn (gNm 0) (gCn (gNm 1) gNl))) Zak (Zt gIx (Zt gIx (Ze 2) (Ze 0)) (Ze 1))) Wa)
noncomputable def Je:FD:=Jy 1 1 Za0
noncomputable def Zbo:FS :=
 (Z1 (J0 (tO (tNo (tD (Zla "tuple" (Ze 0)))) (tV (Zd gNe (Wr Zbs (Za (Ze 0) Zn)) (fC (.int 2)))))
  (wE (fC (.bool false)) Wa)
  fNx)
  (Z1 (J0 (tO (tNo (tD (Zu Ym (Za (Zt gIx (Ze 0) (fC (.int 0))) Zn)))) (tNo (tD (Zu Ym (Za (Zt gIx (Ze 0) (fC (.int 1))) Zn)))))
  (wE (fC (.bool false)) Wa)
  fNx)
  (wE (Zm8 (Zd gGe (Zt gIx (Ze 0) (fC (.int 1))) (fC (.int 1))) (Zd gEq (Zu Yg (Za (Zt gIx (Ze 0) (fC (.int 0))) (Za (Zt gIx (Ze 0) (fC (.int 1))) Zn))) (fC (.int 1)))) Wa)))
noncomputable def Wn:FD:=Jy 1 1 Zbo
noncomputable def Zbz:FS :=
 (Z1 (J0 (tO (tNo (tD (Zla "list" (Ze 1)))) (tV (Zd gNe (Wr Zbs (Za (Ze 1) Zn)) (Wr Zbs (Za (Zu Yl (Za (Ze 0) Zn)) Zn)))))
  (wE (fC (.bool false)) Wa)
  fNx)
  (Z1 (Za2 (Zbu (Ze 1)) (gNm 2)
  (J0 (tNo (tD (Zu Wn (Za (Ze 2) Zn))))
  (wE (fC (.bool false)) Wa)
  fNx))
  (wE (fC (.bool true)) Wa)))
noncomputable def W0:FD:=Jy 2 3 Zbz
noncomputable def Zb3:FS :=
 (Z1 (wE (Wr Zbs (Za (Ze 0) Zn)) (Yt 2))
  (Z1 (J0 (tNo (tD (Zu W0 (Za (Ze 2) (Za (Ze 1) Zn)))))
  (wE (fC (.bool false)) Wa)
  fNx)
  (Z1 (wE (Zu Yq (Za (Zu Z2 (Za (Ze 1) Zn)) (Za (Ze 1) Zn))) (Yt 3))
  (Z1 (wE (Zu Je (Za (Ze 0) Zn)) (Yt 4))
  (Z1 (wE (Zu Yq (Za (Zu Z2 (Za (Ze 4) Zn)) (Za (Ze 4) Zn))) (Yt 5))
  (wE (Zm8 (Zd gLt (Wr Ztu (Za (Z6 2 [] (Zdb (Za (Ze 3) (Za (Ze 5) Zn))) (gTp 2 (gCn (gNm 0) (gCn (gNm 1) gNl))) Zak (Zd Jk (Ze 0) (Ze 1))) Zn)) (fC (.int 0))) (Zu Y6 (Za (Ze 2) (Za (Ze 3) Zn)))) Wa))))))
noncomputable def Wb:FD:=Jy 2 6 Zb3
noncomputable def Zc3:FS :=
 (Z1 (Za2 (Zdb (Za (Ze 0) (Za (fSl (Ze 0) (oI (fC (.int 1))) oN) Zn))) (gTp 2 (gCn (gNm 1) (gCn (gNm 2) gNl)))
  (J0 (tNo (tV (Zd gLt (Ze 1) (Ze 2))))
  (wE (fC (.bool false)) Wa)
  fNx))
  (wE (fC (.bool true)) Wa))
noncomputable def Zan:FD:=Jy 1 3 Zc3
noncomputable def Zfn:FS :=
 (Z1 (J0 (tO (tNo (tD (Zla "list" (Ze 1)))) (tV (Zd gEq (Wr Zbs (Za (Ze 1) Zn)) (fC (.int 0)))))
  (wE (fC (.bool false)) Wa)
  fNx)
  (Z1 (Za2 (Zbu (Ze 1)) (gNm 2)
  (J0 (tNo (tD (Zu Ym (Za (Ze 2) Zn))))
  (wE (fC (.bool false)) Wa)
  fNx))
  (wE (Zm8 (Zu Zan (Za (Ze 1) Zn)) (Zm8 (Zd gGe (Zt gIx (Ze 1) (fC (.int 0))) (fC (.int 1))) (Zd gLt (Zt gIx (Ze 1) (fUn Zj4 (fC (.int 1)))) (Ze 0)))) Wa)))
noncomputable def Zf2:FD:=Jy 2 3 Zfn
noncomputable def J1:FS :=
 (Z1 (J0 (tO (tNo (tD (Zla "tuple" (Ze 1)))) (tV (Zd gNe (Wr Zbs (Za (Ze 1) Zn)) (fC (.int 2)))))
  (wE (fC (.bool false)) Wa)
  fNx)
  (wE (Zm8 (Zu Zf2 (Za (Ze 0) (Za (Zt gIx (Ze 1) (fC (.int 0))) Zn))) (Zm8 (Zu Wn (Za (Zt gIx (Ze 1) (fC (.int 1))) Zn)) (Zd gGt (Zt gIx (Zt gIx (Ze 1) (fC (.int 1))) (fC (.int 0))) (fC (.int 0))))) Wa))
noncomputable def J2:FD:=Jy 2 2 J1
noncomputable def Zbe:FS :=
 (Z1 (J0 (tNo (tD (Zla "list" (Ze 1))))
  (wE (fC (.bool false)) Wa)
  fNx)
  (Z1 (Za2 (Zbu (Ze 1)) (gNm 2)
  (J0 (tNo (tD (Zu J2 (Za (Ze 0) (Za (Ze 2) Zn)))))
  (wE (fC (.bool false)) Wa)
  fNx))
  (wE (Zu Zan (Za (Z6 1 [] (Zbu (Ze 1)) (gNm 0) Zak (Zt gIx (Ze 0) (fC (.int 0)))) Zn)) Wa)))
noncomputable def Zbf:FD:=Jy 2 3 Zbe
noncomputable def Zcu:FS :=
 (wE (Z6 1 [0] (Zbu (Ze 1)) (gNm 0) Zak (Zu Js (Za (Ze 1) (Za (Zt gIx (Ze 0) (fC (.int 0))) Zn)))) Wa)
noncomputable def Zc7:FD:=Jy 2 2 Zcu
noncomputable def Zaj:FS :=
 (Z1 (wE (Z6 1 [0] (iRa (Za (Ze 0) Zn)) (gNm 0) Zak (Zz4 (Zby (Za (fC (.int 0)) (Za (fC (.int 1)) Zn))) (Ze 1))) (Zc9 2))
  (Z1 (Za2 (Zdb (Za (Zu Yl (Za (Ze 0) Zn)) (Za (Ze 1) Zn))) (gTp 2 (gCn (gNm 3) (gCn (gNm 4) gNl)))
  (Z1 (Zgr 2 (Ze 4) (Zt gIx (Ze 3) (fC (.int 0))) (Zt gIx (Ze 3) (fC (.int 1))))
  (Zgr 2 (Ze 4) (Zt gIx (Ze 3) (fC (.int 1))) (Zt gIx (Ze 3) (fC (.int 0))))))
  (Zho 2)))
noncomputable def Zai:FD:=Jy 2 5 Zaj
noncomputable def Zdq:FS :=
 (Z1 (wE (Z6 1 [] (Zbu (Ze 1)) (gNm 0) Zak (Zt gIx (Ze 0) (fC (.int 1)))) (Yt 2))
  (Z1 (wE (Zu Z2 (Za (Ze 2) Zn)) (Yt 3))
  (Z1 (wE (Zu Yq (Za (Ze 3) (Za (Ze 2) Zn))) (Yt 4))
  (Z1 (wE (Zu Zc7 (Za (Ze 0) (Za (Ze 1) Zn))) (Yt 5))
  (Z1 (wE (Zbb Zn) (Zc9 6))
  (Z1 (Za2 (Zbu (Zu Yl (Za (Ze 0) Zn))) (gTp 2 (gCn (gNm 7) (gCn (gNm 8) gNl)))
  (Z1 (wE (Z6 2 [7,8] (Zdb (Za (Ze 5) (Za (Ze 4) Zn))) (gTp 2 (gCn (gNm 0) (gCn (gNm 1) gNl))) (tV (Zd gNe (Zt gIx (Ze 0) (Ze 2)) (Zt gIx (Ze 0) (Ze 3)))) (Ze 1)) (Yt 9))
  (J6 6 (Zu Zdh (Za (Wr Ztu (Za (Ze 9) Zn)) (Za (Ze 3) Zn))))))
  (Zdf 6 (wE (Zu Zai (Za (Ze 0) (Za (Ze 6) Zn))) Wa))))))))
noncomputable def Zd2:FD:=Jy 2 10 Zdq
noncomputable def Zct:FS :=
 (Z1 (wE (Wr Zbs (Za (Ze 0) Zn)) (Yt 2))
  (wE (Zm8 (Zu Zbf (Za (Ze 2) (Za (Ze 1) Zn))) (Zd gEq (Zu Zd2 (Za (Ze 2) (Za (Ze 1) Zn))) (Ze 0))) Wa))
noncomputable def Zc5:FD:=Jy 2 3 Zct
noncomputable def Zhl:FS :=
 (Z1 (J0 (tO (tNo (tD (Zla "tuple" (Ze 1)))) (tV (Zd gNe (Wr Zbs (Za (Ze 1) Zn)) (fC (.int 2)))))
  (wE (fC (.bool false)) Wa)
  fNx)
  (Z1 (J0 (tV (Zd gEq (Zt gIx (Ze 1) (fC (.int 0))) (fC (.str "cuts"))))
  (wE (Zu Zc5 (Za (Ze 0) (Za (Zt gIx (Ze 1) (fC (.int 1))) Zn))) Wa)
  fNx)
  (wE (Zm8 (Zd gEq (Zt gIx (Ze 1) (fC (.int 0))) (fC (.str "bars"))) (Zu Wb (Za (Ze 0) (Za (Zt gIx (Ze 1) (fC (.int 1))) Zn)))) Wa)))
noncomputable def Zah:FD:=Jy 2 2 Zhl
noncomputable def Zj1:FS :=
 (Z1 (Za2 (iRa (Za (Wr Zph (Za (fC (.int 1)) (Za (Wr Z1j (Za (Wr Zbs (Za (Ze 0) Zn)) (Za (fC (.int 10)) Zn))) Zn))) Zn)) (gNm 1)
  (Z1 (wE (Zu Wo (Za (Zu Jt (Za (Ze 0) (Za (Ze 1) Zn))) (Za (fC (.int 58)) Zn))) (Yt 2))
  (Z1 (wE (Zd Wx (fC (.int 3)) (Zd Y5 (Zt gIx (Ze 2) (fC (.int 57))) (fC (.int 3)))) (Yt 3))
  (Z1 (J0 (tAn (tV (Zd gEq (Ze 1) (fC (.int 0)))) (tV (Zd gEq (Zd Y5 (Zd Wm (Zt gIx (Ze 2) (fC (.int 57))) (fC (.int 3))) (fC (.int 4))) (fC (.int 1)))))
  (wE (Zd Wx (fC (.int 6)) (Zd Y5 (Zd Wm (Zt gIx (Ze 2) (fC (.int 57))) (fC (.int 12))) (fC (.int 2)))) (Yt 3))
  fNx)
  (Z1 (wE (Zu Jw (Za (Ze 3) (Za (fSl (Ze 2) (oI (fC (.int 22))) (oI (fC (.int 28)))) Zn))) (Yt 4))
  (Z1 (wE (Zu Y8 (Za (Ze 3) (Za (Ze 4) (Za (fC (.int 1)) Zn)))) (Yt 5))
  (Z1 (J0 (tV (Zd gEq (Zd Y5 (Zt gIx (Ze 2) (fC (.int 28))) (fC (.int 3))) (fC (.int 0))))
  (Z1 (wE (Zt Zjj (fSl (Zbb (Za (fC (.int 1)) (Za (fC (.int 1)) (Za (fC (.int 1)) (Za (fUn Zj4 (fC (.int 1))) (Za (fUn Zj4 (fC (.int 1))) Zn)))))) (oI (Wr Zph (Za (fC (.int 0)) (Za (Zd gSb (fC (.int 5)) (Ze 3)) Zn)))) oN) (Zz4 (fC (.int 0)) (Wr Zph (Za (fC (.int 0)) (Za (Zd gSb (Ze 3) (fC (.int 5))) Zn))))) (Yt 4))
  (wE (Zu Y8 (Za (Ze 3) (Za (Ze 4) (Za (Zd Wx (fC (.int 1)) (Zd Y5 (Zt gIx (Ze 2) (fC (.int 29))) (fC (.int 3)))) Zn)))) (Yt 5)))
  fNx)
  (Z1 (J0 (tV (Zd gEq (Zd Y5 (Zt gIx (Ze 2) (fC (.int 28))) (fC (.int 3))) (fC (.int 1))))
  (wE (Zu W8 (Za (Ze 3) (Za (fSl (Ze 2) (oI (fC (.int 30))) (oI (fC (.int 56)))) Zn))) (Yt 5))
  fNx)
  (Z1 (wE (Zu Zal (Za (Ze 3) (Za (Ze 4) (Za (Ze 2) Zn)))) (Yt 6))
  (Z1 (J0 (tV (Zd gEq (Zd Y5 (Zt gIx (Ze 2) (fC (.int 56))) (fC (.int 2))) (fC (.int 1))))
  (wE (Zu Jr (Za (Ze 5) (Za (fSl (Ze 2) (oI (fC (.int 29))) (oI (fC (.int 32)))) Zn))) (Yt 5))
  fNx)
  (Z1 (wE (Zby (Za (fC (.str "bars")) (Za (fBl Zpx (Za (Ze 5) Zn)) Zn))) (Yt 7))
  (Z1 (wE (Zu Zah (Za (Zu Zay (Za (Ze 6) Zn)) (Za (Ze 7) Zn))) (Yt 8))
  (J0 (tO (tNo (tD (Zla "bool" (Ze 8)))) (tO (tV (Zd gNe (Ze 8) (Zu Za5 (Za (Ze 6) (Za (Ze 5) Zn))))) (tV (Zd gNe (Ze 7) (Zby (Za (fC (.str "bars")) (Za (Ze 5) Zn)))))))
  (wE (fC (.bool false)) Wa)
  fNx)))))))))))))
  (wE (Zd Z8e (Zu Zah (Za (Zbb (Za (Zbb (Za (Zby (Za (fC (.int 0)) (Za (fC (.int 1)) Zn))) Zn)) Zn)) (Za (Zuk (Za (fC (.str "bars")) (Za (Zbb Zn) Zn))) Zn))) (fC (.bool false))) Wa))
noncomputable def Zf6:FD:=Jy 1 9 Zj1
end My
namespace L2
open PySem PySem.Spec
noncomputable def EvP(e:FE)(δ:Zm)(Q:Xa->Zm->Prop):Prop:=∃t δ',e δ=some (t,δ')∧Q t.data δ'
noncomputable def EpT(t:FT)(δ:Zm)(Q:Bool->Zm->Prop):Prop:=∃b δ',t δ=some (b,δ')∧Q b δ'
noncomputable def EpS(S:FS)(δ:Zm)(N:Zm->Prop)(R:Xa->Zm->Prop):Prop:=(∃δ',S δ= .nx δ'∧N δ')∨∃o δ',S δ= .rt o δ'∧R o.data δ'
noncomputable def ToldI(F:FIO)(t:OT)(ds:List Xa)(Q:Xa->OT->Prop):Prop:=∃r t',F t ds=some (r,t')∧Q r.data t'
section
variable {e a b:FE}{as:FA}{δ:Zm}{Q:Xa->Zm->Prop}{QA:List Xa->Zm->Prop}{T:Bool->Zm->Prop}{t u:FT}{S S':FS}{N:Zm->Prop}{R:Xa->Zm->Prop}{i:Nat}{d:Xa}
theorem Zk6(h:EvV e δ d)(q:Q d δ):EvP e δ Q:=by
 obtain⟨t,e1,e2⟩:=h
 exact⟨t,δ,e1,e2▸q⟩
theorem EvP.mono{Q':Xa->Zm->Prop}(h:EvP e δ Q)(k:∀d δ',Q d δ'->Q' d δ'):EvP e δ Q':=by
 obtain⟨t,δ',e1,q⟩:=h
 exact⟨t,δ',e1,k _ _ q⟩
theorem Zlq{p:Bool}(h:EvT t δ p)(q:T p δ):EpT t δ T:=⟨p,δ,h,q⟩
theorem Z2m{δ':Zm}(h:S δ= .nx δ')(q:N δ'):EpS S δ N R:=.inl ⟨δ',h,q⟩
theorem Zq3(h:EpS S δ (λδ'=>EpS S' δ' N R) R):EpS (Z1 S S') δ N R:=by
 rcases h with⟨δ',e,h⟩|⟨o,δ',e,h⟩
 ·rcases h with⟨δ2,e2,q⟩|⟨o,δ2,e2,q⟩
  ·exact .inl ⟨δ2,by rw[Zja,e,Zst,e2],q⟩
  ·exact .inr ⟨o,δ2,by rw[Zja,e,Zst,e2],q⟩
 ·exact .inr ⟨o,δ',by rw[Zja,e,Zxm],h⟩
theorem Zsp(h:EvP e δ R):EpS (wE e Wa) δ N R:=by
 obtain⟨t,δ',e1,q⟩:=h
 exact .inr ⟨t,δ',by rw[Zhu,e1];rfl,q⟩
theorem Z4l(h:EpT t δ λp δ'=>(p=true->EpS S δ' N R)∧(p=false->EpS S' δ' N R)):EpS (J0 t S S') δ N R:=by
 obtain⟨p,δ',e1,q1,q2⟩:=h
 have e:J0 t S S' δ=if p=true then S δ' else S' δ':=by unfold J0;rw[e1]
 cases p with
 | true=>
  have g:=q1 rfl
  unfold EpS at g⊢
  rw[e];exact g
 | false=>
  have g:=q2 rfl
  unfold EpS at g⊢
  rw[e];exact g
theorem Z3i(q:N δ):EpS fNx δ N R:=.inl ⟨δ,rfl,q⟩
theorem EpS.mono{N':Zm->Prop}{R':Xa->Zm->Prop}(h:EpS S δ N R)(k:∀δ',N δ'->N' δ')(k2:∀d δ',R d δ'->R' d δ'):EpS S δ N' R' :=
 h.imp (λ⟨δ',e,q⟩=>⟨δ',e,k _ q⟩) λ⟨o,δ',e,q⟩=>⟨o,δ',e,k2 _ _ q⟩
theorem Zua{g:FG}(I:Nat->Zm->Prop)(ds:List Xa)(m:Nat)(h0:I m δ)(turn:∀(k:Nat) (d:Xa) (δ:Zm),ds[k]? =some d->I (m+k) δ->∃δ1,g d δ=some δ1∧EpS S δ1 (I (m+k+1)) R)(fin:∀δ',I (m+ds.length) δ'->N δ') :
  (∃ δ',forLoop g S ds δ= .nx δ'∧N δ')∨∃o δ',forLoop g S ds δ= .rt o δ'∧R o.data δ':=by
 induction ds generalizing m δ with
 | nil=>exact .inl ⟨δ,rfl,fin δ h0⟩
 | cons d ds ih=>
  obtain⟨δ1,e1,h⟩:=turn 0 d δ rfl h0
  rcases h with⟨δ2,e2,q⟩|⟨o,δ2,e2,q⟩
  ·have e:forLoop g S (d :: ds) δ=forLoop g S ds δ2:=by rw[forLoop,e1];show(match S δ1 with| .nx δ2=>_| .ct δ2=>_| .bk δ2=>_|r=>_)=_;rw[e2]
   rw[e]
   refine ih (m+1) q (λk d' δ' hk hI=>?_) λδ' hI=>fin δ' (by rw[JD];rw[show m+1+ds.length=m+(ds.length+1) by omega]at hI;exact hI)
   have:=turn (k+1) d' δ' hk (by rw[show m+(k+1)=m+1+k by omega];exact hI)
   rwa[show m+(k+1)+1=m+1+k+1 by omega]at this
  ·refine .inr ⟨o,δ2,?_,q⟩
   rw[forLoop,e1];show(match S δ1 with| .nx δ2=>_| .ct δ2=>_| .bk δ2=>_|r=>_)=_;rw[e2]
theorem Z0b{it:FI}{g:FG}{ds:List Xa}{δ0:Zm}(I:Nat->Zm->Prop)(hi:it δ=some (ds,δ0))(h0:I 0 δ0)(turn:∀(k:Nat) (d:Xa) (δ:Zm),ds[k]? =some d->I k δ->∃δ1,g d δ=some δ1∧EpS S δ1 (I (k+1)) R)(fin:∀δ',I ds.length δ'->N δ'):EpS (Za2 it g S) δ N R:=by
 have e:Za2 it g S δ=forLoop g S ds δ0:=by unfold Za2;rw[hi]
 have h:=Zua (R:=R) (N:=N) (S:=S) (g:=g) (δ:=δ0) I ds 0 h0 (λk d δ hk hI=>by rw[Uo]at hI⊢;exact turn k d δ hk hI) (λδ' hI=>by rw[Uo]at hI;exact fin δ' hI)
 unfold EpS
 rw[e];exact h
theorem ToldI.mono{F:FIO}{t0:OT}{ds:List Xa}{Q Q':Xa->OT->Prop}(h:ToldI F t0 ds Q)(k:∀d t,Q d t->Q' d t):ToldI F t0 ds Q':=by
 obtain⟨r,t',e,q⟩:=h
 exact⟨r,t',e,k _ _ q⟩
theorem Z2k{g:FG}(I:Nat->List Xa->Zm->Prop)(ds:List Xa)(m:Nat)(acc:List Xa)(h0:I m acc δ)(turn:∀(k:Nat) (d:Xa) (acc:List Xa) (δ:Zm),ds[k]? =some d->I (m+k) acc δ->∃δ1,g d δ=some δ1∧EpT t δ1 λp δ2=>(p=true->EvP e δ2 λd δ3=>I (m+k+1) (acc ++ [d]) δ3)∧(p=false->I (m+k+1) acc δ2)) :
  ∃ts δ',compLoop g t e ds δ=some (ts,δ')∧I (m+ds.length) (acc ++ ts.map OT.data) δ':=by
 induction ds generalizing m acc δ with
 | nil=>exact⟨[],δ,rfl,by rw[List.map_nil,Bb];exact h0⟩
 | cons d ds ih=>
  obtain⟨δ1,e1,p,δ2,e2,q1,q2⟩:=turn 0 d acc δ rfl h0
  have next:∀(k:Nat) (d:Xa) (acc:List Xa) (δ:Zm),ds[k]? =some d->I (m+1+k) acc δ->∃δ1,g d δ=some δ1∧EpT t δ1 λp δ2=>(p=true->EvP e δ2 λd δ3=>I (m+1+k+1) (acc ++ [d]) δ3)∧(p=false->I (m+1+k+1) acc δ2):=λk d acc δ hk hI=>by
   have:=turn (k+1) d acc δ hk (by rw[show m+(k+1)=m+1+k by omega];exact hI)
   rwa[show m+(k+1)+1=m+1+k+1 by omega]at this
  have el:m+1+ds.length=m+(ds.length+1):=by omega
  cases p with
  | true=>
   obtain⟨o,δ3,e3,hI⟩:=q1 rfl
   obtain⟨ts,δ',e4,hf⟩:=ih (m+1) (acc ++ [o.data]) hI next
   refine⟨o :: ts,δ',?_,?_⟩
   ·rw[compLoop,e1];show(t δ1).bind _=_;rw[e2];show(e δ2).bind _=_;rw[e3];show(compLoop g t e ds δ3).bind _=_;rw[e4];rfl
   ·rw[JD,←el,Qs];rw[VG]at hf;exact hf
  | false=>
   obtain⟨ts,δ',e4,hf⟩:=ih (m+1) acc (q2 rfl) next
   refine⟨ts,δ',?_,by rw[JD,←el];exact hf⟩
   rw[compLoop,e1];show(t δ1).bind _=_;rw[e2];exact e4
end
end L2
namespace My
open PySem L2 PySem.Spec
theorem Zgh(p:List Int):Sh 1 (Zj p):=Zii λd m=>by
 obtain⟨x,_,rfl⟩:=XQ.mp m
 exact Zpj x
theorem Zj8{ds:List Xa}(h:∀d∈ds,Yr d=true):Yr (.list ds)=true:=by
 rw[Yr]
 induction ds with
 | nil=>rfl
 | cons d ds ih=>rw[Zbt,h d (.head _),ih λe he=>h e (.tail _ he)];rfl
theorem Zgl(p:List Int):Yr (Zj p)=true:=Zj8 λd m=>by
 obtain⟨x,_,rfl⟩:=XQ.mp m
 rfl
theorem Zou{a b:List Int}(h:Zj a=Zj b):a=b:=by
 unfold Zj at h
 injection h with h
 exact List.map_inj_right (λx y z=>by injection z)|>.mp h
theorem Zvs(a b:List Int):gNe (Zj a) (Zj b)=some (.bool (!decide (a=b))):=by
 have s:Be (Zj a)=true:=((Zgh a).shp (by omega)).ok
 have t:Be (Zj b)=true:=((Zgh b).shp (by omega)).ok
 unfold gNe
 rw[if_pos (by rw[s,t];rfl)]
 by_cases c:a=b
 ·subst c
  rw[Zlr (Zgl a)]
  simp
 ·have:Qy (Zj a) (Zj b)=false:=by
   cases e:Qy (Zj a) (Zj b)with
   | false=>rfl
   | true=>exact absurd (Zou ((Zlf _ _ (Zgl a) (Zgl b)).mp e)) c
  rw[this,decide_eq_false c]
theorem Y4{p:List Int}{i:Int}(h0:0≤i)(h1:i<p.length):gIx (Zj p) (.int i)=some (.fz (.int (p.getD i.toNat 0))):=by
 unfold Zj
 rw[Zhn,Zpc h0 h1];rfl
noncomputable def Qb(n:Nat)(q:Rat):Prop:=Bt n q.num∧Bt n (q.den:Int)
theorem Qb.up{m n:Nat}{q:Rat}(h:Qb m q)(k:m≤n):Qb n q:=⟨h.1.mono k,h.2.mono k⟩
theorem btc{n:Nat}{m:Int}(h1:decide (-(2^n)<m)=true)(h2:decide (m<2^n)=true):Bt n m:=Bt.of_lt (of_decide_eq_true h1) (of_decide_eq_true h2)
theorem Znl{n:Nat}{t b:Int}(hb:b≠0)(ht:Bt n t)(hB:Bt n b):Qb n (QZ t b):=⟨Zxq hb ht,Zxo hb hB⟩
theorem at0{δ:Zm}{i:Nat}{q:Rat}(h:δ[i]? =some (some (.fz (frD q)))):EvV (Zt gIx (Ze i) (fC (.int 0))) δ (.int q.num):=Z8 (Zc h) Zq rfl
theorem at1{δ:Zm}{i:Nat}{q:Rat}(h:δ[i]? =some (some (.fz (frD q)))):EvV (Zt gIx (Ze i) (fC (.int 1))) δ (.int (q.den:Int)):=Z8 (Zc h) Zq rfl
theorem Zlk(q r:Rat):0<(q.den:Int)*(r.den:Int):=Int.mul_pos (Wz q) (Wz r)
theorem Qb.add{m n:Nat}{q r:Rat}(h:Qb m q)(k:Qb n r):Qb (m+n+1) (q+r):=by
 rw[←Zug]
 have h1:=k.1.mul h.2
 rw[Nat.add_comm]at h1
 exact Znl (By (Zlk q r)) (Bt.add' (h.1.mul k.2) h1) ((h.2.mul k.2).mono (by omega))
theorem Qb.mul{m n:Nat}{q r:Rat}(h:Qb m q)(k:Qb n r):Qb (m+n) (q*r):=by
 rw[←Zl8]
 exact Znl (By (Zlk q r)) (h.1.mul k.1) (h.2.mul k.2)
theorem qb0:Qb 1 0:=⟨btc (by decide) (by decide),btc (by decide) (by decide)⟩
noncomputable def Z6g(p:List Int)(lo hi:Option Int):List Int:=(p.drop (HT.sIx p.length 0 lo)).take (HT.sIx p.length p.length hi-HT.sIx p.length 0 lo)
theorem Zu3(p:List Int)(lo hi:Option Int):cutD (p.map Xk) lo hi=(Z6g p lo hi).map Xk:=by
 unfold cutD Z6g
 rw[Xf,List.map_take,List.map_drop]
theorem Z76{e:FE}{δ:Zm}{r p:List Int}{lo hi:FO}{l h:Option Int}(he:EvV e δ (Zj r))(hl:EvO lo δ l)(hh:EvO hi δ h)(hp:Z6g r l h=p):EvV (fSl e lo hi) δ (Zj p):=hp▸(Zwi (ds:=r.map Xk) he hl hh).cast (by rw[Zu3];rfl)
theorem Zqr{t u:FT}{δ:Zm}{p q:Bool}(h:EvT t δ p)(k:EvT u δ q):EvT (tAn t u) δ (p&&q):=by
 cases p with
 | true=>exact Z78 h k
 | false=>exact Zx4 h
theorem Zfo(neg:Bool)(x:Int)(p:List Int):Ztw neg (.int x) (Zj p)=some (.bool (if neg then !decide (x∈p)else decide (x∈p))):=by
 have e:memS (.int x) (p.map Xk)=decide (x∈p):=by
  unfold memS
  rw[List.any_map]
  rw[Bool.eq_iff_iff,List.any_eq_true,decide_eq_true_eq]
  constructor
  ·rintro⟨y,hy,h⟩
   have:(y==x)=true:=h
   rw[←eq_of_beq this];exact hy
  ·intro h
   exact⟨x,h,(show(x==x)=true from beq_self_eq_true x)⟩
 have s:(p.map Xk).all scD=true:=by
  rw[Bo]
  intro d hd
  obtain⟨y,_,rfl⟩:=XQ.mp hd
  rfl
 show(if(scD (.int x)&&(p.map Xk).all scD)=true then some (PyData.bool (if neg then !memS (.int x) (p.map Xk)else memS (.int x) (p.map Xk)))else none)=_
 rw[s,e];rfl
theorem pairs_len(n:Nat)(hn:n≤10):(Zz n).length≤100:=by
 have:=Ziu n n
 have e:Zlo n n=Zz n:=rfl
 rw[e]at this
 exact QM this (Nat.mul_le_mul hn hn)
theorem tw{δ:Zm}{a b:Int}:EvV (Zby (Za (fC (.int a)) (Za (fC (.int b)) Zn))) δ (.tuple [.int a,.int b]):=Jo (Zb Zq (Zb Zq Zi)) (show 2≤1000 by decide)
theorem Zve{α:Type}{δ:Zm}{it:FI}{g:FG}{me:FE}(xs:List α)(mk f:α->Xa)(hi:EvI it δ (xs.map mk))(hz:xs.length≤1000000)(h:∀x∈xs,∀z0 z1,∃w0 w1,g (mk x) [z0,z1]=some [w0,w1]∧EvV me [w0,w1] (f x)):EvV (Z6 2 [] it g Zak me) δ (.list (xs.map f)):=by
 obtain⟨ts,δ',e1,z0,z1,rfl,e2⟩:=Z2k (t:=Zak) (e:=me) (g:=g) (δ:=[none,none])
  (λk acc δ=>∃z0 z1,δ=[z0,z1]∧acc=(xs.take k).map f) (xs.map mk) 0 [] ⟨none,none,rfl,rfl⟩ (λk d acc δ hd q=>by
   obtain⟨z0,z1,rfl,rfl⟩:=q
   rw[Uo]at*
   rw[Xl]at hd
   cases e:xs[k]? with
   | none=>rw[e]at hd;cases hd
   | some p=>
    rw[e]at hd
    cases hd
    have et:xs.take (k+1)=xs.take k ++ [p]:=by rw[Us,e];rfl
    obtain⟨w0,w1,e1,e2⟩:=h p (Qc e) z0 z1
    refine⟨_,e1,Zlq rfl ⟨λ_=>Zk6 e2 ⟨_,_,rfl,?_⟩,λz=>nomatch z⟩⟩
    rw[et,QJ];rfl)
 rw[Uo,Xf,List.take_length,List.nil_append]at e2
 refine⟨.nd ts,?_,by rw[OT.data_nd,e2]⟩
 unfold EvI at hi
 unfold Z6
 rw[hi]
 show(if(xs.map mk).length≤Xq then _ else none)=_
 rw[if_pos (by rw[Xf,Qe];omega)]
 show(compLoop _ _ _ _ [none,none]).bind _=_
 rw[e1];rfl
theorem Zfa{α β:Type}(xs:List α)(ys:List β)(f:α->Xa)(g:β->Xa):Zo6 (xs.map f) (ys.map g)=(xs.zip ys).map λp=>.tuple [f p.1,g p.2]:=by
 unfold Zo6
 rw[List.zip_map,Qh];rfl
noncomputable def Znh{α:Type}(p:List α)(lo hi:Option Int):List α:=(p.drop (HT.sIx p.length 0 lo)).take (HT.sIx p.length p.length hi-HT.sIx p.length 0 lo)
theorem Zu2{α:Type}{p:List α}{lo hi:Option Int}{x:α}(h:x∈Znh p lo hi):x∈p:=List.mem_of_mem_drop (List.mem_of_mem_take h)
theorem Zly{e:FE}{δ:Zm}{r:List Rat}{lo hi:FO}{l h:Option Int}(he:EvV e δ (Yx r))(hl:EvO lo δ l)(hh:EvO hi δ h):EvV (fSl e lo hi) δ (Yx (Znh r l h)):=(Zwi (ds:=r.map frD) he hl hh).cast (by unfold Yx cutD Znh;rw[Xf,List.map_take,List.map_drop])
theorem Zj7{a b:FE}{δ:Zm}{r s:List Rat}(ha:EvV a δ (Yx r))(hb:EvV b δ (Yx s))(h:r.length+s.length≤1000):EvV (Zt Zjj a b) δ (Yx (r ++ s)):=(Zm3 (ds:=r.map frD) (es:=s.map frD) ha hb (by rw[Xf,Xf];omega)).cast (by unfold Yx;rw[QJ])
theorem Z5k{a b:FE}{δ:Zm}{r:List Rat}{i:Int}(ha:EvV a δ (Yx r))(hb:EvV b δ (.int i))(h0:0≤i)(h1:i<r.length):∃q∈r,EvV (Zt gIx a b) δ (frD q):=by
 obtain⟨k,rfl⟩:∃k:Nat,i=k:=⟨i.toNat,by omega⟩
 exact⟨r[k]'(by omega),QD _,Zw7 (ds:=r.map frD) ha hb (by rw[Zd5,Xl,Xg (by omega)];rfl)⟩
theorem Zl6{e:FE}{δ:Zm}{r:List Rat}(h:EvV e δ (Yx r)):EvV (Wr Zbs (Za e Zn)) δ (.int r.length):=(Zjd (ds:=r.map frD) h).cast (by rw[Xf])
theorem Zxt{e:FE}{δ:Zm}{q:Rat}(h:EvV e δ (frD q)):EvV (Zbb (Za e Zn)) δ (Yx [q]):=W4 (Zb h Zi) (show 1≤1000 by decide)
theorem Zz3(r:List Rat):gNe (Yx r) (.list [])=some (.bool (!decide (r=[]))):=by
 have s:Be (Yx r)=true:=((Zxa r).shp).ok
 unfold gNe
 rw[if_pos (by rw[s];rfl)]
 cases r with
 | nil=>rfl
 | cons q r=>rfl
theorem Z5f(q:Rat):frD (-q)= .tuple [.int (0-q.num),.int (q.den:Int)]:=by
 unfold frD;rw[Rat.neg_num,Rat.neg_den,Int.zero_sub];rfl
theorem Qb.neg{n:Nat}{q:Rat}(h:Qb n q):Qb n (-q):=⟨by rw[Rat.neg_num];exact h.1.neg,by rw[Rat.neg_den];exact h.2⟩
theorem Zod(xs:List Rat)(x:Rat):(xs ++ [x]).sum=xs.sum+x:=by
 induction xs with
 | nil=>show x+0=0+x;rw[Rat.add_zero,Rat.zero_add]
 | cons y ys ih=>rw[List.cons_append,U8,U8,ih,Rat.add_assoc]
noncomputable def tot(a b:List Rat):Rat:=((a.zip b).map λp=>p.1*p.2).sum
theorem members{α β:Type}{f:α->β}{L:List α}:∀{l:List β},(∀d∈l,∃p∈L,d=f p)->∃L1:List α,l=L1.map f∧(∀p∈L1,p∈L)
 | [],_=>⟨[],rfl,λ_ m=>nomatch m⟩
 | d :: l,h=>by
  obtain⟨p,hp,rfl⟩:=h d (.head _)
  obtain⟨L1,e,h1⟩:=members λd m=>h d (.tail _ m)
  exact⟨p :: L1,by rw[e];rfl,λq hq=>(Xw.mp hq).elim (λe=>e▸hp) (h1 q)⟩
theorem Ziy(L:List (List Int))(h:L.length<64):∃L1:List (List Int),Zhj kdL ltI [.list (L.map Zj)]=some (.nd ((L1.map Zj).map OT.fz))∧(∀p,p∈L1↔p∈L)∧L1.length<64:=by
 have pm:=Zis PyData.none (lk kdL ltI (L.map Zj)) (L.map Zj)
 obtain⟨L1,e,h1⟩:=members (f:=Zj) (L:=L) (l:=sLay PyData.none (lk kdL ltI (L.map Zj)) (L.map Zj)) λd m=>by
  obtain⟨p,hp,rfl⟩:=XQ.mp (pm.mem_iff.mp m)
  exact⟨p,hp,rfl⟩
 have el:=congrArg List.length e
 rw[pm.length_eq,Xf,Xf]at el
 refine⟨L1,?_,λp=>⟨h1 p,λhp=>?_⟩,by omega⟩
 ·show(if(decide ((L.map Zj).length<64)&&(L.map Zj).all λd=>(kdL d).isSome)=true then some (OT.nd ((sLay PyData.none (lk kdL ltI (L.map Zj)) (L.map Zj)).map OT.fz))else none)=_
  rw[if_pos,e]
  rw[Xo,decide_eq_true_eq,Xf,Bo]
  refine⟨h,λd m=>?_⟩
  obtain⟨p,_,rfl⟩:=XQ.mp m
  show(Zgf (p.map Xk)).isSome=true
  rw[Zea];rfl
 ·have m:Zj p∈L1.map Zj:=by rw[←e];exact pm.mem_iff.mpr (XQ.mpr ⟨p,hp,rfl⟩)
  obtain⟨q,hq,e⟩:=XQ.mp m
  rw[←Zou e];exact hq
theorem Zws{a b:FE}{δ:Zm}{p q:List Int}(ha:EvV a δ (Zj p))(hb:EvV b δ (Zj q))(h:p.length+q.length≤1000):EvV (Zt Zjj a b) δ (Zj (p ++ q)):=(Zm3 (ds:=p.map Xk) (es:=q.map Xk) ha hb (by rw[Xf,Xf];omega)).cast (by unfold Zj;rw[QJ])
noncomputable def LL(L:List (List Int)):Xa:=.list (L.map Zj)
theorem Zxp{a b:FE}{δ:Zm}{p q:List (List Int)}(ha:EvV a δ (LL p))(hb:EvV b δ (LL q))(h:p.length+q.length≤1000):EvV (Zt Zjj a b) δ (LL (p ++ q)):=(Zm3 (ds:=p.map Zj) (es:=q.map Zj) ha hb (by rw[Xf,Xf];omega)).cast (by unfold LL;rw[QJ])
theorem Zuz{np n:Nat}{S:FS}{xs:List Xa}{Q:Xa->Prop}(hl:xs.length=np)(h:EpS S (Za8 n xs) (λ_=>False) λd _=>Q d):∃d,Told (Jy np n S) xs d∧Q d:=by
 rcases h with⟨_,_,z⟩|⟨o,δ',e,h⟩
 ·exact z.elim
 ·exact⟨_,Z4 hl ⟨o,δ',e,rfl⟩,h⟩
noncomputable def pts(p:Nat×Nat)(s:List Int):Bool:=decide ((p.1:Int)∈s) !=decide ((p.2:Int)∈s)
noncomputable def pS(n:Nat)(r:List Rat)(s:List Int):Rat:=(((r.zip (Zz n)).filter λx=>pts x.2 s).map λx=>x.1).sum
theorem Zxb(x y:Bool):gNe (.bool x) (.bool y)=some (.bool (x !=y)):=by cases x<;>cases y<;>rfl
noncomputable def sdL:Nat->List (List Int)
 | 0=>[[]]
 | k+1=>sdL k ++ (sdL k).map λs=>s ++ [(k:Int)+1]
theorem Zny(k:Nat):(sdL k).length=2^k:=by
 induction k with
 | zero=>rfl
 | succ k ih=>rw[sdL,X6,Xf,ih,Nat.pow_succ];omega
theorem Z37(k:Nat):∀s∈sdL k,s.length≤k:=by
 induction k with
 | zero=>intro s hs;rw[Qj.mp hs];exact Qi _
 | succ k ih=>
  intro s hs
  rcases QV.mp hs with hs|hs
  ·have:=ih s hs;omega
  ·obtain⟨r,hr,rfl⟩:=XQ.mp hs
   have:=ih r hr
   rw[X6];exact Nat.succ_le_succ this
theorem Zzd{t:FT}{a b:FE}{δ:Zm}{d:Xa}(h:EvT t δ true)(k:EvV a δ d):EvV (fIf t a b) δ d:=by
 obtain⟨o,e1,e2⟩:=k
 exact⟨o,by unfold fIf;unfold EvT at h;rw[h];exact e1,e2⟩
theorem Zyf{t:FT}{a b:FE}{δ:Zm}{d:Xa}(h:EvT t δ false)(k:EvV b δ d):EvV (fIf t a b) δ d:=by
 obtain⟨o,e1,e2⟩:=k
 exact⟨o,by unfold fIf;unfold EvT at h;rw[h];exact e1,e2⟩
noncomputable def sd(s:List Int)(i:Nat):Int:=if(i:Int)∈s then 1 else 0
noncomputable def Zqv(n:Nat)(s:List Int):Xa:=.list ((Xn n).map λi=>.int (sd s i))
theorem Zno{n:Nat}(hn:n≤10)(s:List Int):Told Js [.int n,Zj s] (Zqv n s) :=
 Z4 rfl<|Ys<|Zcg (cs:=[some (.fz (Zj s))]) (Xn n) (λi:Nat=>Xk (0+(i:Int))) (λi=>.int (sd s i)) (Zc8 (Zb Zc Zi) (by omega)) (by rw[XC];omega) rfl λi _=>by
  have t:∀{b:Bool},decide ((i:Int)∈s)=b->EvT (tV (Zd (Ztw false) (Ze 0) (Ze 1))) [some (.fz (.int (0+(i:Int)))),some (.fz (Zj s))] b:=λhb=>hb▸Zc4 (Z0 Zc Zc (by rw[Zfo,Vb];rfl))
  unfold sd
  by_cases c:(i:Int)∈s
  ·rw[if_pos c];exact Zzd (t (decide_eq_true c)) Zq
  ·rw[if_neg c];exact Zyf (t (decide_eq_false c)) Zq
theorem Z25(p:Nat×Nat)(s:List Int):(!decide (sd s p.1=sd s p.2))=pts p s:=by
 unfold sd pts
 by_cases a:(p.1:Int)∈s<;>by_cases b:(p.2:Int)∈s<;>simp[a,b]
theorem Zh5{α:Type}{δ cs:Zm}{caps:List Nat}{it:FI}{g:FG}{t:FT}{me:FE}(xs:List α)(mk f:α->Xa)(pr:α->Bool)(hi:EvI it δ (xs.map mk))(hz:xs.length≤1000000)(hb:blk 2 caps δ=none :: none :: cs)(h:∀x∈xs,∀z0 z1,∃w0 w1,g (mk x) (z0 :: z1 :: cs)=some (w0 :: w1 :: cs)∧EvT t (w0 :: w1 :: cs) (pr x)∧EvV me (w0 :: w1 :: cs) (f x)):EvV (Z6 2 caps it g t me) δ (.list ((xs.filter pr).map f)):=by
 obtain⟨ts,δ',e1,z0,z1,rfl,e2⟩:=Z2k (t:=t) (e:=me) (g:=g) (δ:=none :: none :: cs)
  (λk acc δ=>∃z0 z1,δ=z0 :: z1 :: cs∧acc=((xs.take k).filter pr).map f) (xs.map mk) 0 [] ⟨none,none,rfl,rfl⟩ (λk d acc δ hd q=>by
   obtain⟨z0,z1,rfl,rfl⟩:=q
   rw[Uo]at*
   rw[Xl]at hd
   cases e:xs[k]? with
   | none=>rw[e]at hd;cases hd
   | some p=>
    rw[e]at hd
    cases hd
    have et:xs.take (k+1)=xs.take k ++ [p]:=by rw[Us,e];rfl
    obtain⟨w0,w1,e1,e2,e3⟩:=h p (Qc e) z0 z1
    refine⟨_,e1,Zlq e2 ⟨λc=>Zk6 e3 ⟨_,_,rfl,?_⟩,λc=>⟨_,_,rfl,?_⟩⟩⟩
    ·rw[et,List.filter_append,List.filter_cons_of_pos c,List.filter_nil,QJ];rfl
    ·rw[et,List.filter_append,List.filter_cons_of_neg (by rw[c];decide),List.filter_nil,Bb])
 rw[Uo,Xf,List.take_length,List.nil_append]at e2
 refine⟨.nd ts,?_,by rw[OT.data_nd,e2]⟩
 unfold EvI at hi
 unfold Z6
 rw[hi]
 show(if(xs.map mk).length≤Xq then _ else none)=_
 rw[if_pos (by rw[Xf,Qe];omega),hb,e1];rfl
theorem Zie(es:List Int):Ztu [Zj es]=some (.int es.sum):=by
 show(Zgf (es.map Xk)).bind _=_
 rw[Zea];rfl
noncomputable def pI(n:Nat)(ts:List Int)(s:List Int):Int:=((((Zz n).zip ts).filter λx=>pts x.1 s).map λx=>x.2).sum
theorem Zrv{n:Nat}(hn:n≤10)(ts s:List Int):Told Zac [.list ((Zz n).map ptD),Zj ts,Zqv n s] (.int (pI n ts s)):=by
 have lp:=pairs_len n hn
 refine Z4 rfl<|Ys<|Jf (Zb (EvV.cast (Zh5 (cs:=[some (.fz (Zqv n s))]) ((Zz n).zip ts) (λx=>.tuple [ptD x.1,.int x.2]) (λx=>.int x.2) (λx=>pts x.1 s) (Ziz Zc Zc (Zfa _ _ _ _)) (by rw[Q7];omega) rfl λx hx z0 z1=>?_) (y:=Zj ((((Zz n).zip ts).filter λx=>pts x.1 s).map λx=>x.2)) ?_) Zi) (Zie _)
 ·obtain⟨m1,_⟩:=Bv hx
  obtain⟨a1,a2⟩:=J8 m1
  have at':∀{c:Nat},c<n->gIx (Zqv n s) (.int (c:Int))=some (.fz (.int (sd s c))):=λhc=>by
   unfold Zqv
   rw[Zhn,Zd5,Xl,Qp hc];rfl
  exact⟨_,_,rfl,Zc4 (Zkk (Z8 (d:=.int (sd s x.1.1)) Zc (Z8 (d:=.int (x.1.1:Int)) (Zc (d:=ptD x.1)) Zq rfl) (at' (by omega))) (Z8 (d:=.int (sd s x.1.2)) Zc (Z8 (d:=.int (x.1.2:Int)) (Zc (d:=ptD x.1)) Zq rfl) (at' a2)) (Z25 x.1 s)),Zc⟩
 ·unfold Zj;rw[Qh];rfl
theorem Zl3{n:Nat}:∀(r:List Rat),(∀q∈r,Qb n q)->∃B:Int,0<B∧Bt (r.length*n+1) B∧∀q∈r,(q.den:Int)∣B
 | [],_=>⟨1,by decide,by rw[List.length_nil,Nat.zero_mul];exact btc (by decide) (by decide),λ_ m=>nomatch m⟩
 | q :: r,h=>by
  obtain⟨B,h0,h1,h2⟩:=Zl3 r λp hp=>h p (.tail _ hp)
  refine⟨(q.den:Int)*B,Int.mul_pos (Wz q) h0,?_,λp hp=>?_⟩
  ·rw[JD,Uq]
   exact((h q (.head _)).2.mul h1).mono (by omega)
  ·rcases Xw.mp hp with rfl|hp
   ·exact Int.dvd_mul_right ..
   ·exact Int.dvd_trans (h2 p hp) (Int.dvd_mul_left ..)
theorem Zw5{n N:Nat}{m:Int}{q:Rat}(h:Qb n q)(hm:Bt N m):Bt (n+N) (scI m q):=h.1.mul (hm.of_le (Bw _ _))
theorem Ztn{n:Nat}{r:List Rat}(hr:∀q∈r,Qb n q)(hN:r.length*n+1+n≤9000)(lr:r.length≤1000):∃m,Told Z2 [Yx r] (.int m)∧0<m∧Bt (r.length*n+1) m∧(∀q∈r,(q.den:Int)∣m)∧Told Yq [.int m,Yx r] (Zj (r.map (scI m))):=by
 obtain⟨B,B0,bB,hB⟩:=Zl3 r hr
 obtain⟨m,eB,m0,m1,m2⟩:=Zhr B0 bB (by omega) (r.map λq=>(q.num,(q.den:Int))) λp hp=>by
  obtain⟨q,hq,rfl⟩:=XQ.mp hp
  exact⟨Wz q,hB q hq⟩
 have bm:=Zl2 B0 m2 bB
 have dm:∀q∈r,(q.den:Int)∣m:=λq hq=>m1 (q.num,(q.den:Int)) (XQ.mpr ⟨q,hq,rfl⟩)
 rw[←Zxw]at eB
 have eT:=Zm7 (n:=r.length*n+1+n) m0 (bm.mono (by omega)) r lr (λq hq=>⟨dm q hq,(hr q hq).1.mono (by omega)⟩) hN
 refine⟨m,eB,m0,bm,dm,?_⟩
 unfold Zj;rw[Qh];exact eT
theorem Zy3{m:Int}(h:0<m):(0:Rat)<(m:Rat):=Rat.intCast_pos.mpr h
theorem Zw9{m m':Int}:∀(r d:List Rat),(∀q∈r,(q.den:Int)∣m)->(∀q∈d,(q.den:Int)∣m')->(((((r.map (scI m)).zip (d.map (scI m'))).map λp=>p.1*p.2).sum:Int):Rat)=tot r d*((m*m':Int):Rat)
 | [],_,_,_=>by show((0:Int):Rat)=0*_;rw[Um];rfl
 | q :: r,[],_,_=>by show((0:Int):Rat)=0*_;rw[Um];rfl
 | q :: r,e :: d,h,k=>by
  have ih:=Zw9 r d (λp hp=>h p (.tail _ hp)) λp hp=>k p (.tail _ hp)
  show((scI m q*scI m' e+(((r.map (scI m)).zip (d.map (scI m'))).map λp=>p.1*p.2).sum:Int):Rat)=(q*e+tot r d)*_
  rw[Rat.intCast_add,ih,Rat.add_mul,Rat.intCast_mul,Zoo (h q (.head _)),Zoo (k e (.head _)),Rat.intCast_mul]
  congr 1
  rw[Rat.mul_assoc,Rat.mul_assoc,←Rat.mul_assoc (m:Rat),Rat.mul_comm (m:Rat) e,Rat.mul_assoc]
theorem Zjo(q:Rat):Told Wn [frD q] (.bool true):=by
 have g1:(JG q.num (q.den:Int):Int)=1:=by
  rw[Vd,Vv]
  exact congrArg Int.ofNat q.reduced
 have w:∀{δ:Zm} {k i:Int},EvV (Zt gIx (Ze 0) (fC (.int k))) δ (.int i)->EvT (tNo (tD (Zu Ym (Za (Zt gIx (Ze 0) (fC (.int k))) Zn)))) δ false:=λh=>Zi8 (p:=true) (Zhs (Zr (Zb h Zi) (.of (Zml _) (OT.data_fz _))))
 exact Z4 rfl<|Z3 (Yd (Zts (Zi8 (p:=true) (Zhs (Zhd Zc rfl))) (Zc4 (Zkk (Jf (Zb (Zc (d:=frD q)) Zi) (Zr0 [.int q.num,.int (q.den:Int)])) Zq rfl))) rfl)<|
  Z3 (Yd (Zts (w (at0 rfl)) (w (at1 rfl))) rfl)<|Ys (Zh9 (Zzq (at1 rfl) Zq (decide_eq_true (Wz q))) (Zfx (Zr (Zb (at0 rfl) (Zb (at1 rfl) Zi)) (.of (Za7 _ _) (OT.data_fz _))) Zq (by rw[g1];rfl)))
theorem Zqk{n:Nat}(hn:n≤10)(r:List Rat):Told W0 [.int n,Yx r] (.bool (decide (r.length=(Zz n).length))):=by
 have t:EvT (tO (tNo (tD (Zla "list" (Ze 1)))) (tV (Zd gNe (Wr Zbs (Za (Ze 1) Zn)) (Wr Zbs (Za (Zu Yl (Za (Ze 0) Zn)) Zn))))) [some (.fz (.int n)),some (.fz (Yx r)),none] (!decide (r.length=(Zz n).length)):=Zts (Zi8 (p:=true) (Zhs (Zhd Zc rfl))) (Zc4 (Zkk (Zl6 Zc) (Zjd (Zr (Zb Zc Zi) (Ze4 n (by omega)))) (by rw[Xf];exact congrArg Bool.not (decide_eq_decide.mpr (by omega)))))
 by_cases c:r.length=(Zz n).length
 ·rw[decide_eq_true c]at t⊢
  refine Z4 rfl<|Z3 (Yd t rfl)<|Zi3 (ds:=r.map frD) (λ_ δ=>∃z,δ=[some (.fz (.int n)),some (.fz (Yx r)),z]) (W6 Zc) ⟨_,rfl⟩ (λk d δ hd q=>?_) λδ' q=>?_
  ·obtain⟨z,rfl⟩:=q
   obtain⟨q,_,rfl⟩:=XQ.mp (Qc hd)
   exact⟨_,_,rfl,.inl (Yd (Zi8 (p:=true) (Zhs (Zr (Zb Zc Zi) (Zjo q)))) rfl),_,rfl⟩
  ·obtain⟨z,rfl⟩:=q
   exact Ys Zq
 ·rw[decide_eq_false c]at t⊢
  exact Z4 rfl<|Zar (Zcp t (Ys Zq))
noncomputable def W5(n:Nat)(f:Nat->Nat->Xa):Xa:=.list ((Xn n).map λi=>.list ((Xn n).map λj=>f i j))
noncomputable def frG(T:Nat->Nat->Rat):Nat->Nat->Xa:=λi j=>frD (T i j)
noncomputable def dOf(n:Nat)(T:Nat->Nat->Rat):List Rat:=(Zz n).map λp=>T p.1 p.2
theorem Zi0{n:Nat}{f:Nat->Nat->Xa}{δ:Zm}(h:δ[0]? =some (some (.fz (W5 n f)))):EvV (Wr Zbs (Za (Ze 0) Zn)) δ (.int n):=(Zjd (ds:=(Xn n).map λi=>.list ((Xn n).map λj=>f i j)) (Zc h)).cast (by rw[Xf,XC])
theorem Zmw{n:Nat}(hn:n≤10)(T:Nat->Nat->Rat):Told Je [W5 n (frG T)] (Yx (dOf n T)):=by
 have lp:=pairs_len n hn
 refine Z4 rfl<|Ys<|EvV.cast (Zh5 (cs:=[some (.fz (W5 n (frG T)))]) (Zz n) ptD (λp=>frD (T p.1 p.2)) (λ_=>true) (W6 (Zr (Zb (Zi0 rfl) Zi) (Ze4 n (by omega)))) (by omega) rfl λp hp z0 z1=>?_) ?_
 ·obtain⟨a1,a2⟩:=J8 hp
  refine⟨_,_,rfl,rfl,Z8 (Z8 (Zc (d:=W5 n (frG T))) (Zc (d:=.int (p.1:Int))) (d:=.list ((Xn n).map λj=>frG T p.1 j)) ?_) (Zc (d:=.int (p.2:Int))) ?_⟩
  ·unfold W5
   rw[Zhn,Zd5,Xl,Qp (by omega)];rfl
  ·rw[Zhn,Zd5,Xl,Qp (by omega)];rfl
 ·rw[List.filter_eq_self.mpr λ_ _=>rfl]
  unfold Yx dOf;rw[Qh];rfl
theorem Z41(q r:Rat):gEq (frD q) (frD r)=some (.bool (decide (q=r))):=by
 have s:∀q,Be (frD q)=true:=λq=>((Z1s q).shp).ok
 unfold gEq
 rw[if_pos (by rw[s,s];rfl),Z3b]
noncomputable def Wy(n:Nat)(f:Nat->Nat->Xa):OT:=.nd ((Xn n).map λi=>.nd ((Xn n).map λj=>.fz (f i j)))
theorem Zf7(n:Nat)(f:Nat->Nat->Xa):(Wy n f).data=W5 n f:=by
 unfold Wy W5
 rw[OT.data_nd,Qh]
 refine congrArg JW (X8 λi _=>?_)
 show(OT.nd _).data=_
 rw[OT.data_nd,Qh]
 exact congrArg JW (X8 λj _=>OT.data_fz _)
theorem Zvn{n:Nat}{f g:Nat->Nat->Xa}(h:∀i j,i<n->j<n->f i j=g i j):Wy n f=Wy n g:=by
 unfold Wy
 refine congrArg OT.nd (X8 λi hi=>congrArg OT.nd (X8 λj hj=>congrArg OT.fz (h i j (QB.mp hi) (QB.mp hj))))
noncomputable def upG(f:Nat->Nat->Xa)(a b:Nat)(d:Xa):Nat->Nat->Xa:=λi j=>if i=a∧j=b then d else f i j
theorem Zm4{α:Type}{n a:Nat}(f:Nat->α)(x:α):((Xn n).map f).set a x=(Xn n).map λi=>if i=a then x else f i:=by
 refine U4 λi=>?_
 rw[List.getElem?_set,Xf,XC,Xl,Xl]
 by_cases h:a=i
 ·subst h
  by_cases c:a<n
  ·rw[if_pos rfl,if_pos c,Qp c];simp
  ·rw[if_pos rfl,if_neg c,Qz (by simp;omega)];rfl
 ·rw[if_neg h]
  by_cases c:i<n
  ·rw[Qp c];simp[Vc h]
  ·rw[Qz (by simp;omega)];rfl
theorem Zma{i n:Nat}{e j j2:FE}{δ:Zm}{d:Xa}{f:Nat->Nat->Xa}{a b:Nat}(he:EvV e δ d)(hi:δ[i]? =some (some (Wy n f)))(hj:EvV j δ (.int a))(ha:a<n)(hk:EvV j2 δ (.int b))(hb:b<n) :
  Zgr i e j j2 δ= .nx (δ.set i (some (Wy n (upG f a b d)))):=by
 obtain⟨_,e2,d2⟩:=he
 obtain⟨_,e3,d3⟩:=hj
 obtain⟨_,e4,d4⟩:=hk
 unfold Zgr Wy at*
 rw[Zhu,e2,W9,hi]
 dsimp only
 rw[Zhu,e3,W9,d3]
 dsimp only
 rw[Zw1 (by rw[Xf,XC];exact ha)]
 dsimp only
 rw[Xl,Qp ha,XX]
 dsimp only
 rw[Zhu,e4,W9,d4]
 dsimp only
 rw[Zw1 (by rw[Xf,XC];exact hb)]
 dsimp only
 rw[d2,Zm4,Zm4]
 refine congrArg RS.nx (congrArg (δ.set i) (congrArg some (congrArg OT.nd (X8 λk _=>?_))))
 by_cases c:k=a
 ·subst c
  rw[if_pos rfl]
  refine congrArg OT.nd (X8 λl _=>?_)
  unfold upG
  by_cases c2:l=b
  ·rw[if_pos c2,if_pos ⟨rfl,c2⟩]
  ·rw[if_neg c2,if_neg λz=>c2 z.2]
 ·rw[if_neg c]
  refine congrArg OT.nd (X8 λl _=>?_)
  unfold upG
  rw[if_neg λz=>c z.1]
theorem Zqy(n:Nat)(T:Nat->Nat->Rat):W5 n (frG T)=tbD ((Xn n).map λi=>(Xn n).map λj=>T i j):=by
 unfold tbD W5
 rw[Qh]
 refine congrArg JW (X8 λi _=>?_)
 show _=Yx _
 unfold Yx
 rw[Qh];rfl
theorem Zs0(r:List Rat):Yr (Yx r)=true:=Zj8 λd m=>by
 obtain⟨q,_,rfl⟩:=XQ.mp m
 rfl
noncomputable def ctD(p:List Int×Rat):Xa:=.tuple [Zj p.1,frD p.2]
noncomputable def Zfb(L:List (List Int×Rat)):Xa:=.list (L.map ctD)
theorem Z1x(p:List Int×Rat):kdT (ctD p)=some (p.1,[p.2.num,(p.2.den:Int)]):=by
 show((Zgf (p.1.map Xk)).bind λns=>(Zgf [.int p.2.num,.int (p.2.den:Int)]).bind λms=>some (ns,ms))=_
 rw[Zea];rfl
noncomputable def sCt(L:List (List Int×Rat)):List (List Int×Rat):=sLay ([],0) (lk kdT ltT (L.map ctD)) L
theorem Z0g{α:Type}(d d':α)(lt:Nat->Nat->Bool)(vs:List α):sLay d lt vs=sLay d' lt vs:=by
 unfold sLay
 split
 ·rfl
 ·refine X8 λi hi=>?_
  have:=QB.mp ((Zi9 (by omega)).mem_iff.mp hi)
  rw[Xh,Xh,Xg this];rfl
theorem Z0a{e:FE}{δ:Zm}{L:List (List Int×Rat)}(he:EvV e δ (Zfb L))(h:L.length<64):EvV (fBl (Zhj kdT ltT) (Za e Zn)) δ (Zfb (sCt L)):=by
 refine Zto (Zb he Zi) (o:=.nd (((sCt L).map ctD).map OT.fz)) ?_ (by rw[OT.data_nd,OT.map_fz];rfl)
 unfold sCt
 rw[←Zvw,Z0g (ctD ([],0)) PyData.none]
 refine if_pos ?_
 rw[Xo,decide_eq_true_eq,Xf,Bo]
 refine⟨h,λd m=>?_⟩
 obtain⟨p,_,rfl⟩:=XQ.mp m
 rw[Z1x];rfl
theorem Zzo{d:Xa}{n:Nat}(h:Sh n d)(hn:n≤64)(hp:Yr d=true):gEq d d=some (.bool true)∧gNe d d=some (.bool false):=by
 have s:=(h.shp hn).ok
 unfold gEq gNe
 rw[if_pos (by rw[s];rfl),if_pos (by rw[s];rfl),Zlr hp]
 exact⟨rfl,rfl⟩
theorem Zob{w:Str}(h:V8 w=true):Sh 0 (.str w):=⟨by rw[JX];exact h,Nat.le_of_eq rfl⟩
theorem Zfg(w:Str):Yr (.str w)=true:=by rw[Yr]
theorem Zvf{w:Str}(h:V8 w=true):gNe (.str w) (.str w)=some (.bool false)∧gEq (.str w) (.str w)=some (.bool true):=by
 have:=Zzo (Zob h) (by decide) (Zfg w)
 exact⟨this.2,this.1⟩
theorem Z1v{a b:Str}(ha:V8 a=true)(hb:V8 b=true)(h:a≠b):gNe (.str a) (.str b)=some (.bool true)∧gEq (.str a) (.str b)=some (.bool false):=by
 have s1:=((Zob ha).shp (by decide)).ok
 have s2:=((Zob hb).shp (by decide)).ok
 unfold gNe gEq
 rw[if_pos (by rw[s1,s2];rfl),if_pos (by rw[s1,s2];rfl),Zrd (Zfg a) (Zfg b) λz=>h (Xa.str.inj z)]
 exact⟨rfl,rfl⟩
noncomputable def Qv(b:Int)(n:Nat)(q:Rat):Prop:=∃x,q=QZ x b∧Bt n x
theorem Qv.up{b:Int}{m n:Nat}{q:Rat}(h:Qv b m q)(k:m≤n):Qv b n q:=by
 obtain⟨x,e,bx⟩:=h
 exact⟨x,e,bx.mono k⟩
theorem Z0s{x y b:Int}:QZ x b+QZ y b=QZ (x+y) b:=by
 rw[VH,VH,VH,Rat.div_def,Rat.div_def,Rat.div_def,Rat.intCast_add,Rat.add_mul]
theorem Qv.add{b:Int}{n:Nat}{q r:Rat}(h:Qv b n q)(k:Qv b n r):Qv b (n+1) (q+r):=by
 obtain⟨x,rfl,bx⟩:=h
 obtain⟨y,rfl,b2⟩:=k
 exact⟨x+y,Z0s,bx.add' b2⟩
theorem Qv.zero(b:Int)(n:Nat):Qv b (n+1) 0:=⟨0,(Rat.zero_divInt b).symm,(btc (n:=1) (by decide) (by decide)).mono (by omega)⟩
structure Bot(b:Int):Prop where
 lo:1≤b
 hi:b≤1000000000
theorem Sh.up{m n:Nat}{d:Xa}(h:Sh m d)(k:m≤n):Sh n d:=⟨h.1,QM h.2 k⟩
theorem Z45{δ:Zm}{i n:Nat}{e j:FE}{ts:List OT}{d:Xa}{k:Int}(h:EvV e δ d)(hi:δ[i]? =some (some (.nd ts)))(hj:EvV j δ (.int k))(hx:ixN ts.length k=some n):Zyh i e j δ= .nx (δ.set i (some (.nd (ts.set n (.fz d))))):=by
 obtain⟨t,e1,e2⟩:=h
 obtain⟨u,e3,e4⟩:=hj
 rw[Z0e,e1,W9,hi]
 show onO (j δ) _=_
 rw[e3,W9,e4]
 show onX (ixN ts.length k) _=_
 rw[hx,e2];rfl
theorem Zat{n:Nat}{t b:Int}(hb:0<b)(hB:Bt n b)(hn:n≤9000:=by decide):Told Z5 [.int t,.int b] (frD (QZ t b)):=by
 obtain⟨z',e⟩:=Zks (f1:=λx y z=>[some (.fz (.int t)),some (.fz (.int b)),some (.fz (.int x)),some (.fz (.int y)),z]) (f2:=λx y z=>[]) (t:=tV (Zd gNe (Ze 3) (fC (.int 0)))) (u:=Z1 (wE (Zd Y5 (Ze 2) (Ze 3)) (Yt 4)) (Z1 (wE (Ze 3) (Yt 2)) (wE (Ze 4) (Yt 3)))) (λx y z=>Zc4 (Zkk Zc Zq rfl)) (λx y z hy=>⟨_,J4 (Zy (Yb Zc Zc hy)) (J4 (Zy Zc) (Zy Zc))⟩) (b.toNat+1) (t.natAbs:Int) b none (by omega) (by omega) (by omega)
 have eg:(JG (t.natAbs:Int) b:Int)=shr t b:=by
  unfold shr
  rw[if_neg (by omega),Vd,Vd,Vv]
 obtain⟨e1,e2⟩:=Z8p (t:=t) (b:=b) (by omega) hB hn _ eg
 exact Z4 rfl<|Z3 (Zy (Jf (Zb Zc Zi) (Zrn t)))<|Z3 (Zy Zc)<|Z3 (Zm6 _ e (by intro z;cases z)) (Ys (Jo (Zb (Z0 Zc Zc e1) (Zb (Z0 Zc Zc e2) Zi)) (show 2≤1000 by decide)))
theorem Zu4{m n:Nat}{q:Rat}{t b:Int}(h:Qb m q)(ht:Bt n t)(hb:0<b)(hB:Bt n b)(hmn:m+n≤9000):Told Zx [frD q,.tuple [.int t,.int b]] (frD (q+QZ t b)):=by
 have e:q+QZ t b=QZ (q.num*b+t*(q.den:Int)) ((q.den:Int)*b):=by
  conv=>lhs;rw[←Ux q]
  rw[Rat.divInt_add_divInt _ _ (By (Wz q)) (By hb)]
 rw[e]
 exact Z4 rfl<|Ys<|Zr (Zb (Yn (Z0 (at0 rfl) (Z8 (Zc (i:=1) rfl) (Zq (d:=.int 1)) rfl) (Zer (Zdp h.1 hB (by omega)))) (Z0 (Z8 (Zc (i:=1) rfl) (Zq (d:=.int 0)) rfl) (at1 rfl) (Zer (Zdp ht h.2 (by omega))))) (Zb (Z0 (at1 rfl) (Z8 (Zc (i:=1) rfl) (Zq (d:=.int 1)) rfl) (Zer (Zdp h.2 hB (by omega)))) Zi)) (Zat (Int.mul_pos (Wz q) hb) (h.2.mul hB) hmn)
theorem Zli{m n:Nat}{q r:Rat}(h:Qb m q)(k:Qb n r)(hmn:m+n≤9000):Told Zx [frD q,frD r] (frD (q+r)):=by
 have:=Zu4 h k.1 (Wz r) k.2 hmn
 rw[Ux]at this
 exact this
noncomputable def Sm(v:Int):Prop:=0≤v∧v<720720
theorem Znt(c:Int)(m:Nat)(hm:m≤1000):∃vs:List Int,Told Wo [.int c,.int m] (Zj vs)∧vs.length=m∧∀v∈vs,Sm v:=by
 have key:∃d,Told Wo [.int c,.int m] d∧∃vs,d=Zj vs∧vs.length=m∧∀v∈vs,Sm v:=by
  refine Znm rfl<|Ws Zo3<|Ws (Zy Zc)<|Ws (Zy (Yb Zc Zq (by decide)))<|Zj9 (ds:=Zgg 0 m) (λi δ=>∃(vs:List Int) (x s:Int) (z1 z2:Option OT),δ=[some (.fz (.int c)),some (.fz (.int m)),some (.nd (vs.map λv=>.fz (.int v))),some (.fz (.int x)),some (.fz (.int s)),z1,z2]∧vs.length=i∧∀v∈vs,Sm v)
   (Zc8 (Zb Zc Zi) (by omega)) ⟨[],c,_,none,none,rfl,rfl,λ_ m=>nomatch m⟩ (λi d δ hd q=>?_) λδ' q=>?_
  ·obtain⟨vs,x,s,z1,z2,rfl,hl,hv⟩:=q
   obtain⟨hi,rfl⟩:=W3 hd
   have snoc:∀w:Int,Sm w->∀v∈vs ++ [w],Sm v:=λw hw v hv'=>by
    rcases QV.mp hv' with h|h
    ·exact hv v h
    ·rw[Qj.mp h];exact hw
   have ta:=Zc4 (Zzq (δ:=[some (.fz (.int c)),some (.fz (.int m)),some (.nd (vs.map λv=>.fz (.int v))),some (.fz (.int x)),some (.fz (.int s)),some (.fz (.int (0+(i:Int)))),z2]) (Zc (i:=0) rfl) (Z0 (Zq (d:=.int 10)) (Zq (d:=.int 18)) Yc9) rfl)
   have tb:=Zc4 (Zv6 (δ:=[some (.fz (.int c)),some (.fz (.int m)),some (.nd (vs.map λv=>.fz (.int v))),some (.fz (.int x)),some (.fz (.int s)),some (.fz (.int (0+(i:Int)))),z2]) (Zc (i:=3) rfl) (Zq (d:=.int 0)) rfl)
   have t:=Zqr ta tb
   cases q:(decide ((1000000000000000000:Int)≤c)&&decide (0<x))with
   | true=>
    rw[q]at t
    exact⟨_,_,rfl,.inl (Zdg t (J4 (Zpi (vs:=vs) (Yb (Zc (i:=3) rfl) Zq (by decide)) rfl (by omega)) (Zy (Za4 Zc Zq)))),_,_,_,_,_,rfl,by rw[X6,hl];rfl,snoc _ ⟨Zbr (by decide),Int.lt_trans (Zbx (by decide)) (by decide)⟩⟩
   | false=>
    rw[q]at t
    have s0:=Zbr (i:=(s+7*(0+(i:Int))+3)*48271) (j:=2147483647) (by decide)
    have s1:=Zbx (i:=(s+7*(0+(i:Int))+3)*48271) (j:=2147483647) (by decide)
    have st1:=Zy (i:=4) (δ:=[some (.fz (.int c)),some (.fz (.int m)),some (.nd (vs.map λv=>.fz (.int v))),some (.fz (.int x)),some (.fz (.int s)),some (.fz (.int (0+(i:Int)))),z2]) (Yb (Zgb (Yn (Yn (Zc (i:=4) (d:=.int s)) (Jd (Zq (d:=.int 7)) (Zc (i:=5) (d:=.int (0+(i:Int)))))) (Zq (d:=.int 3))) (Zq (d:=.int 48271))) (Zq (d:=.int 2147483647)) (by decide))
    generalize((s+7*(0+(i:Int))+3)*48271).fmod 2147483647=s' at s0 s1 st1
    exact⟨_,_,rfl,.inl (Yd t (J4 st1 (J4 (Zy (Yb (Zgb (Yb (Jd Zc Zc (by omega)) Zq (by decide)) Zq) Zq (by decide))) (Zpi (vs:=vs) (Yb (Za4 Zc Zq) Zq (by decide)) rfl (by omega))))),_,_,_,_,_,rfl,by rw[X6,hl];rfl,snoc _ ⟨Zbr (by decide),Zbx (by decide)⟩⟩
  ·obtain⟨vs,x,s,z1,z2,rfl,hl,hv⟩:=q
   rw[Yz]at hl
   exact Yav rfl ⟨vs,Zu5 vs,hl,hv⟩
 obtain⟨d,h,vs,rfl,hl⟩:=key
 exact⟨vs,h,hl⟩
theorem Z4o{δ:Zm}{a b:FE}{vs:List Int}{k:Nat}(ha:EvV a δ (Zj vs))(hb:EvV b δ (.int (k:Int)))(hk:k<vs.length)(hv:∀v∈vs,Sm v):∃v,EvV (Zt gIx a b) δ (.int v)∧Sm v:=by
 refine⟨vs.getD k 0,Z8 ha hb (by rw[Y4 (by omega) (by omega),Qn]),hv _ ?_⟩
 rw[Xh,Xg hk]
 exact QD hk
theorem Zxs{δ:Zm}{e:FE}{vs:List Int}{lo hi:FO}{a b:Nat}(he:EvV e δ (Zj vs))(hl:EvO lo δ (some (a:Int)))(hh:EvO hi δ (some (b:Int)))(hab:a≤b)(hb:b≤vs.length)(hv:∀v∈vs,Sm v):∃us,EvV (fSl e lo hi) δ (Zj us)∧us.length=b-a∧∀v∈us,Sm v:=by
 refine⟨_,Z76 he hl hh rfl,?_,λv m=>hv v (List.mem_of_mem_drop (List.mem_of_mem_take m))⟩
 unfold Z6g
 have e1:HT.sIx vs.length 0 (some (a:Int))=a:=by unfold HT.sIx;simp;rw[if_neg (by omega)];omega
 have e2:HT.sIx vs.length vs.length (some (b:Int))=b:=by unfold HT.sIx;simp;rw[if_neg (by omega)];omega
 rw[e1,e2,BW,JV];omega
theorem Zdm(n:Nat)(hn:n≤10):Told Yh [.int n] (.list ((Zz n).map ptD)):=by
 have key:∀k,k≤n->(((Xn n).take k).flatMap λi=>(Xn (n-(i+1))).map λj=>(i,i+1+j))=((Xn k).flatMap λi=>(Xn (n-(i+1))).map λj=>(i,i+1+j)):=λk hk=>by rw[List.take_range,Nat.min_eq_left hk]
 have few:∀n≤10,∀k≤n,((Xn k).flatMap λi=>(Xn (n-(i+1))).map λj=>(i,i+1+j)).length≤100:=by decide +kernel
 have all:∀n≤10,((Xn n).flatMap λi=>(Xn (n-(i+1))).map λj=>(i,i+1+j))=Zz n:=by decide +kernel
 refine Z4 rfl<|Z3 (Zy (W4 Zi (show 0≤1000 by decide)))<|Zi3 (ds:=Zgg 0 n) (λk δ=>∃z,δ=[some (.fz (.int n)),some (.fz (.list (((Xn k).flatMap λi=>(Xn (n-(i+1))).map λj=>(i,i+1+j)).map ptD))),z]) (Zc8 (Zb Zc Zi) (by omega)) ⟨_,rfl⟩ (λk d δ hd q=>?_) λδ' q=>?_
 ·obtain⟨z,rfl⟩:=q
  obtain⟨hk,rfl⟩:=W3 hd
  have f1:=few n hn k (by omega)
  refine⟨_,_,rfl,.inl (Zy (Zm3 Zc (Zcg (cs:=[some (.fz (.int (0+(k:Int))))]) (Xn (n-(k+1))) (λj:Nat=>Xk (((k+1:Nat):Int)+(j:Int))) (λj=>ptD (k,k+1+j)) (Zva (m:=k+1) (n:=n) (Zb ((Yn (Zc (i:=2) rfl) Zq).cast (congrArg Xk (by omega:(0:Int)+(k:Int)+1=((k+1:Nat):Int)))) (Zb (Zc (i:=0) rfl) Zi)) (by omega) (by omega)) (by rw[XC];omega) rfl λj _=>(Jo (Zb (Zc (i:=1) rfl) (Zb (Zc (i:=0) rfl) Zi)) (show 2≤1000 by decide)).cast ?_) (by rw[Xf,Xf,XC];omega))),some (.fz (.int (0+(k:Int)))),?_⟩
  ·unfold ptD
   rw[Vb];rfl
  ·rw[List.range_succ,List.flatMap_append,List.flatMap_singleton,QJ,Qh];rfl
 ·obtain⟨z,rfl⟩:=q
  rw[Yz,all n hn]
  exact Ys Zc
theorem pick{α β:Type}{R:α->β->Prop}[Inhabited β]{xs:List α}(h:∀x∈xs,∃y,R x y):∃f:α->β,∀x∈xs,R x (f x):=by
 obtain⟨f,hf⟩:=Uz (λx=>show∃y:β,x∈xs->R x y from by
  by_cases c:x∈xs
  ·obtain⟨y,hy⟩:=h x c
   exact⟨y,λ_=>hy⟩
  ·exact⟨default,λz=>absurd z c⟩)
 exact⟨f,λx m=>hf x m⟩
theorem Zt6{α:Type}{caps:List Nat}{it:FI}{me:FE}{cs δ:Zm}(xs:List α)(mk:α->Xa)(P:Int->Prop)(hi:EvI it δ (xs.map mk))(hz:xs.length≤1000000)(hb:blk 1 caps δ=none :: cs)(h:∀x∈xs,∃v:Int,EvV me (some (.fz (mk x)) :: cs) (.int v)∧P v):∃vs:List Int,EvV (Z6 1 caps it (gNm 0) Zak me) δ (Zj vs)∧vs.length=xs.length∧∀v∈vs,P v:=by
 obtain⟨f,hf⟩:=pick h
 refine⟨xs.map f,(Zcg xs mk (λx=>.int (f x)) hi hz hb λx m=>(hf x m).1).cast (by unfold Zj;rw[Qh];rfl),Xf _,λv m=>?_⟩
 obtain⟨x,hx,rfl⟩:=XQ.mp m
 exact(hf x hx).2
theorem Zee{α:Type}{caps:List Nat}{it:FI}{me:FE}{cs δ:Zm}(xs:List α)(mk:α->Xa)(P:Rat->Prop)(hi:EvI it δ (xs.map mk))(hz:xs.length≤1000000)(hb:blk 1 caps δ=none :: cs)(h:∀x∈xs,∃v:Rat,EvV me (some (.fz (mk x)) :: cs) (frD v)∧P v):∃vs:List Rat,EvV (Z6 1 caps it (gNm 0) Zak me) δ (Yx vs)∧vs.length=xs.length∧∀v∈vs,P v:=by
 obtain⟨f,hf⟩:=pick h
 refine⟨xs.map f,(Zcg xs mk (λx=>frD (f x)) hi hz hb λx m=>(hf x m).1).cast (by unfold Yx;rw[Qh];rfl),Xf _,λv m=>?_⟩
 obtain⟨x,hx,rfl⟩:=XQ.mp m
 exact(hf x hx).2
theorem Zlh{α:Type}{caps:List Nat}{it:FI}{g:FG}{me:FE}{cs δ:Zm}(xs:List α)(mk:α->Xa)(P:Rat->Prop)(hi:EvI it δ (xs.map mk))(hz:xs.length≤1000000)(hb:blk 2 caps δ=none :: none :: cs)(h:∀x∈xs,∃v:Rat,P v∧∀z0 z1,∃w0 w1,g (mk x) (z0 :: z1 :: cs)=some (w0 :: w1 :: cs)∧EvV me (w0 :: w1 :: cs) (frD v)):∃vs:List Rat,EvV (Z6 2 caps it g Zak me) δ (Yx vs)∧vs.length=xs.length∧∀v∈vs,P v:=by
 obtain⟨f,hf⟩:=pick h
 refine⟨xs.map f,(Zh5 xs mk (λx=>frD (f x)) (λ_=>true) hi hz hb λx m z0 z1=>?_).cast (by rw[List.filter_eq_self.mpr λ_ _=>rfl];unfold Yx;rw[Qh];rfl),Xf _,λv m=>?_⟩
 ·obtain⟨w0,w1,e1,e2⟩:=(hf x m).2 z0 z1
  exact⟨w0,w1,e1,rfl,e2⟩
 ·obtain⟨x,hx,rfl⟩:=XQ.mp m
  exact(hf x hx).1
theorem Zur{m:Nat}{caps:List Nat}{it:FI}{g:FG}{t:FT}{e:FE}{δ δ':Zm}{o:OT}(h:Z6 m caps it g t e δ=some (o,δ')):∃ts,o= .nd ts:=by
 unfold Z6 at h
 obtain⟨p,_,h⟩:=BP.mp h
 split at h
 ·obtain⟨z,_,h⟩:=BP.mp h
  injection h with h
  injection h with h _
  exact⟨_,h.symm⟩
 ·cases h
theorem Z17{i:Nat}{e j:FE}{δ:Zm}{ts:List OT}{vs:List Int}{y:Int}{x:Nat}(hi:δ[i]? =some (some (.nd ts)))(hd:ts.map OT.data=vs.map Xk)(he:EvV e δ (.int y))(hj:EvV j δ (.int (x:Int)))(hx:x<vs.length):∃us,Zyh i e j δ= .nx (δ.set i (some (.nd us)))∧us.map OT.data=(vs.set x y).map Xk:=by
 have l:ts.length=vs.length:=by
  have:=congrArg List.length hd
  rwa[Xf,Xf]at this
 refine⟨_,Z45 he hi hj (n:=x) ?_,?_⟩
 ·unfold ixN
  rw[if_pos (by omega),if_pos (by omega),Qn]
 ·rw[List.map_set,hd,List.map_set,OT.data_fz]
theorem Z0h:∀vs:List Int,(∀v∈vs,-2≤v∧v≤2)->-(2*(vs.length:Int))≤vs.sum∧vs.sum≤2*(vs.length:Int):=by
 intro vs
 induction vs with
 | nil=>exact λ_=>⟨by decide,by decide⟩
 | cons v vs ih=>
  intro h
  have:=ih λu m=>h u (.tail _ m)
  have:=h v (.head _)
  rw[U8,JD]
  omega
theorem Ztd{n:Nat}(h3:3≤n)(hn:n≤7){xs:List Int}(lx:xs.length=6)(hx:∀v∈xs,Sm v):∃vs:List Int,Told Jw [.int n,Zj xs] (Zj vs)∧vs.length=n∧∀v∈vs,-20≤v∧v≤20:=by
 obtain⟨s0,⟨o,e1,d1⟩,ls,hs⟩:=Zt6 (caps:=[1]) (me:=Zt gIx (Zbb (Za (fC (.int 0)) (Za (fC (.int 1)) (Za (fUn Zj4 (fC (.int 1))) (Za (fC (.int 0)) (Za (fC (.int 2)) (Za (fUn Zj4 (fC (.int 1))) (Za (fC (.int 1)) Zn)))))))) (Zd Y5 (Zd Wm (Zt gIx (Ze 1) (Zd Y5 (Ze 0) (fC (.int 6)))) (Zd Wx (fC (.int 1)) (Zd Jk (Zd Wm (Ze 0) (fC (.int 6))) (fC (.int 7))))) (fC (.int 7)))) (it:=iRa (Za (Ze 0) Zn)) (cs:=[some (.fz (Zj xs))]) (δ:=Za8 3 [.int n,Zj xs]) (Xn n) (λk:Nat=>Xk (0+(k:Int))) (λv=>-2≤v∧v≤2) (Zc8 (Zb Zc Zi) (by omega)) (by rw[XC];omega) rfl λk hk=>by
  have hk:=QB.mp hk
  obtain⟨a,ea,la⟩:=Wk (0+(k:Int)) (n:=6) (by decide)
  obtain⟨v,ev,hv⟩:=Z4o (δ:=[some (.fz (.int (0+(k:Int)))),some (.fz (Zj xs))]) (a:=Ze 1) (b:=Zd Y5 (Ze 0) (fC (.int 6))) (k:=a) (Zc rfl) (ea▸Yb (Zc rfl) (Zq (d:=.int 6)) (by decide)) (by omega) hx
  have f0:(0+(k:Int)).fdiv 6=0∨(0+(k:Int)).fdiv 6=1:=by
   rw[Uy _ (by decide)];omega
  obtain⟨w,ew,lw⟩:=Wk (v.fdiv (1+(0+(k:Int)).fdiv 6*7)) (n:=7) (by decide)
  have ei:EvV (Zd Y5 (Zd Wm (Zt gIx (Ze 1) (Zd Y5 (Ze 0) (fC (.int 6)))) (Zd Wx (fC (.int 1)) (Zd Jk (Zd Wm (Ze 0) (fC (.int 6))) (fC (.int 7))))) (fC (.int 7))) [some (.fz (.int (0+(k:Int)))),some (.fz (Zj xs))] (.int (w:Int)):=ew▸Yb (Za4 ev (Yn Zq (Zgb (Za4 (Zc rfl) Zq) (Zq (d:=.int 7)))) (by rcases f0 with f|f<;>rw[f]<;>decide)) Zq (by decide)
  have el:EvV (Zbb (Za (fC (.int 0)) (Za (fC (.int 1)) (Za (fUn Zj4 (fC (.int 1))) (Za (fC (.int 0)) (Za (fC (.int 2)) (Za (fUn Zj4 (fC (.int 1))) (Za (fC (.int 1)) Zn)))))))) [some (.fz (.int (0+(k:Int)))),some (.fz (Zj xs))] (Zj [0,1,-1,0,2,-1,1]):=W4 (Zb Zq (Zb Zq (Zb (Zfj Zq) (Zb Zq (Zb Zq (Zb (Zfj Zq) (Zb Zq Zi))))))) (show 7≤1000 by decide)
  refine⟨_,Z8 el ei (Y4 (by omega) (by show(w:Int)<7;omega)),?_⟩
  rw[Qn]
  have tb:∀w<7,-2≤([0,1,-1,0,2,-1,1]:List Int).getD w 0∧([0,1,-1,0,2,-1,1]:List Int).getD w 0≤2:=by decide
  exact tb w lw
 rw[XC]at ls
 obtain⟨ts,rfl⟩:=Zur e1
 rw[OT.data_nd]at d1
 injection d1 with d1
 obtain⟨a,ea,la⟩:∃a:Nat,(∀ts:List OT,EvV (Zd Y5 (Zt gIx (Ze 1) (fC (.int 5))) (Ze 0)) [some (.fz (.int n)),some (.fz (Zj xs)),some (.nd ts)] (.int (a:Int)))∧a<n:=by
  obtain⟨a,ea,la⟩:=Wk (xs.getD 5 0) (n:=n) (by omega)
  exact⟨a,λts=>ea▸Yb (Z8 (Zc (i:=1) rfl) (Zq (d:=.int 5)) (Y4 (p:=xs) (i:=5) (by decide) (by omega))) (Zc rfl) (by omega),la⟩
 obtain⟨t1,p1,q1⟩:=Z17 (i:=2) (δ:=[some (.fz (.int n)),some (.fz (Zj xs)),some (.nd ts)]) (x:=a) rfl d1 (Zq (d:=.int 0)) (ea ts) (by omega)
 have b1:∀v∈s0.set a 0,-2≤v∧v≤2:=λv m=>by
  rcases List.mem_or_eq_of_mem_set m with m|rfl
  ·exact hs v m
  ·decide
 have sm:=Z0h _ b1
 rw[JP]at sm
 obtain⟨t2,p2,q2⟩:=Z17 (i:=2) (e:=Zd gSb (fC (.int 1)) (Wr Ztu (Za (Zqg 2) Zn))) (δ:=[some (.fz (.int n)),some (.fz (Zj xs)),some (.nd t1)]) (x:=a) rfl q1 (Zi7 Zq (Jf (Zb (Zxk (d:=Zj (s0.set a 0)) rfl (by rw[OT.data_nd,q1];rfl)) Zi) (Zie _))) (ea t1) (by rw[JP];omega)
 refine⟨(s0.set a 0).set a (1-(s0.set a 0).sum),Z4 rfl<|Z3 (Zil e1)<|Z3 p1<|Z3 p2<|Z26 rfl (by rw[OT.data_nd,q2];rfl),by rw[JP,JP];exact ls,λv m=>?_⟩
 rcases List.mem_or_eq_of_mem_set m with m|rfl
 ·have:=b1 v m;omega
 ·omega
theorem frI(x:Int):frD (x:Rat)= .tuple [.int x,.int 1]:=rfl
theorem qbI{n:Nat}{x:Int}(h:Bt n x)(hn:1≤n):Qb n (x:Rat):=⟨h,(btc (n:=1) (m:=1) (by decide) (by decide)).mono hn⟩
theorem Zgo{n:Nat}(hn:n≤7){vs:List Int}(lv:vs.length=n)(hv:∀v∈vs,-20≤v∧v≤20){sc:Int}(s0:0≤sc)(s1:sc≤4):∃r:List Rat,Told Y8 [.int n,Zj vs,.int sc] (Yx r)∧r.length=(Zz n).length∧∀q∈r,Qb 20 q:=by
 have lp:=pairs_len n (by omega)
 obtain⟨r,er,lr,hr⟩:=Zlh (it:=Zbu (Zu Yh (Za (Ze 0) Zn))) (caps:=[2,1]) (g:=gTp 2 (gCn (gNm 0) (gCn (gNm 1) gNl))) (me:=Zby (Za (Zd gSb (fC (.int 0)) (Zd Jk (Zd Jk (Ze 2) (Zt gIx (Ze 3) (Ze 0))) (Zt gIx (Ze 3) (Ze 1)))) (Za (fC (.int 1)) Zn))) (cs:=[some (.fz (.int sc)),some (.fz (Zj vs))]) (δ:=Za8 3 [.int n,Zj vs,.int sc]) (Zz n) ptD (Qb 20) (W6 (Zr (Zb Zc Zi) (Zdm n (by omega)))) (by omega) rfl λp hp=>by
  obtain⟨a1,a2⟩:=J8 hp
  have g:∀k,k<n->-20≤vs.getD k 0∧vs.getD k 0≤20:=λk hk=>hv _ (by rw[Xh,Xg (by omega)];exact QD _)
  have g1:=g p.1 (by omega)
  have g2:=g p.2 a2
  have m1:-80≤sc*vs.getD p.1 0∧sc*vs.getD p.1 0≤80:=by
   obtain h|h|h|h|h:sc=0∨sc=1∨sc=2∨sc=3∨sc=4:=by omega
   all_goals (rw[h];omega)
  have m2:-(2^20)<0-sc*vs.getD p.1 0*vs.getD p.2 0∧0-sc*vs.getD p.1 0*vs.getD p.2 0<2^20:=by
   have a:=Int.mul_le_mul_of_nonneg_left (show(sc*vs.getD p.1 0).natAbs*(vs.getD p.2 0).natAbs≤(80*20:Int)from by
    have:=Nat.mul_le_mul (show(sc*vs.getD p.1 0).natAbs≤80 by omega) (show(vs.getD p.2 0).natAbs≤20 by omega)
    omega) (show(0:Int)≤1 by decide)
   have e:=Int.natAbs_mul (sc*vs.getD p.1 0) (vs.getD p.2 0)
   have:((sc*vs.getD p.1 0*vs.getD p.2 0).natAbs:Int)≤1600:=by rw[e,Ue];omega
   omega
  refine⟨((0-sc*vs.getD p.1 0*vs.getD p.2 0:Int):Rat),qbI (Bt.of_lt m2.1 m2.2) (by decide),λz0 z1=>⟨_,_,rfl,?_⟩⟩
  rw[frI]
  exact Jo (Zb (Zi7 Zq (Jd (Jd (Zc (i:=2) rfl) (Z8 (Zc (i:=3) rfl) (Zc (i:=0) (d:=.int (p.1:Int)) rfl) (by rw[Y4 (by omega) (by omega),Qn])) (by omega)) (Z8 (Zc (i:=3) rfl) (Zc (i:=1) (d:=.int (p.2:Int)) rfl) (by rw[Y4 (by omega) (by omega),Qn])) (by omega))) (Zb Zq Zi)) (show 2≤1000 by decide)
 exact⟨r,Z4 rfl (Ys er),lr,hr⟩
noncomputable def lc2(n:Nat):Nat->List (List Int)
 | 0=>[[]]
 | k+1=>((lc2 n k).map λc=>[((n-1:Nat):Int)-k] ++ c) ++ lc2 n k
theorem Zs1:∀n≤7,∀k≤6,(lc2 n k).length≤64∧∀s∈lc2 n k,s.length≤6:=by decide +kernel
theorem Zxx:∀n≤7,1≤n->((lc2 n (n-1)).filter λs=>decide (s≠[])).length<64∧(∀s∈lc2 n (n-1),s∈sdL (n-1))∧∀s∈sdL (n-1),s∈lc2 n (n-1):=by decide +kernel
noncomputable def ltN(i j:Nat):Bool:=let x:=Nat.xor i j;let low:=Nat.land x (Nat.xor x (x-1));bif Nat.beq (Nat.land i low) 0 then Nat.blt i low else !(Nat.blt j low)
theorem Yb9:∀i<64,∀j<64,lk kdL ltI ((sdL 6).map Zj) i j=ltN i j:=by decide +kernel
theorem Z7v:((Zhq ltN 64).map λp=>p.isPerm (Xn 64))=some true:=by decide +kernel
theorem Zll(b:Bool):Zm9 [.bool b]=some (.int (if b then 1 else 0)):=by cases b<;>rfl
noncomputable def Z1p(n:Nat)(s:List Int):Prop:=s∈sdL (n-1)∧s≠[]
theorem Zi2{n:Nat}(h0:1≤n)(hn:n≤7):∃Ls:List (List Int),Told Jx [.int n] (LL Ls)∧(∀s,s∈Ls↔Z1p n s)∧Ls.length<64:=by
 obtain⟨a1,a2,a3⟩:=Zxx n hn h0
 obtain⟨Ls,eS,hS,lS⟩:=Ziy ((lc2 n (n-1)).filter λs=>decide (s≠[])) a1
 refine⟨Ls,?_,λs=>?_,lS⟩
 ·refine Z4 rfl<|Z3 (Zy (d:=LL (lc2 n 0)) (W4 (Zb (W4 Zi (show 0≤1000 by decide)) Zi) (show 1≤1000 by decide)))<|Zi3 (ds:=Zr3 ((n-1:Nat):Int) (n-1-0)) (λk δ=>∃z,δ=[some (.fz (.int n)),some (.fz (LL (lc2 n k))),z]) (Z8n (m:=n-1) (n:=0) (Zb (EvV.cast (Zi7 Zc Zq) (congrArg Xk (by omega))) (Zb Zq (Zb (Zfj Zq) Zi))) (by omega) (by decide)) ⟨none,rfl⟩ (λk d δ hd q=>?_) λδ' q=>?_
  ·obtain⟨z,rfl⟩:=q
   obtain⟨hk,rfl⟩:=Zpl hd
   obtain⟨f1,f2⟩:=Zs1 n hn k (by omega)
   refine⟨_,_,rfl,.inl (Zy (d:=LL (lc2 n (k+1))) (Zxp (p:=(lc2 n k).map λc=>[((n-1:Nat):Int)-k] ++ c) (EvV.cast (Zcg (cs:=[some (.fz (.int (((n-1:Nat):Int)-k)))]) (lc2 n k) Zj (λc=>Zj ([((n-1:Nat):Int)-k] ++ c)) (W6 Zc) (by omega) rfl λc hc=>Zws (p:=[((n-1:Nat):Int)-k]) (W4 (Zb Zc Zi) (show 1≤1000 by decide)) Zc ?_) ?_) Zc ?_)),_,rfl⟩
   ·have:=f2 c hc
    show 1+_≤_
    omega
   ·unfold LL;rw[Qh];rfl
   ·rw[Xf];omega
  ·obtain⟨z,rfl⟩:=q
   rw[show(Zr3 ((n-1:Nat):Int) (n-1-0)).length=n-1 by unfold Zr3;rw[Xf,XC];rfl]
   obtain⟨f1,_⟩:=Zs1 n hn (n-1) (by omega)
   exact Ys (Zto (Zb (Zh4 (cs:=[]) (lc2 n (n-1)) Zj (λs=>decide (s≠[])) (W6 Zc) (by omega) rfl (λs _=>Zc4 (Z0 Zc (W4 Zi (show 0≤1000 by decide)) ((Zvs s []).trans (by rw[decide_not])))) λs _ _=>rfl) Zi) eS (by rw[OT.data_nd,OT.map_fz];rfl))
 ·rw[hS,V9,decide_eq_true_eq]
  exact⟨λz=>⟨a2 s z.1,z.2⟩,λz=>⟨a3 s z.1,z.2⟩⟩
theorem Zvt{es:List Xa}{p:List Nat}(h64:¬es.length<64)(hz:es.length≤10000)(ep:Zhq (lk kdL ltI es) es.length=some p)(hp:p.length=es.length)(hk:∀d∈es,(kdL d).isSome=true):Zhm kdL ltI [.list es]=some (.nd ((tLay .none p es).map OT.fz)):=by
 have n0:Zhj kdL ltI [.list es]=none:=by
  show(if(decide (es.length<64)&&es.all λd=>(kdL d).isSome)=true then some (OT.nd ((sLay PyData.none (lk kdL ltI es) es).map OT.fz))else none)=none
  exact if_neg (by rw[decide_eq_false h64,Bool.false_and];exact Xu)
 unfold Zhm
 rw[n0]
 show(Zhq (lk kdL ltI es) es.length).bind _=_
 rw[ep,Xi,if_pos]
 rw[Xo,Xo,Xo,decide_eq_true_eq,decide_eq_true_eq,decide_eq_true_eq,Bo]
 exact⟨⟨⟨by omega,hz⟩,hp⟩,hk⟩
theorem Zv8{L:List (List Int)}{p:List Nat}(l:L.length=64)(ep:Zhq (lk kdL ltI (L.map Zj)) 64=some p)(pm:p.Perm (Xn 64)):∃L1:List (List Int),Zhm kdL ltI [.list (L.map Zj)]=some (.nd ((L1.map Zj).map OT.fz))∧(∀p,p∈L1↔p∈L)∧L1.length≤64:=by
 have lm:(L.map Zj).length=64:=by rw[Xf,l]
 refine⟨p.map λi=>L.getD i [],?_,λs=>?_,by rw[Xf,pm.length_eq,XC];exact Qi _⟩
 ·rw[Zvt (p:=p) (by omega) (by omega) (by rw[lm];exact ep) (by rw[lm,pm.length_eq,XC]) λd m=>by
   obtain⟨s,_,rfl⟩:=XQ.mp m
   show(Zgf (s.map Xk)).isSome=true
   rw[Zea];rfl]
  refine congrArg (λx:List Xa=>some (OT.nd (x.map OT.fz))) ?_
  unfold tLay
  rw[Qh]
  refine X8 λi hi=>?_
  have hi:=QB.mp (pm.mem_iff.mp hi)
  have hi6:i<L.length:=by omega
  rw[Xh,Xl,Xg hi6]
  show Zj _=Zj (L.getD i [])
  rw[Xh,Xg hi6];rfl
 ·rw[XQ]
  constructor
  ·rintro⟨i,hi,rfl⟩
   have hi:=QB.mp (pm.mem_iff.mp hi)
   rw[Xh,Xg (by omega)]
   exact QD _
  ·intro m
   obtain⟨i,hi,rfl⟩:=List.getElem_of_mem m
   refine⟨i,pm.mem_iff.mpr (QB.mpr (by omega)),?_⟩
   rw[Xh,Xg hi];rfl
theorem Ztx(L:List (List Int))(h:L.length<64∨L=sdL 6):∃L1:List (List Int),Zhm kdL ltI [.list (L.map Zj)]=some (.nd ((L1.map Zj).map OT.fz))∧(∀p,p∈L1↔p∈L)∧L1.length≤64:=by
 by_cases c:L.length<64
 ·obtain⟨L1,e,h1,h2⟩:=Ziy L c
  exact⟨L1,by unfold Zhm;rw[e],h1,by omega⟩
 obtain⟨p,ep,hp⟩:=Option.map_eq_some_iff.mp Z7v
 have hL:=h.resolve_left c
 refine Zv8 (p:=p) (by rw[hL,Zny]) ?_ (List.isPerm_iff.mp hp)
 rw[hL,Znu Yb9,ep]
theorem Zn3{n:Nat}(h0:1≤n)(hn:n≤7):∃Ls:List (List Int),Told Za1 [.int n] (LL Ls)∧∀s,s∈Ls↔Z1p n s:=by
 have p2:∀{k:Nat},k≤6->(sdL k).length≤64:=fun{k} hk=>by rw[Zny];exact QM (Nat.pow_le_pow_right (by decide) hk) (by decide)
 obtain⟨L1,eS,hS,lS⟩:=Ztx (sdL (n-1)) (by
  by_cases c:n=7
  ·exact .inr (by rw[c])
  ·refine .inl ?_
   rw[Zny]
   exact Nat.lt_of_le_of_lt (Nat.pow_le_pow_right (by decide) (show n-1≤5 by omega)) (by decide))
 refine⟨L1.filter λs=>decide (0<s.length),?_,λs=>?_⟩
 ·refine Z4 rfl<|Z3 (Zy (d:=LL (sdL 0)) (W4 (Zb (W4 Zi (show 0≤1000 by decide)) Zi) (show 1≤1000 by decide)))<|
   Zi3 (ds:=Zgg 1 (n-1)) (λk δ=>∃z2,δ=[some (.fz (.int n)),some (.fz (LL (sdL k))),z2]) (Zva (m:=1) (Zb Zq (Zb Zc Zi)) (by decide) (by omega)) ⟨none,rfl⟩ (λk d δ hd q=>?_) λδ' q=>?_
  ·obtain⟨z2,rfl⟩:=q
   obtain⟨hk,rfl⟩:=W3 hd
   have lk:=p2 (k:=k) (by omega)
   refine⟨_,_,rfl,.inl (Zy (d:=LL (sdL (k+1))) (Zxp Zc (EvV.cast (Zcg (cs:=[some (.fz (.int (1+(k:Int))))]) (sdL k) Zj (λs=>Zj (s ++ [(k:Int)+1])) (W6 Zc) (by omega) rfl λs hs=>?_) ?_) (by rw[Xf];omega))),_,rfl⟩
   ·have ls:=Z37 k s hs
    exact(Zws (q:=[1+(k:Int)]) Zc (W4 (Zb Zc Zi) (show 1≤1000 by decide)) (show _+1≤_ by omega)).cast (by rw[Int.add_comm])
   ·unfold LL;rw[Qh];rfl
  ·obtain⟨z2,rfl⟩:=q
   rw[Yz]
   exact Ys (Zh4 (cs:=[]) L1 Zj (λs=>decide (0<s.length)) (W6 (Zto (Zb Zc Zi) eS (by rw[OT.data_nd,OT.map_fz]))) (by omega) rfl (λs _=>Zc4 (Zv6 (Zef Zc) Zq (decide_eq_decide.mpr (by omega)))) λs _ _=>rfl)
 ·rw[V9,hS,decide_eq_true_eq,List.length_pos_iff]
  exact⟨λz=>z,λz=>z⟩
noncomputable def Wt(q:Rat):Prop:=Bt 8 (q.den:Int)∧Bt 110 q.num
theorem Z21{t b:Int}(b0:0<b)(ht:Bt 110 t)(hb:Bt 8 b):Wt (QZ t b):=⟨Zxo (By b0) hb,Zxq (By b0) ht⟩
theorem Ycp:Zv5 (.int 10) (.int 30)=some (.int 1000000000000000000000000000000):=rfl
theorem Ztf{x:Int}(x0:0≤x)(x1:x<100000000)(k:Int):∃q:Rat,Told Zad [.int x,.int k] (frD q)∧Wt q:=by
 have te:∀j:Int,EvT (tV (Zd gEq (Zd Y5 (Ze 1) (fC (.int 4))) (fC (.int j)))) (Za8 2 [.int x,.int k]) (decide (k.fmod 4=j)):=λj=>Zc4 (Zfx (Yb (Zc (i:=1) rfl) Zq (by decide)) Zq rfl)
 have nn:∀(i j:Int),0<j->0≤i.fmod j∧i.fmod j<j:=λi j h=>⟨Zbr h,Zbx h⟩
 by_cases c0:k.fmod 4=0
 ·have:=nn x 9 (by decide)
  refine⟨((1+x.fmod 9:Int):Rat),Z4 rfl (Zar (Zcp (decide_eq_true c0▸te 0) (Ys (Jo (Zb (Yn Zq (Yb (Zc (i:=0) rfl) Zq (by decide))) (Zb Zq Zi)) (show 2≤1000 by decide))))),btc (n:=8) (m:=1) (by decide) (by decide),(Bt.of_lt (m:=10) (by show -(2^10)<1+x.fmod 9;omega) (by show 1+x.fmod 9<2^10;omega)).mono (by decide)⟩
 have s0:=Yd (S:=wE (Zby (Za (Zd Wx (fC (.int 1)) (Zd Y5 (Ze 0) (fC (.int 9)))) (Za (fC (.int 1)) Zn))) Wa) (S':=fNx) (decide_eq_false c0▸te 0) rfl
 by_cases c1:k.fmod 4=1
 ·have:=nn x 12 (by decide)
  have:=nn (x.fdiv 12) 5 (by decide)
  exact⟨_,Z4 rfl (Z3 s0 (Zar (Zcp (decide_eq_true c1▸te 1) (Ys (Zr (Zb (Yn Zq (Yb (Zc (i:=0) rfl) Zq (by decide))) (Zb (Yn Zq (Yb (Za4 (Zc (i:=0) rfl) Zq) Zq (by decide))) Zi)) (Zat (n:=8) (by omega) (Bt.of_lt (by omega) (by omega)))))))),Z21 (by omega) ((Bt.of_lt (m:=10) (by omega) (by omega)).mono (by decide)) (Bt.of_lt (by omega) (by omega))⟩
 have s1:=Yd (S:=wE (Zu Z5 (Za (Zd Wx (fC (.int 1)) (Zd Y5 (Ze 0) (fC (.int 12)))) (Za (Zd Wx (fC (.int 1)) (Zd Y5 (Zd Wm (Ze 0) (fC (.int 12))) (fC (.int 5)))) Zn))) Wa) (S':=fNx) (decide_eq_false c1▸te 1) rfl
 by_cases c2:k.fmod 4=2
 ·have:=nn (x*641) 100003 (by decide)
  have:=nn (x.fdiv 3) 97 (by decide)
  exact⟨_,Z4 rfl (Z3 s0 (Z3 s1 (Zar (Zcp (decide_eq_true c2▸te 2) (Ys (Zr (Zb (Yn Zq (Yb (Zgb (Zc (i:=0) rfl) Zq) Zq (by decide))) (Zb (Yn Zq (Yb (Za4 (Zc (i:=0) rfl) Zq) Zq (by decide))) Zi)) (Zat (n:=8) (by omega) (Bt.of_lt (by omega) (by omega))))))))),Z21 (by omega) ((Bt.of_lt (m:=20) (by omega) (by omega)).mono (by decide)) (Bt.of_lt (by omega) (by omega))⟩
 ·have:=nn x 63 (by decide)
  have s2:=Yd (S:=wE (Zu Z5 (Za (Zd Wx (fC (.int 1)) (Zd Y5 (Zd Jk (Ze 0) (fC (.int 641))) (fC (.int 100003)))) (Za (Zd Wx (fC (.int 1)) (Zd Y5 (Zd Wm (Ze 0) (fC (.int 3))) (fC (.int 97)))) Zn))) Wa) (S':=fNx) (decide_eq_false c2▸te 2) rfl
  refine⟨(((1+x.fmod 63)*1000000000000000000000000000000+x:Int):Rat),Z4 rfl (Z3 s0 (Z3 s1 (Z3 s2 (Ys (Jo (Zb (Yn (Jd (Yn Zq (Yb (Zc (i:=0) rfl) Zq (by decide))) (Z0 Zq Zq Ycp) (by omega)) (Zc (i:=0) rfl)) (Zb Zq Zi)) (show 2≤1000 by decide)))))),btc (n:=8) (m:=1) (by decide) (by decide),?_⟩
  have b1:Bt 7 (1+x.fmod 63):=Bt.of_lt (by omega) (by omega)
  have b2:Bt 100 (1000000000000000000000000000000:Int):=btc (by decide +kernel) (by decide +kernel)
  exact(Bt.add' ((b1.mul b2).mono (show 7+100≤107 by decide)) ((Bt.of_lt (m:=30) (x:=x) (by omega) (by omega)).mono (show 30≤107 by decide))).mono (by decide)
theorem Zub{n:Nat}(h3:3≤n)(hn:n≤7){xs:List Int}(lx:xs.length=26)(hx:∀v∈xs,Sm v):∃r:List Rat,Told W8 [.int n,Zj xs] (Yx r)∧r.length=(Zz n).length∧∀q∈r,Qb 80 q:=by
 have lp:=pairs_len n (by omega)
 obtain⟨m,hm,m0,m1⟩:∃m:Nat,(∀{z2 z3 z4 z5:Option OT},EvV (Zd Wx (fC (.int 1)) (Zd Y5 (Zt gIx (Ze 1) (fC (.int 7))) (fC (.int 3)))) [some (.fz (.int n)),some (.fz (Zj xs)),z2,z3,z4,z5] (.int (m:Int)))∧1≤m∧m≤3:=by
  obtain⟨a,ea,la⟩:=Wk (xs.getD 7 0) (n:=3) (by decide)
  refine⟨1+a,fun{z2 z3 z4 z5}=>(Yn Zq (Yb (Z8 (Zc (i:=1) rfl) (Zq (d:=.int 7)) (Y4 (p:=xs) (i:=7) (by decide) (by omega))) Zq (by decide))).cast ?_,by omega,by omega⟩
  have ea:(xs.getD 7 0).fmod 3=(a:Int):=ea
  show Xk (1+(xs.getD 7 0).fmod 3)=_
  rw[ea]
  exact congrArg Xk (by omega)
 obtain⟨sc,hsc,sc0,sc1⟩:∃sc:Int,(∀{z2 z3 z4 z5:Option OT},EvV (Zd Wx (fC (.int 1)) (Zd Y5 (Zt gIx (Ze 1) (fC (.int 6))) (fC (.int 4)))) [some (.fz (.int n)),some (.fz (Zj xs)),z2,z3,z4,z5] (.int sc))∧0≤sc∧sc≤4:=by
  have a:=Zbr (i:=xs.getD 6 0) (j:=4) (by decide)
  have b:=Zbx (i:=xs.getD 6 0) (j:=4) (by decide)
  exact⟨_,fun{z2 z3 z4 z5}=>Yn Zq (Yb (Z8 (Zc (i:=1) rfl) (Zq (d:=.int 6)) (Y4 (p:=xs) (i:=6) (by decide) (by omega))) Zq (by decide)),by show 0≤1+(xs.getD 6 0).fmod 4;omega,by show 1+(xs.getD 6 0).fmod 4≤4;omega⟩
 obtain⟨r0,e0,l0,h0⟩:=Zee (caps:=[]) (it:=Zbu (Zu Yh (Za (Ze 0) Zn))) (me:=Zby (Za (fC (.int 0)) (Za (fC (.int 1)) Zn))) (cs:=[]) (δ:=Za8 6 [.int n,Zj xs]) (Zz n) ptD (Qb 1) (W6 (Zr (Zb (Zc (i:=0) rfl) Zi) (Zdm n (by omega)))) (by omega) rfl λp _=>⟨0,tw,qb0⟩
 have key:∃d,Told W8 [.int n,Zj xs] d∧∃r:List Rat,d=Yx r∧r.length=(Zz n).length∧∀q∈r,Qb 80 q:=by
  refine Znm rfl<|Ws (Zy e0)<|Zj9 (ds:=Zgg 0 m) (λk δ=>∃(r:List Rat) (z3 z4:Option OT),δ=[some (.fz (.int n)),some (.fz (Zj xs)),some (.fz (Yx r)),z3,z4,none]∧r.length=(Zz n).length∧∀q∈r,Qb (k*21+1) q) (Zc8 (Zb hm Zi) (by omega)) ⟨r0,none,none,rfl,l0,λq m=>(h0 q m).up (by omega)⟩ (λk d δ hd q=>?_) λδ' q=>?_
  ·obtain⟨r,z3,z4,rfl,lr,hr⟩:=q
   obtain⟨hk,rfl⟩:=W3 hd
   obtain⟨us,eu,lu,hu⟩:=Zxs (δ:=[some (.fz (.int n)),some (.fz (Zj xs)),some (.fz (Yx r)),some (.fz (.int (0+(k:Int)))),z4,none]) (a:=8+6*k) (b:=14+6*k) (Zc (i:=1) rfl) (Zpb ((Yn (Zq (d:=.int 8)) (Jd (Zq (d:=.int 6)) (Zc (i:=3) rfl))).cast (congrArg Xk (by omega:(8:Int)+6*(0+(k:Int))=((8+6*k:Nat):Int))))) (Zpb ((Yn (Zq (d:=.int 14)) (Jd (Zq (d:=.int 6)) (Zc (i:=3) rfl))).cast (congrArg Xk (by omega:(14:Int)+6*(0+(k:Int))=((14+6*k:Nat):Int))))) (by omega) (by omega) hx
   obtain⟨sg,Ts,ls,hs⟩:=Ztd h3 hn (by omega) hu
   obtain⟨mr,Tm,lm,hmr⟩:=Zgo hn ls hs sc0 sc1
   obtain⟨r2,e2,l2,h2⟩:=Zlh (caps:=[]) (it:=Zdb (Za (Ze 2) (Za (Ze 4) Zn))) (g:=gTp 2 (gCn (gNm 0) (gCn (gNm 1) gNl))) (me:=Zu Zx (Za (Ze 0) (Za (Ze 1) Zn))) (cs:=[]) (δ:=[some (.fz (.int n)),some (.fz (Zj xs)),some (.fz (Yx r)),some (.fz (.int (0+(k:Int)))),some (.fz (Yx mr)),none]) (r.zip mr) (λp=>.tuple [frD p.1,frD p.2]) (Qb ((k+1)*21+1)) (Ziz (Zc rfl) (Zc rfl) (Zfa _ _ _ _)) (by rw[Q7];omega) rfl λp hp=>by
    obtain⟨p1,p2⟩:=Bv hp
    exact⟨p.1+p.2,((hr _ p1).add (hmr _ p2)).up (by omega),λz0 z1=>⟨_,_,rfl,Zr (Zb (Zc rfl) (Zb (Zc rfl) Zi)) (Zli (hr _ p1) (hmr _ p2) (by omega))⟩⟩
   rw[Q7,lr,lm,Nat.min_self]at l2
   exact⟨_,_,rfl,.inl (J4 (Zy (Zr (Zb (Zc (i:=0) rfl) (Zb (Zr (Zb (Zc (i:=0) rfl) (Zb eu Zi)) Ts) (Zb hsc Zi))) Tm)) (Zy e2)),r2,_,_,rfl,l2,h2⟩
  ·obtain⟨r,z3,z4,rfl,lr,hr⟩:=q
   rw[Yz]at hr
   have hr:∀q∈r,Qb 64 q:=λq mq=>(hr q mq).up (by omega)
   have t:=Zc4 (Zfx (δ:=[some (.fz (.int n)),some (.fz (Zj xs)),some (.fz (Yx r)),z3,z4,none]) (Yb (Z8 (Zc (i:=1) rfl) (Zq (d:=.int 6)) (Y4 (p:=xs) (i:=6) (by decide) (by omega))) (Zq (d:=.int 5)) (by decide)) (Zq (d:=.int 1)) rfl)
   cases c:decide ((xs.getD (Int.toNat 6) 0).fmod 5=1)with
   | false=>
    rw[c]at t
    exact Ws (Yd t rfl) (Zcz (Zc rfl) ⟨r,rfl,lr,λq m=>(hr q m).up (by decide)⟩)
   | true=>
    rw[c]at t
    have d0:=Zbr (i:=xs.getD 7 0) (j:=4) (by decide)
    have d1:=Zbx (i:=xs.getD 7 0) (j:=4) (by decide)
    have mx:Zph [.int 1,.int (r.length:Int)]=some (.int (max 1 r.length:Nat)):=by
     rw[Zoz]
     split
     ·exact congrArg some (congrArg Xk (by omega))
     ·exact congrArg some (congrArg Xk (by omega))
    obtain⟨at',ea⟩:∃x:Int,EvV (Zd Y5 (Zd Wm (Zt gIx (Ze 1) (fC (.int 7))) (fC (.int 3))) (Wr Zph (Za (fC (.int 1)) (Za (Wr Zbs (Za (Ze 2) Zn)) Zn)))) [some (.fz (.int n)),some (.fz (Zj xs)),some (.fz (Yx r)),z3,z4,none] (.int x):=⟨_,Yb (Za4 (Z8 (Zc (i:=1) rfl) (Zq (d:=.int 7)) (Y4 (p:=xs) (i:=7) (by decide) (by omega))) Zq) (Jf (Zb Zq (Zb (Zl6 (Zc rfl)) Zi)) mx) (by omega)⟩
    obtain⟨r2,e2,l2,h2⟩:=Zee (caps:=[2,5,1]) (it:=iRa (Za (Wr Zbs (Za (Ze 2) Zn)) Zn)) (me:=Zu Zx (Za (Zt gIx (Ze 1) (Ze 0)) (Za (Zby (Za (Wr Zm9 (Za (Zd gEq (Ze 0) (Ze 2)) Zn)) (Za (Zd Wx (fC (.int 1)) (Zd Y5 (Zt gIx (Ze 3) (fC (.int 7))) (fC (.int 4)))) Zn))) Zn))) (cs:=[some (.fz (Yx r)),some (.fz (.int at')),some (.fz (Zj xs))]) (δ:=[some (.fz (.int n)),some (.fz (Zj xs)),some (.fz (Yx r)),z3,z4,some (.fz (.int at'))]) (Xn r.length) (λk:Nat=>Xk (0+(k:Int))) (Qb 80) (Zc8 (n:=r.length) (Zb (Zl6 (Zc rfl)) Zi) (by omega)) (by rw[XC];omega) rfl λk hk=>by
     have hk:=QB.mp hk
     obtain⟨q,mq,eq⟩:=Z5k (δ:=[some (.fz (.int (0+(k:Int)))),some (.fz (Yx r)),some (.fz (.int at')),some (.fz (Zj xs))]) (a:=Ze 1) (b:=Ze 0) (Zc rfl) (Zc rfl) (by omega) (by omega)
     have bt:Bt 3 (if decide (0+(k:Int)=at')=true then(1:Int)else 0):=by split<;>exact btc (by decide) (by decide)
     have bd:Bt 3 (1+(xs.getD 7 0).fmod 4):=Bt.of_lt (by omega) (by omega)
     refine⟨_,Zr (Zb eq (Zb (Jo (Zb (Jf (Zb (Zfx (Zc (i:=0) rfl) (Zc (i:=2) rfl) rfl) Zi) (Zll _)) (Zb (Yn Zq (Yb (Z8 (Zc (i:=3) rfl) (Zq (d:=.int 7)) (Y4 (p:=xs) (i:=7) (by decide) (by omega))) Zq (by decide))) Zi)) (show 2≤1000 by decide)) Zi)) (Zu4 (hr q mq) bt (by show 0<1+(xs.getD 7 0).fmod 4;omega) bd (by decide)),?_⟩
     exact((hr q mq).add (Znl (By (by show 0<1+(xs.getD 7 0).fmod 4;omega)) bt bd)).up (by decide)
    rw[XC,lr]at l2
    exact Ws (Zdg t (J4 (Zy ea) (Zy e2))) (Zcz (Zc rfl) ⟨r2,rfl,l2,h2⟩)
 obtain⟨d,h,r,rfl,hr⟩:=key
 exact⟨r,h,hr⟩
theorem gP6:Zv5 (.int 10) (.int 6)=some (.int 1000000):=rfl
theorem Zqb{r:List Rat}(hr:∀q∈r,Qb 80 q)(l0:0<r.length)(lr:r.length≤30){xs:List Int}(lx:xs.length=3)(hx:∀v∈xs,Sm v):∃r':List Rat,Told Jr [Yx r,Zj xs] (Yx r')∧r'.length≤70∧∀q∈r',Qb 110 q:=by
 have up:∀q∈r,Qb 110 q:=λq m=>(hr q m).up (by decide)
 obtain⟨a,ea,la⟩:=Wk (xs.getD 0 0) (n:=r.length) l0
 obtain⟨w,ew,lw⟩:=Wk (xs.getD 1 0) (n:=9) (by decide)
 have ew:(xs.getD 1 0).fmod 9=(w:Int):=ew
 have lc:∀lo hi,(Znh r lo hi).length≤r.length:=λlo hi=>by
  unfold Znh
  rw[BW,JV];omega
 have s1:wE (Zd Y5 (Zt gIx (Ze 1) (fC (.int 0))) (Wr Zbs (Za (Ze 0) Zn))) (Yt 2) (Za8 5 [Yx r,Zj xs])= .nx [some (.fz (Yx r)),some (.fz (Zj xs)),some (.fz (.int (a:Int))),none,none]:=(Zy (d:=.int (a:Int)) (ea▸Yb (Z8 (Zc (i:=1) rfl) (Zq (d:=.int 0)) (Y4 (p:=xs) (i:=0) (by decide) (by omega))) (Zl6 (Zc rfl)) (by omega))).trans rfl
 have s2:wE (Zd Y5 (Zt gIx (Ze 1) (fC (.int 1))) (fC (.int 9))) (Yt 3) [some (.fz (Yx r)),some (.fz (Zj xs)),some (.fz (.int (a:Int))),none,none]= .nx [some (.fz (Yx r)),some (.fz (Zj xs)),some (.fz (.int (a:Int))),some (.fz (.int (w:Int))),none]:=(Zy (d:=.int (w:Int)) (ew▸Yb (Z8 (Zc (i:=1) rfl) (Zq (d:=.int 1)) (Y4 (p:=xs) (i:=1) (by decide) (by omega))) (Zq (d:=.int 9)) (by decide))).trans rfl
 obtain⟨E,hE⟩:∃E:Zm,E=[some (.fz (Yx r)),some (.fz (Zj xs)),some (.fz (.int (a:Int))),some (.fz (.int (w:Int))),none]:=⟨_,rfl⟩
 rw[←hE]at s2
 have v0:E[0]? =some (some (.fz (Yx r))):=by rw[hE];rfl
 have v1:E[1]? =some (some (.fz (Zj xs))):=by rw[hE];rfl
 have v2:E[2]? =some (some (.fz (.int (a:Int)))):=by rw[hE];rfl
 have v3:E[3]? =some (some (.fz (.int (w:Int)))):=by rw[hE];rfl
 have mo:∀{r1:List Rat},(∀q∈r1,Qb 110 q)->∀{lo hi},∀q∈Znh r1 lo hi,Qb 110 q:=fun{r1} h {lo hi} q m=>h q (Zu2 m)
 have cat:∀{r1 r2:List Rat},(∀q∈r1,Qb 110 q)->(∀q∈r2,Qb 110 q)->∀q∈r1 ++ r2,Qb 110 q:=λh k q m=>(QV.mp m).elim (h q) (k q)
 have fin:∀{S':FS},Zpd S' E (λd=>∃r':List Rat,d=Yx r'∧r'.length≤70∧∀q∈r',Qb 110 q)->∃r':List Rat,Told (Jy 2 5 (Z1 (wE (Zd Y5 (Zt gIx (Ze 1) (fC (.int 0))) (Wr Zbs (Za (Ze 0) Zn))) (Yt 2)) (Z1 (wE (Zd Y5 (Zt gIx (Ze 1) (fC (.int 1))) (fC (.int 9))) (Yt 3)) S'))) [Yx r,Zj xs] (Yx r')∧r'.length≤70∧∀q∈r',Qb 110 q:=λh=>by
  obtain⟨d,Td,r',rfl,h⟩:=Znm (xs:=[Yx r,Zj xs]) rfl (Ws s1 (Ws s2 h))
  exact⟨r',Td,h⟩
 refine fin ?_
 have te:∀k:Int,EvT (tV (Zd gEq (Ze 3) (fC (.int k)))) E (decide ((w:Int)=k)):=λk=>Zc4 (Zfx (Zc v3) Zq rfl)
 by_cases c3:w<3
 ·have tl:=Zc4 (Znz (Zc v3) (Zq (d:=.int 3)) (decide_eq_true (show(w:Int)<3 by omega)))
  obtain⟨t,b,eb,b0,bt,bb⟩:∃t b:Int,gIx (.list [.tuple [.int (-1),.int 1],.tuple [.int (-1),.int 1000000],.tuple [.int 1,.int 2]]) (.int (w:Int))=some (.fz (.tuple [.int t,.int b]))∧0<b∧Bt 21 t∧Bt 21 b:=by
   obtain rfl|rfl|rfl:w=0∨w=1∨w=2:=by omega
   ·exact⟨-1,1,rfl,by decide,btc (by decide) (by decide),btc (by decide) (by decide)⟩
   ·exact⟨-1,1000000,rfl,by decide,btc (by decide) (by decide),btc (by decide) (by decide)⟩
   ·exact⟨1,2,rfl,by decide,btc (by decide) (by decide),btc (by decide) (by decide)⟩
  obtain⟨q,mq,eq⟩:=Z5k (δ:=E.set 4 (some (.fz (.tuple [.int t,.int b])))) (a:=Ze 0) (b:=Ze 2) (Zc (by rw[hE];rfl)) (Zc (d:=.int (a:Int)) (by rw[hE];rfl)) (by omega) (by omega)
  have l1:=lc none (some (a:Int))
  have l2:=lc (some ((a:Int)+1)) none
  refine Zei (Zf5 tl (Ws (Zy (Z8 (W4 (Zb (Jo (Zb (Zfj Zq) (Zb Zq Zi)) (show 2≤1000 by decide)) (Zb (Jo (Zb (Zfj Zq) (Zb (Z0 Zq Zq gP6) Zi)) (show 2≤1000 by decide)) (Zb (Jo (Zb Zq (Zb Zq Zi)) (show 2≤1000 by decide)) Zi))) (show 3≤1000 by decide)) (Zc v3) eb)) (Zcz (Zj7 (Zj7 (Zly (Zc (by rw[hE];rfl)) Ztt (Zpb (Zc (d:=.int (a:Int)) (by rw[hE];rfl)))) (Zxt (Zr (Zb eq (Zb (Zc (d:=.tuple [.int t,.int b]) (by rw[hE];rfl)) Zi)) (Zu4 (hr q mq) bt b0 bb (by decide)))) (by rw[Q9];omega)) (Zly (Zc (by rw[hE];rfl)) (Zpb (Yn (Zc (d:=.int (a:Int)) (by rw[hE];rfl)) Zq)) Ztt) (by rw[X6,Q9];omega)) ⟨_,rfl,by rw[X6,X6,Q9];omega,cat (cat (mo up) λp m=>?_) (mo up)⟩)))
  rw[Qj.mp m]
  exact((hr q mq).add (Znl (By b0) bt bb)).up (by decide)
 have tl:=Zc4 (Znz (Zc v3) (Zq (d:=.int 3)) (decide_eq_false (show¬(w:Int)<3 by omega)))
 refine Ws (Yd tl rfl) ?_
 by_cases c4:w=3
 ·refine Zei (Zf5 (decide_eq_true (show(w:Int)=3 by omega)▸te 3) ?_)
  obtain⟨r',e',l',h'⟩:=Zee (caps:=[]) (it:=Zbu (Ze 0)) (me:=Zby (Za (Zd gSb (fC (.int 0)) (Zt gIx (Ze 0) (fC (.int 0)))) (Za (Zt gIx (Ze 0) (fC (.int 1))) Zn))) (cs:=[]) (δ:=E) r frD (Qb 110) (W6 (Zc v0)) (by omega) (by rw[hE];rfl) λq mq=>⟨-q,by rw[Z5f];exact Jo (Zb (Zi7 Zq (at0 rfl)) (Zb (at1 rfl) Zi)) (show 2≤1000 by decide),(up q mq).neg⟩
  exact Zcz e' ⟨r',rfl,by omega,h'⟩
 refine Ws (Yd (decide_eq_false (show¬(w:Int)=3 by omega)▸te 3) rfl) ?_
 by_cases c5:w=4
 ·refine Zei (Zf5 (decide_eq_true (show(w:Int)=4 by omega)▸te 4) ?_)
  obtain⟨r',e',l',h'⟩:=Zee (caps:=[]) (it:=Zbu (Ze 0)) (me:=Zu Z5 (Za (Zd Jk (Zt gIx (Ze 0) (fC (.int 0))) (fC (.int 7))) (Za (Zd Jk (Zt gIx (Ze 0) (fC (.int 1))) (fC (.int 3))) Zn))) (cs:=[]) (δ:=E) r frD (Qb 110) (W6 (Zc v0)) (by omega) (by rw[hE];rfl) λq mq=>by
   have b1:Bt 83 (q.num*7):=(hr q mq).1.mul (btc (n:=3) (by decide) (by decide))
   have b2:Bt 83 ((q.den:Int)*3):=(hr q mq).2.mul (btc (n:=3) (by decide) (by decide))
   have p0:0<(q.den:Int)*3:=Int.mul_pos (Wz q) (by decide)
   exact⟨_,Zr (Zb (Zgb (at0 rfl) Zq) (Zb (Zgb (at1 rfl) Zq) Zi)) (Zat p0 b2 (by decide)),(Znl (By p0) b1 b2).up (by decide)⟩
  exact Zcz e' ⟨r',rfl,by omega,h'⟩
 refine Ws (Yd (decide_eq_false (show¬(w:Int)=4 by omega)▸te 4) rfl) ?_
 by_cases c6:w=5
 ·have l1:=lc none (some (a:Int))
  have l2:=lc (some ((a:Int)+1)) none
  exact Zei (Zf5 (decide_eq_true (show(w:Int)=5 by omega)▸te 5) (Zcz (Zj7 (Zly (Zc v0) Ztt (Zpb (Zc v2))) (Zly (Zc v0) (Zpb (Yn (Zc v2) Zq)) Ztt) (by omega)) ⟨_,rfl,by rw[X6];omega,cat (mo up) (mo up)⟩))
 refine Ws (Yd (decide_eq_false (show¬(w:Int)=5 by omega)▸te 5) rfl) ?_
 by_cases c7:w=6
 ·have l1:=lc none (some (a:Int))
  have l2:=lc (some (a:Int)) none
  have z0:=Zbr (i:=xs.getD 2 0) (j:=2) (by decide)
  have z1:=Zbx (i:=xs.getD 2 0) (j:=2) (by decide)
  refine Zei (Zf5 (decide_eq_true (show(w:Int)=6 by omega)▸te 6) (Zcz (Zj7 (Zj7 (Zly (Zc v0) Ztt (Zpb (Zc v2))) (Zxt (q:=(((xs.getD 2 0).fmod 2:Int):Rat)) (Jo (Zb (Yb (Z8 (Zc v1) (Zq (d:=.int 2)) (Y4 (p:=xs) (i:=2) (by decide) (by omega))) Zq (by decide)) (Zb Zq Zi)) (show 2≤1000 by decide))) (by rw[Q9];omega)) (Zly (Zc v0) (Zpb (Zc v2)) Ztt) (by rw[X6,Q9];omega)) ⟨_,rfl,by rw[X6,X6,Q9];omega,cat (cat (mo up) λp m=>?_) (mo up)⟩))
  rw[Qj.mp m]
  exact(qbI (n:=2) (Bt.of_lt (by omega) (by omega)) (by decide)).up (by decide)
 refine Ws (Yd (decide_eq_false (show¬(w:Int)=6 by omega)▸te 6) rfl) ?_
 by_cases c8:w=7
 ·have l1:=lc none (some 1)
  have l2:=lc (some 1) none
  exact Zei (Zf5 (decide_eq_true (show(w:Int)=7 by omega)▸te 7) (Zcz (Zj7 (Zly (Zc v0) (Zpb Zq) Ztt) (Zly (Zc v0) Ztt (Zpb Zq)) (by omega)) ⟨_,rfl,by rw[X6];omega,cat (mo up) (mo up)⟩))
 refine Ws (Yd (decide_eq_false (show¬(w:Int)=7 by omega)▸te 7) rfl) ?_
 obtain⟨r',e',l',h'⟩:=Zee (caps:=[]) (it:=Zbu (Ze 0)) (me:=Zby (Za (fC (.int 0)) (Za (fC (.int 1)) Zn))) (cs:=[]) (δ:=E) r frD (Qb 110) (W6 (Zc v0)) (by omega) (by rw[hE];rfl) λq mq=>⟨0,tw,qb0.up (by decide)⟩
 exact Zcz e' ⟨r',rfl,by omega,h'⟩
noncomputable def Gc(p:List Int×Rat):Prop:=(∀x∈p.1,0≤x∧x<5)∧p.1.length≤4∧Wt p.2
theorem sd4:∀s∈sdL 4,s.length≤4∧∀x∈s,0≤x∧x<5:=by decide
theorem Zlc{α:Type}(f:α->Xa)(L:List α)(lo hi:Option Int):cutD (L.map f) lo hi=(Znh L lo hi).map f:=by
 unfold cutD Znh
 rw[Xf,List.map_take,List.map_drop]
theorem Zvr(c:List Int)(L:List (List Int)):∃b,Znb true (Zj c) (.list (L.map Zj))=some (.bool b):=by
 have d32:(Zj c).depth≤32:=QM (Zgh c).2 (by decide)
 have ly:(JW (L.map Zj)).canLay0=true:=(Zii (n:=1) λd m=>by
  obtain⟨q,_,rfl⟩:=XQ.mp m
  exact Zgh q).1
 exact⟨_,if_pos (by rw[(Zgh c).1,ly,decide_eq_true d32];rfl)⟩
theorem Ydd{w:Nat}(h:w<4):∃d:Int,gIx (.list [.int 2,.int 3,.int 5,.int 8]) (.int (w:Int))=some (.fz (.int d))∧0<d:=by
 obtain rfl|rfl|rfl|rfl:w=0∨w=1∨w=2∨w=3:=by omega
 all_goals exact⟨_,rfl,by decide⟩
theorem Z4z{L:List (List Int×Rat)}{k:Nat}(h:k<L.length):gIx (Zfb L) (.int (k:Int))=some (.fz (ctD (L.getD k ([],0)))):=by
 unfold Zfb
 rw[Zhn,Zd5,Xl,Xg h,Xh,Xg h];rfl
theorem Zmu{xs:List Int}(lx:xs.length=58)(hx:∀v∈xs,Sm v):∃L:List (List Int×Rat),Told Wi [.int 5,Zj xs] (Zfb L)∧L.length≤16∧∀p∈L,Gc p:=by
 obtain⟨Ls,Tc,hC,lC⟩:=Zi2 (n:=5) (by decide) (by decide)
 have pos:0<Ls.length:=List.length_pos_of_mem ((hC [1]).mpr ⟨by decide,by decide⟩)
 have vAt:∀k:Nat,k<58->Sm (xs.getD k 0):=λk hk=>hx _ (by rw[Xh,Xg (by omega)];exact QD _)
 have gAt:∀{k:Nat},k<58->gIx (Zj xs) (.int (k:Int))=some (.fz (.int (xs.getD k 0))):=fun{k} hk=>by rw[Y4 (by omega) (by omega),Qn]
 have key:∃d,Told Wi [.int 5,Zj xs] d∧∃L:List (List Int×Rat),d=Zfb L∧L.length≤16∧∀p∈L,Gc p:=by
  have em:∀{z3 z4 z5:Option OT},EvV (Wr Z1j (Za (Wr Zbs (Za (Ze 2) Zn)) (Za (fC (.int 16)) Zn))) [some (.fz (.int 5)),some (.fz (Zj xs)),some (.fz (LL Ls)),z3,z4,z5] (.int (min Ls.length 16:Nat)):=fun{z3 z4 z5}=>(Jf (Zb ((Zjd (ds:=Ls.map Zj) (Zc (i:=2) rfl)).cast (by rw[Xf])) (Zb (Zq (d:=.int 16)) Zi)) (Zxn _ _)).cast (congrArg Xk (by split<;>omega))
  refine Znm rfl<|Ws (Zy (Zr (Zb Zc Zi) Tc))<|Ws Zo3<|Zj9 (ds:=Zgg 0 (min Ls.length 16)) (λk δ=>∃(L:List (List Int×Rat)) (z4 z5:Option OT),δ=[some (.fz (.int 5)),some (.fz (Zj xs)),some (.fz (LL Ls)),some (.nd ((L.map ctD).map OT.fz)),z4,z5]∧L.length≤k∧∀p∈L,Gc p) (Zc8 (Zb em Zi) (by omega)) ⟨[],none,none,rfl,Qi _,λ_ m=>nomatch m⟩ (λk d δ hd q=>?_) λδ' q=>?_
  ·obtain⟨L,z4,z5,rfl,lL,hL⟩:=q
   obtain⟨hk,rfl⟩:=W3 hd
   have v0:=vAt 0 (by decide)
   have v2:=vAt (2+k) (by omega)
   obtain⟨a,ea,la⟩:=Wk (xs.getD 0 0+(0+(k:Int))*(1+2*(xs.getD 1 0).fmod 8)) pos
   obtain⟨E,hE⟩:∃E:Option OT->Zm,E= λz5=>[some (.fz (.int 5)),some (.fz (Zj xs)),some (.fz (LL Ls)),some (.nd ((L.map ctD).map OT.fz)),some (.fz (.int (0+(k:Int)))),z5]:=⟨_,rfl⟩
   have w1:∀{z},(E z)[1]? =some (some (.fz (Zj xs))):=by rw[hE];exact fun{_}=>rfl
   have w2:∀{z},(E z)[2]? =some (some (.fz (LL Ls))):=by rw[hE];exact fun{_}=>rfl
   have w4:∀{z},(E z)[4]? =some (some (.fz (.int (0+(k:Int))))):=by rw[hE];exact fun{_}=>rfl
   have e2k:∀{z},EvV (Zt gIx (Ze 1) (Zd Wx (fC (.int 2)) (Ze 4))) (E z) (.int (xs.getD (2+k) 0)):=fun{z}=>Z8 (Zc w1) ((Yn (Zq (d:=.int 2)) (Zc w4)).cast (congrArg Xk (by omega:(2:Int)+(0+(k:Int))=((2+k:Nat):Int)))) (gAt (by omega))
   have s5:wE (Zd Y5 (Zd Wx (Zt gIx (Ze 1) (fC (.int 0))) (Zd Jk (Ze 4) (Zd Wx (fC (.int 1)) (Zd Jk (fC (.int 2)) (Zd Y5 (Zt gIx (Ze 1) (fC (.int 1))) (fC (.int 8))))))) (Wr Zbs (Za (Ze 2) Zn))) (Yt 5) (E z5)= .nx (E (some (.fz (.int (a:Int))))):=(Zy (d:=.int (a:Int)) (ea▸Yb (Yn (Z8 (Zc w1) (Zq (d:=.int 0)) (gAt (k:=0) (by decide))) (Jd (Zc w4) (Yn Zq (Jd (Zq (d:=.int 2)) (Yb (Z8 (Zc w1) (Zq (d:=.int 1)) (gAt (k:=1) (by decide))) Zq (by decide)))) (by omega))) ((Zjd (ds:=Ls.map Zj) (Zc w2)).cast (by rw[Xf])) (by omega))).trans (by rw[hE];rfl)
   obtain⟨w,ew,lw⟩:=Wk (xs.getD 18 0) (n:=4) (by decide)
   obtain⟨dv,edv,dv0⟩:=Ydd lw
   have t:=Zc4 (Zfx (δ:=E (some (.fz (.int (a:Int))))) (Yb e2k (Z8 (W4 (Zb Zq (Zb Zq (Zb Zq (Zb Zq Zi)))) (show 4≤1000 by decide)) (ew▸Yb (Z8 (Zc w1) (Zq (d:=.int 18)) (gAt (k:=18) (by decide))) (Zq (d:=.int 4)) (by decide)) edv) (by omega)) (Zq (d:=.int 0)) rfl)
   cases c:decide ((xs.getD (2+k) 0).fmod dv=0)with
   | false=>
    rw[c]at t
    exact⟨E z5,_,by rw[hE];rfl,.inl (J4 s5 (Yd t rfl)),L,some (.fz (.int (0+(k:Int)))),_,by rw[hE],by omega,hL⟩
   | true=>
    rw[c]at t
    unfold Sm at v0 v2
    have f8:0≤(xs.getD (2+k) 0).fdiv 8∧(xs.getD (2+k) 0).fdiv 8<720720:=by rw[Uy _ (by decide)];omega
    obtain⟨q,Tq,hq⟩:=Ztf (x:=(xs.getD (2+k) 0).fdiv 8+8*xs.getD 0 0) (by omega) (by omega) (xs.getD 19 0)
    have hc:=(hC (Ls.getD a [])).mp (by rw[Xh,Xg la];exact QD _)
    obtain⟨c1,c2⟩:=sd4 _ hc.1
    refine⟨E z5,_,by rw[hE];rfl,.inl (J4 s5 (Zdg t (Zox (ts:=(L.map ctD).map OT.fz) (d:=ctD (Ls.getD a [],q)) (Jo (Zb (Z8 (Zc w2) (Zc (i:=5) (d:=.int (a:Int)) (by rw[hE];rfl)) ?_) (Zb (Zr (Zb (Yn (Za4 e2k Zq) (Jd (Zq (d:=.int 8)) (Z8 (Zc w1) (Zq (d:=.int 0)) (gAt (k:=0) (by decide))))) (Zb (Z8 (Zc w1) (Zq (d:=.int 19)) (gAt (k:=19) (by decide))) Zi)) Tq) Zi)) (show 2≤1000 by decide)) (by rw[hE];rfl) (by rw[Xf,Xf];omega)))),L ++ [(Ls.getD a [],q)],some (.fz (.int (0+(k:Int)))),some (.fz (.int (a:Int))),?_,by rw[X6,Q9];omega,λp m=>?_⟩
    ·unfold LL
     rw[Zhn,Zd5,Xl,Xg la,Xh,Xg la];rfl
    ·rw[hE,QJ,QJ];rfl
    ·rcases QV.mp m with m|m
     ·exact hL p m
     ·rw[Qj.mp m];exact⟨c2,c1,hq⟩
  ·obtain⟨L,z4,z5,rfl,lL,hL⟩:=q
   rw[Yz]at lL
   have mem:∀k:Nat,∃b:Bool,k∈Xn L.length->EvT (tV (Zd (Znb true) (Zt gIx (Zt gIx (Ze 1) (Ze 0)) (fC (.int 0))) (Z6 1 [] (Zbu (fSl (Ze 1) oN (oI (Ze 0)))) (gNm 0) Zak (Zt gIx (Ze 0) (fC (.int 0)))))) [some (.fz (.int (0+(k:Int)))),some (.fz (Zfb L))] b:=λk=>by
    by_cases hk:k<L.length
    ·obtain⟨b,hb⟩:=Zvr (L.getD k ([],0)).1 ((Znh L none (some (0+(k:Int)))).map λp=>p.1)
     refine⟨b,λ_=>Zc4 (Z0 (Z8 (Z8 (Zc (i:=1) rfl) ((Zc (i:=0) (d:=.int (0+(k:Int))) rfl).cast (by rw[Vb])) (Z4z hk)) (Zq (d:=.int 0)) rfl) (Zcg (cs:=[]) (Znh L none (some (0+(k:Int)))) ctD (λp=>Zj p.1) (W6 ((Zwi (ds:=L.map ctD) (Zc (i:=1) rfl) Ztt (Zpb (Zc (i:=0) (d:=.int (0+(k:Int))) rfl))).cast (by rw[Zlc]))) (QM (show(Znh L none (some (0+(k:Int)))).length≤16 by unfold Znh;rw[BW,JV];omega) (by decide)) rfl λp _=>Z8 (Zc (i:=0) (d:=ctD p) rfl) (Zq (d:=.int 0)) rfl) (by rw[Qh]at hb;exact hb))⟩
    ·exact⟨true,λm=>absurd (QB.mp m) hk⟩
   obtain⟨pr,hpr⟩:=Uz mem
   have ec:EvV (Z6 1 [3] (iRa (Za (Wr Zbs (Za (Ze 3) Zn)) Zn)) (gNm 0) (tV (Zd (Znb true) (Zt gIx (Zt gIx (Ze 1) (Ze 0)) (fC (.int 0))) (Z6 1 [] (Zbu (fSl (Ze 1) oN (oI (Ze 0)))) (gNm 0) Zak (Zt gIx (Ze 0) (fC (.int 0)))))) (Zt gIx (Ze 1) (Ze 0))) [some (.fz (.int 5)),some (.fz (Zj xs)),some (.fz (LL Ls)),some (.fz (Zfb L)),z4,z5] (Zfb (((Xn L.length).filter pr).map λk=>L.getD k ([],0))):=by
    refine⟨_,Zmh (cs:=[some (.fz (Zfb L))]) (Xn L.length) (λk:Nat=>Xk (0+(k:Int))) pr (λk=>.fz (ctD (L.getD k ([],0)))) (Zc8 (n:=L.length) (Zb ((Zjd (ds:=L.map ctD) (Zc (i:=3) rfl)).cast (by rw[Xf])) Zi) (by omega)) (by rw[XC,Qe];omega) rfl (λk hk=>hpr k hk) (λk hk _=>?_),?_⟩
    ·obtain⟨_,e1,d1⟩:=Zc (δ:=[some (.fz (Xk (0+(k:Int)))),some (.fz (Zfb L))]) (i:=1) (d:=Zfb L) rfl
     obtain⟨_,e2,d2⟩:=Zc (δ:=[some (.fz (Xk (0+(k:Int)))),some (.fz (Zfb L))]) (i:=0) (d:=.int (0+(k:Int))) rfl
     rw[Zs9,e1,Xi,e2,Xi,d1,d2,Vb,Z4z (QB.mp hk),Xi]
    ·rw[OT.data_nd,Qh]
     unfold Zfb
     rw[Qh]
     exact congrArg JW (X8 λk _=>OT.data_fz _)
   obtain⟨L2,hL2⟩:∃L2,L2=((Xn L.length).filter pr).map λk=>L.getD k ([],0):=⟨_,rfl⟩
   rw[←hL2]at ec
   have l2:L2.length≤16:=by
    rw[hL2,Xf]
    exact QM (List.length_filter_le _ _) (by rw[XC];omega)
   have g2:∀p∈L2,Gc p:=λp m=>by
    rw[hL2]at m
    obtain⟨k,hk,rfl⟩:=XQ.mp m
    have hk:=QB.mp (V9.mp hk).1
    exact hL _ (by rw[Xh,Xg hk];exact QD _)
   have pm:(sCt L2).Perm L2:=Zis _ _ _
   refine Zm0 (o:=.nd ((L.map ctD).map OT.fz)) rfl ?_
   rw[OT.data_nd,OT.map_fz]
   exact Zcz (Z0a ec (by omega)) ⟨sCt L2,rfl,by rw[pm.length_eq];exact l2,λp m=>g2 p (pm.mem_iff.mp m)⟩
 obtain⟨d,h,L,rfl,hL⟩:=key
 exact⟨L,h,hL⟩
theorem Zwc{α β:Type}[Inhabited β](enc:β->Xa){caps:List Nat}{it:FI}{g:FG}{me:FE}{cs δ:Zm}(xs:List α)(mk:α->Xa)(P:β->Prop)(hi:EvI it δ (xs.map mk))(hz:xs.length≤1000000)(hb:blk 2 caps δ=none :: none :: cs)(h:∀x∈xs,∃v:β,P v∧∀z0 z1,∃w0 w1,g (mk x) (z0 :: z1 :: cs)=some (w0 :: w1 :: cs)∧EvV me (w0 :: w1 :: cs) (enc v)):∃vs:List β,EvV (Z6 2 caps it g Zak me) δ (.list (vs.map enc))∧vs.length=xs.length∧∀v∈vs,P v:=by
 obtain⟨f,hf⟩:=pick h
 refine⟨xs.map f,(Zh5 xs mk (λx=>enc (f x)) (λ_=>true) hi hz hb λx m z0 z1=>?_).cast (by rw[List.filter_eq_self.mpr λ_ _=>rfl,Qh];rfl),Xf _,λv m=>?_⟩
 ·obtain⟨w0,w1,e1,e2⟩:=(hf x m).2 z0 z1
  exact⟨w0,w1,e1,rfl,e2⟩
 ·obtain⟨x,hx,rfl⟩:=XQ.mp m
  exact(hf x hx).1
theorem Zz0{n:Nat}{rows:List (List Rat)}(l:rows.length=n)(P:Rat->Prop)(h:∀r∈rows,r.length=n∧∀q∈r,P q):∃T,tbD rows=W5 n (frG T)∧∀i j,i<n->j<n->P (T i j):=by
 have e:∀i,i<n->rows.getD i []∈rows:=λi hi=>by
  rw[Xh,Xg (by omega)];exact QD _
 refine⟨λi j=>(rows.getD i []).getD j 0,?_,λi j hi hj=>(h _ (e i hi)).2 _ ?_⟩
 ·rw[Zqy]
  refine congrArg tbD (U4 λi=>?_)
  rw[Xl]
  by_cases c:i<n
  ·rw[Qp c,Xg (by omega),XX]
   refine congrArg some (U4 λj=>?_)
   have e1:rows.getD i []=rows[i]:=by rw[Xh,Xg (by omega)];rfl
   have lr:=(h _ (e i c)).1
   rw[e1]at lr⊢
   rw[Xl]
   by_cases d:j<n
   ·rw[Qp d,Xg (by omega),XX,Xh,Xg (by omega)];rfl
   ·rw[Qz (by omega),Qz (by rw[XC];omega)];rfl
  ·rw[Qz (by omega),Qz (by rw[XC];omega)];rfl
 ·have lr:=(h _ (e i hi)).1
  show(rows.getD i []).getD j 0∈rows.getD i []
  rw[Xh (l:=rows.getD i []),Xg (by omega)]
  exact QD _
theorem Zr2{e:FE}{δ:Zm}{d:Xa}(h:EvV e δ d)(hf:Zca d=true):EvV (Zmx e) δ d:=by
 obtain⟨_,e1,d1⟩:=h
 exact⟨_,by rw[Zv7,e1,Xi,d1,if_pos hf],OT.data_fz _⟩
theorem Zoi{s n i j:Nat}{a b:FE}{δ:Zm}{f:Nat->Nat->Xa}(hs:δ[s]? =some (some (Wy n f)))(ha:EvV a δ (.int (i:Int)))(hi:i<n)(hb:EvV b δ (.int (j:Int)))(hj:j<n):EvV (Zt gIx (Zt gIx (Zqg s) a) b) δ (f i j):=by
 refine Z8 (Z8 (Zxk hs (Zf7 n f)) ha (d:=.list ((Xn n).map λj=>f i j)) ?_) hb ?_
 ·unfold W5
  rw[Zhn,Zd5,Xl,Qp hi];rfl
 ·rw[Zhn,Zd5,Xl,Qp hj];rfl
noncomputable def upT(T:Nat->Nat->Rat)(i j:Nat)(q:Rat):Nat->Nat->Rat:=λx y=>if x=j∧y=i then q else if x=i∧y=j then q else T x y
theorem Zoj{s ia ib n i j:Nat}{e:FE}{δ:Zm}{T:Nat->Nat->Rat}{q:Rat}(he:EvV e δ (frD q))(hs:δ[s]? =some (some (Wy n (frG T))))(hi:δ[ia]? =some (some (.fz (.int (i:Int)))))(hj:δ[ib]? =some (some (.fz (.int (j:Int)))))(h1:s≠ia)(h2:s≠ib)(li:i<n)(lj:j<n) :
  Z1 (Zgr s e (Ze ia) (Ze ib)) (Zgr s (Zmx (Zt gIx (Zt gIx (Zqg s) (Ze ia)) (Ze ib))) (Ze ib) (Ze ia)) δ= .nx (δ.set s (some (Wy n (frG (upT T i j q))))):=by
 have hl:=(Xm.mp hs).1
 have p1:=Zma he hs (Zc hi) li (Zc hj) lj
 have s1:(δ.set s (some (Wy n (upG (frG T) i j (frD q)))))[s]? =some (some (Wy n (upG (frG T) i j (frD q)))):=QL hl
 have i1:(δ.set s (some (Wy n (upG (frG T) i j (frD q)))))[ia]? =some (some (.fz (.int (i:Int)))):=by rw[Qq h1];exact hi
 have j1:(δ.set s (some (Wy n (upG (frG T) i j (frD q)))))[ib]? =some (some (.fz (.int (j:Int)))):=by rw[Qq h2];exact hj
 have e1:upG (frG T) i j (frD q) i j=frD q:=if_pos ⟨rfl,rfl⟩
 have p2:=Zma (d:=frD q) (Zr2 (e1▸Zoi s1 (Zc i1) li (Zc j1) lj) rfl) s1 (Zc j1) lj (Zc i1) li
 refine J4 p1 (p2.trans ?_)
 rw[List.set_set]
 refine congrArg (λz=>RS.nx (δ.set s (some z))) (Zvn λx y _ _=>?_)
 unfold upG frG upT
 split
 ·rfl
 ·split<;>rfl
theorem Zkc{n:Nat}:∀(r:List Rat),(∀q∈r,Bt n (q.den:Int))->∃B:Int,0<B∧Bt (r.length*n+1) B∧∀q∈r,(q.den:Int)∣B
 | [],_=>⟨1,by decide,by rw[List.length_nil,Nat.zero_mul];exact btc (by decide) (by decide),λ_ m=>nomatch m⟩
 | q :: r,h=>by
  obtain⟨B,h0,h1,h2⟩:=Zkc r λp hp=>h p (.tail _ hp)
  refine⟨(q.den:Int)*B,Int.mul_pos (Wz q) h0,?_,λp hp=>?_⟩
  ·rw[JD,Uq]
   exact((h q (.head _)).mul h1).mono (by omega)
  ·rcases Xw.mp hp with rfl|hp
   ·exact Int.dvd_mul_right ..
   ·exact Int.dvd_trans (h2 p hp) (Int.dvd_mul_left ..)
theorem Z8s{B:Int}(B0:0<B)(bB:Bt 130 B){q:Rat}(hd:(q.den:Int)∣B)(hn:Bt 110 q.num):Qv B 240 q:=by
 refine⟨scI B q,?_,hn.mul (bB.of_le (Bw _ _))⟩
 rw[VH,Zoo hd,Rat.mul_div_cancel (Rat.ne_of_gt (Zy3 B0))]
theorem Z1f{B:Int}(B0:0<B)(bB:Bt 130 B){N:Nat}(hN:130≤N){q:Rat}(h:Qv B N q):Qb N q:=by
 obtain⟨x,rfl,bx⟩:=h
 exact Znl (By B0) bx (bB.mono hN)
theorem Ztp{L:List (List Int×Rat)}(lL:L.length≤16)(hL:∀p∈L,Gc p):∃T,Told Jb [.int 5,Zfb L] (W5 5 (frG T))∧∀i j,i<5->j<5->Qb 600 (T i j):=by
 obtain⟨B,B0,bB',hB⟩:=Zkc (n:=8) (L.map λp=>p.2) λq m=>by
  obtain⟨p,hp,rfl⟩:=XQ.mp m
  exact(hL p hp).2.2.1
 have bB:Bt 130 B:=bB'.mono (by rw[Xf];omega)
 have wq:∀p∈L,Qv B 240 p.2:=λp hp=>Z8s B0 bB (hB p.2 (XQ.mpr ⟨p,hp,rfl⟩)) (hL p hp).2.2.2
 have key:∃d,Told Jb [.int 5,Zfb L] d∧∃T,d=W5 5 (frG T)∧∀i j,i<5->j<5->Qb 600 (T i j):=by
  have e0:Z6 1 [0] (iRa (Za (Ze 0) Zn)) (gNm 0) Zak (Z6 1 [] (iRa (Za (Ze 1) Zn)) (gNm 0) Zak (Zby (Za (fC (.int 0)) (Za (fC (.int 1)) Zn)))) (Za8 7 [.int 5,Zfb L])=some (Wy 5 (frG λ_ _=>0),Za8 7 [.int 5,Zfb L]):=by
   refine(Zfr (cs:=[some (.fz (.int 5))]) (Xn 5) (λi:Nat=>Xk (0+(i:Int))) (λi=>.nd ((Xn 5).map λj=>.fz (frD 0))) (Zc8 (n:=5) (Zb (Zc (i:=0) rfl) Zi) (by decide)) (by rw[Qe];decide) rfl λx _=>?_).trans rfl
   exact Zfr (cs:=[]) (Xn 5) (λi:Nat=>Xk (0+(i:Int))) (λ_=>.fz (frD 0)) (Zc8 (n:=5) (Zb (Zc (i:=1) rfl) Zi) (by decide)) (by rw[Qe];decide) rfl λx _=>rfl
  refine Znm rfl<|Ws (Zil e0)<|Zj9 (ds:=L.map ctD) (λc δ=>∃(T:Nat->Nat->Rat) (z3 z4 z5 z6:Option OT),δ=[some (.fz (.int 5)),some (.fz (Zfb L)),some (Wy 5 (frG T)),z3,z4,z5,z6]∧∀i j,i<5->j<5->Qv B (240+c*20) (T i j)) (W6 (Zc (i:=1) rfl)) ⟨_,none,none,none,none,rfl,λi j _ _=>⟨0,(Rat.zero_divInt B).symm,(btc (n:=1) (by decide) (by decide)).mono (by decide)⟩⟩ (λc d δ hd q=>?_) λδ' q=>?_
  ·obtain⟨T,z3,z4,z5,z6,rfl,hT⟩:=q
   rw[Xl]at hd
   cases hp:L[c]? with
   | none=>rw[hp]at hd;cases hd
   | some p=>
    rw[hp]at hd
    cases hd
    have mp:=Qc hp
    have hc:=(Xm.mp hp).1
    obtain⟨g1,g2,_⟩:=hL p mp
    have wp:=wq p mp
    refine Zh8 (δ1:=[some (.fz (.int 5)),some (.fz (Zfb L)),some (Wy 5 (frG T)),some (.fz (Zj p.1)),some (.fz (frD p.2)),z5,z6]) (ds:=p.1.map Xk) (λa δ=>∃(T:Nat->Nat->Rat) (z5 z6:Option OT),δ=[some (.fz (.int 5)),some (.fz (Zfb L)),some (Wy 5 (frG T)),some (.fz (Zj p.1)),some (.fz (frD p.2)),z5,z6]∧∀i j,i<5->j<5->Qv B (240+c*20+a*5) (T i j)) rfl (W6 (Zc (i:=3) rfl)) ⟨T,z5,z6,rfl,hT⟩ (λa d δ hd q=>?_) λδ' q=>?_
    ·obtain⟨T,z5,z6,rfl,hT⟩:=q
     rw[Xl]at hd
     cases hx:p.1[a]? with
     | none=>rw[hx]at hd;cases hd
     | some x=>
      rw[hx]at hd
      cases hd
      have ha:=(Xm.mp hx).1
      obtain⟨x0,x5⟩:=g1 x (Qc hx)
      obtain⟨i,rfl⟩:∃i:Nat,x=(i:Int):=⟨x.toNat,by omega⟩
      refine Zh8 (δ1:=[some (.fz (.int 5)),some (.fz (Zfb L)),some (Wy 5 (frG T)),some (.fz (Zj p.1)),some (.fz (frD p.2)),some (.fz (.int (i:Int))),z6]) (ds:=Zgg 0 5) (λb δ=>∃(T:Nat->Nat->Rat) (z6:Option OT),δ=[some (.fz (.int 5)),some (.fz (Zfb L)),some (Wy 5 (frG T)),some (.fz (Zj p.1)),some (.fz (frD p.2)),some (.fz (.int (i:Int))),z6]∧∀i j,i<5->j<5->Qv B (240+c*20+a*5+b) (T i j)) rfl (Zc8 (n:=5) (Zb (Zc (i:=0) rfl) Zi) (by decide)) ⟨T,z6,rfl,hT⟩ (λb d δ hd q=>?_) λδ' q=>?_
      ·obtain⟨T,z6,rfl,hT⟩:=q
       obtain⟨hb,rfl⟩:=W3 hd
       rw[Vb]
       have t:=Zc4 (Z0 (δ:=[some (.fz (.int 5)),some (.fz (Zfb L)),some (Wy 5 (frG T)),some (.fz (Zj p.1)),some (.fz (frD p.2)),some (.fz (.int (i:Int))),some (.fz (.int (b:Int)))]) (Zc (i:=6) rfl) (Zc (i:=3) rfl) (Zfo true (b:Int) p.1))
       have t:EvT _ _ (!decide ((b:Int)∈p.1)):=t
       cases c2:!decide ((b:Int)∈p.1)with
       | false=>
        rw[c2]at t
        exact⟨_,_,rfl,.inl (Yd t rfl),T,_,rfl,λx y hx hy=>(hT x y hx hy).up (by omega)⟩
       | true=>
        rw[c2]at t
        have q1:=hT i b (by omega) (by omega)
        have q2:Qv B (240+c*20+a*5+b+1) (T i b+p.2):=q1.add (wp.up (by omega))
        refine⟨_,_,rfl,.inl (Zdg t (Zoj (s:=2) (ia:=5) (ib:=6) (q:=T i b+p.2) (Zr2 (Zr (Zb (Zoi (f:=frG T) rfl (Zc (i:=5) rfl) (by omega) (Zc (i:=6) rfl) (by omega)) (Zb (Zc (i:=4) rfl) Zi)) (Zli (Z1f B0 bB (by omega) q1) (Z1f B0 bB (by decide) wp) (by omega))) rfl) rfl rfl rfl (by decide) (by decide) (by omega) (by omega))),upT T i b (T i b+p.2),_,rfl,λx y hx hy=>?_⟩
        unfold upT
        split
        ·exact q2
        ·split
         ·exact q2
         ·exact(hT x y hx hy).up (by omega)
      ·obtain⟨T,z6,e,hT⟩:=q
       rw[Yz]at hT
       exact⟨T,_,_,e,λx y hx hy=>(hT x y hx hy).up (by omega)⟩
    ·obtain⟨T,z5,z6,e,hT⟩:=q
     rw[Xf]at hT
     exact⟨T,_,_,_,_,e,λx y hx hy=>(hT x y hx hy).up (by omega)⟩
  ·obtain⟨T,z3,z4,z5,z6,rfl,hT⟩:=q
   rw[Xf]at hT
   exact Yav rfl ⟨T,Zf7 _ _,λi j hi hj=>(Z1f B0 bB (by omega) (hT i j hi hj)).up (by omega)⟩
 obtain⟨d,h,T,rfl,hT⟩:=key
 exact⟨T,h,hT⟩
theorem Z4c(b:Bool):gIx (.list [.int 2,.int 1]) (.int (if b then 1 else 0))=some (.fz (.int (if b then 1 else 2))):=by cases b<;>rfl
theorem Zq5(b:Bool)(u:Int):gIx (.list [.int u,.int 0]) (.int (if b then 1 else 0))=some (.fz (.int (if b then 0 else u))):=by cases b<;>rfl
theorem Zyg{sc:Int}(s0:0≤sc)(s1:sc≤40){L:List (List Int×Rat)}(lL:L.length≤16)(hL:∀p∈L,Gc p):∃T,Told Ju [.int sc,Zfb L] (W5 5 (frG T))∧∀i j,i<5->j<5->Qb 620 (T i j):=by
 obtain⟨T,Tt,hT⟩:=Ztp lL hL
 have key:∃d,Told Ju [.int sc,Zfb L] d∧∃rows:List (List Rat),d=tbD rows∧rows.length=5∧∀r∈rows,r.length=5∧∀q∈r,Qb 620 q:=by
  refine Znm rfl<|Ws (Zy (d:=Zj [1,1,1,-1,-1]) (W4 (Zb Zq (Zb Zq (Zb Zq (Zb (Zfj Zq) (Zb (Zfj Zq) Zi))))) (show 5≤1000 by decide)))<|Ws Zo3<|Zj9 (ds:=Zgg 0 5) (λk δ=>∃(R:List (List Rat)) (z4:Option OT),δ=[some (.fz (.int sc)),some (.fz (Zfb L)),some (.fz (Zj [1,1,1,-1,-1])),some (.nd ((R.map Yx).map OT.fz)),z4,none]∧R.length=k∧∀r∈R,r.length=5∧∀q∈r,Qb 9 q) (Zc8 (n:=5) (Zb Zq Zi) (by decide)) ⟨[],none,rfl,rfl,λ_ m=>nomatch m⟩ (λk d δ hd q=>?_) λδ' q=>?_
  ·obtain⟨R,z4,rfl,lR,hR⟩:=q
   obtain⟨hk,rfl⟩:=W3 hd
   rw[Vb]
   obtain⟨r,er,lr,hr⟩:=Zee (caps:=[0,2,4]) (it:=iRa (Za (fC (.int 5)) Zn)) (me:=Zby (Za (Zd Jk (Ze 1) (Zt gIx (Zbb (Za (Zt gIx (Zbb (Za (fC (.int 2)) (Za (fC (.int 1)) Zn))) (Wr Zm9 (Za (Zd gNe (Zt gIx (Ze 2) (Ze 3)) (Zt gIx (Ze 2) (Ze 0))) Zn))) (Za (fC (.int 0)) Zn))) (Wr Zm9 (Za (Zd gEq (Ze 3) (Ze 0)) Zn)))) (Za (fC (.int 1)) Zn))) (cs:=[some (.fz (.int sc)),some (.fz (Zj [1,1,1,-1,-1])),some (.fz (.int (k:Int)))]) (δ:=[some (.fz (.int sc)),some (.fz (Zfb L)),some (.fz (Zj [1,1,1,-1,-1])),some (.nd ((R.map Yx).map OT.fz)),some (.fz (.int (k:Int))),none]) (Xn 5) (λj:Nat=>Xk (0+(j:Int))) (Qb 9) (Zc8 (n:=5) (Zb Zq Zi) (by decide)) (by decide) rfl λj hj=>by
    have hj:=QB.mp hj
    have at':∀{e:FE} {x:Nat} {δ:Zm},δ[2]? =some (some (.fz (Zj [1,1,1,-1,-1])))->EvV e δ (.int (x:Int))->x<5->EvV (Zt gIx (Ze 2) e) δ (.int (([1,1,1,-1,-1]:List Int).getD x 0)):=λh2 he hx=>Z8 (Zc h2) he (by rw[Y4 (by omega) (by show((_:Nat):Int)<5;omega),Qn])
    have vj:EvV (Ze 0) [some (.fz (.int (0+(j:Int)))),some (.fz (.int sc)),some (.fz (Zj [1,1,1,-1,-1])),some (.fz (.int (k:Int)))] (.int (j:Int)):=(Zc (d:=.int (0+(j:Int))) rfl).cast (by rw[Vb])
    have el:=Z8 (δ:=[some (.fz (.int (0+(j:Int)))),some (.fz (.int sc)),some (.fz (Zj [1,1,1,-1,-1])),some (.fz (.int (k:Int)))]) (W4 (Zb (Z8 (W4 (Zb (Zq (d:=.int 2)) (Zb (Zq (d:=.int 1)) Zi)) (show 2≤1000 by decide)) (Jf (Zb (Zkk (at' rfl (Zc (i:=3) rfl) (by omega)) (at' rfl vj (by omega)) rfl) Zi) (Zll _)) (Z4c _)) (Zb (Zq (d:=.int 0)) Zi)) (show 2≤1000 by decide)) (Jf (Zb (Zfx (Zc (i:=3) rfl) vj rfl) Zi) (Zll _)) (Zq5 _ _)
    obtain⟨v,ev,v0,v2⟩:∃v:Int,EvV (Zt gIx (Zbb (Za (Zt gIx (Zbb (Za (fC (.int 2)) (Za (fC (.int 1)) Zn))) (Wr Zm9 (Za (Zd gNe (Zt gIx (Ze 2) (Ze 3)) (Zt gIx (Ze 2) (Ze 0))) Zn))) (Za (fC (.int 0)) Zn))) (Wr Zm9 (Za (Zd gEq (Ze 3) (Ze 0)) Zn))) [some (.fz (.int (0+(j:Int)))),some (.fz (.int sc)),some (.fz (Zj [1,1,1,-1,-1])),some (.fz (.int (k:Int)))] (.int v)∧0≤v∧v≤2:=by
     refine⟨_,el,?_,?_⟩
     ·split
      ·exact Int.le_refl _
      ·split<;>decide
     ·split
      ·decide
      ·split<;>decide
    have m0:0≤sc*v:=Int.mul_nonneg s0 v0
    have m1:sc*v≤80:=by
     obtain h|h|h:v=0∨v=1∨v=2:=by omega
     all_goals (rw[h];omega)
    exact⟨((sc*v:Int):Rat),Jo (Zb (Jd (Zc (i:=1) rfl) ev (by omega)) (Zb Zq Zi)) (show 2≤1000 by decide),qbI (Bt.of_lt (m:=9) (by omega) (by omega)) (by decide)⟩
   refine⟨_,_,rfl,.inl (Zox (ts:=(R.map Yx).map OT.fz) er rfl (by rw[Xf,Xf];omega)),R ++ [r],some (.fz (.int (k:Int))),?_,by rw[X6,lR];rfl,λx m=>?_⟩
   ·rw[QJ,QJ];rfl
   ·rcases QV.mp m with m|m
    ·exact hR x m
    ·rw[Qj.mp m];exact⟨by rw[lr];rfl,hr⟩
  ·obtain⟨R,z4,rfl,lR,hR⟩:=q
   rw[Yz]at lR
   obtain⟨M,hM⟩:∃M,M=(Xn 5).map λi=>(Xn 5).map λj=>T i j:=⟨_,rfl⟩
   have lM:M.length=5:=by rw[hM,Xf];rfl
   have pM:∀r∈M,r.length=5∧∀q∈r,Qb 600 q:=λr m=>by
    rw[hM]at m
    obtain⟨i,hi,rfl⟩:=XQ.mp m
    refine⟨by rw[Xf];rfl,λq mq=>?_⟩
    obtain⟨j,hj,rfl⟩:=XQ.mp mq
    exact hT i j (QB.mp hi) (QB.mp hj)
   rw[Zqy,←hM]at Tt
   obtain⟨rows,er,lr,hr⟩:=Zwc (β:=List Rat) Yx (caps:=[]) (it:=Zdb (Za (Ze 3) (Za (Ze 5) Zn))) (g:=gTp 2 (gCn (gNm 0) (gCn (gNm 1) gNl))) (me:=Z6 2 [] (Zdb (Za (Ze 0) (Za (Ze 1) Zn))) (gTp 2 (gCn (gNm 0) (gCn (gNm 1) gNl))) Zak (Zu Zx (Za (Ze 0) (Za (Ze 1) Zn)))) (cs:=[]) (δ:=[some (.fz (.int sc)),some (.fz (Zfb L)),some (.fz (Zj [1,1,1,-1,-1])),some (.fz (.list (R.map Yx))),z4,some (.fz (tbD M))]) (R.zip M) (λp=>.tuple [Yx p.1,Yx p.2]) (λr=>r.length=5∧∀q∈r,Qb 620 q) (Ziz (Zc (i:=3) rfl) (Zc (i:=5) rfl) (Zfa _ _ _ _)) (by rw[Q7];omega) rfl λp hp=>by
    obtain⟨p1,p2⟩:=Bv hp
    obtain⟨l1,h1⟩:=hR _ p1
    obtain⟨l2,h2⟩:=pM _ p2
    obtain⟨v,ev,lv,hv⟩:=Zlh (caps:=[]) (it:=Zdb (Za (Ze 0) (Za (Ze 1) Zn))) (g:=gTp 2 (gCn (gNm 0) (gCn (gNm 1) gNl))) (me:=Zu Zx (Za (Ze 0) (Za (Ze 1) Zn))) (cs:=[]) (δ:=[some (.fz (Yx p.1)),some (.fz (Yx p.2))]) (p.1.zip p.2) (λq=>.tuple [frD q.1,frD q.2]) (Qb 620) (Ziz (Zc (i:=0) rfl) (Zc (i:=1) rfl) (Zfa _ _ _ _)) (by rw[Q7];omega) rfl λq hq=>by
     obtain⟨q1,q2⟩:=Bv hq
     exact⟨q.1+q.2,((h1 _ q1).add (h2 _ q2)).up (by decide),λz0 z1=>⟨_,_,rfl,Zr (Zb (Zc rfl) (Zb (Zc rfl) Zi)) (Zli (h1 _ q1) (h2 _ q2) (by decide))⟩⟩
    exact⟨v,⟨by rw[lv,Q7];omega,hv⟩,λz0 z1=>⟨_,_,rfl,ev⟩⟩
   refine Ws (Zy (Zr (Zb Zq (Zb (Zc (i:=1) rfl) Zi)) Tt)) (Zm0 (o:=.nd ((R.map Yx).map OT.fz)) rfl ?_)
   rw[OT.data_nd,OT.map_fz]
   exact Zcz er ⟨rows,rfl,by rw[lr,Q7];omega,hr⟩
 obtain⟨d,h,rows,rfl,l,hr⟩:=key
 obtain⟨T2,e,h2⟩:=Zz0 l (Qb 620) hr
 exact⟨T2,e▸h,h2⟩
theorem Yb7{w:Nat}(h:w<3):∃d:Int,gIx (.list [.int 0,.int 2,.int 90]) (.int (w:Int))=some (.fz (.int d))∧0≤d∧d≤90:=by
 obtain rfl|rfl|rfl:w=0∨w=1∨w=2:=by omega
 all_goals exact⟨_,rfl,by decide,by decide⟩
theorem Zte{n:Nat}(h3:3≤n)(hn:n≤7){vs xs:List Int}(lv:vs.length=n)(hv:∀v∈vs,-20≤v∧v≤20)(lx:xs.length=58)(hx:∀v∈xs,Sm v):∃(T:Nat->Nat->Rat) (N:Nat),Told Zal [.int n,Zj vs,Zj xs] (W5 n (frG T))∧(N=20∨N=620∧n=5)∧∀i j,i<n->j<n->Qb N (T i j):=by
 have gAt:∀{k:Nat},k<58->gIx (Zj xs) (.int (k:Int))=some (.fz (.int (xs.getD k 0))):=fun{k} hk=>by rw[Y4 (by omega) (by omega),Qn]
 have nn:∀(i j:Int),0<j->0≤i.fmod j∧i.fmod j<j:=λi j h=>⟨Zbr h,Zbx h⟩
 have e0:Z6 1 [0] (iRa (Za (Ze 0) Zn)) (gNm 0) Zak (Z6 1 [] (iRa (Za (Ze 1) Zn)) (gNm 0) Zak (Zby (Za (fC (.int 0)) (Za (fC (.int 1)) Zn)))) (Za8 7 [.int n,Zj vs,Zj xs])=some (Wy n (frG λ_ _=>0),Za8 7 [.int n,Zj vs,Zj xs]):=by
  refine(Zfr (cs:=[some (.fz (.int n))]) (Xn n) (λi:Nat=>Xk (0+(i:Int))) (λi=>.nd ((Xn n).map λj=>.fz (frD 0))) (Zc8 (n:=n) (Zb (Zc (i:=0) rfl) Zi) (by omega)) (by rw[XC,Qe];omega) rfl λx _=>?_).trans rfl
  exact Zfr (cs:=[]) (Xn n) (λi:Nat=>Xk (0+(i:Int))) (λ_=>.fz (frD 0)) (Zc8 (n:=n) (Zb (Zc (i:=1) rfl) Zi) (by omega)) (by rw[XC,Qe];omega) rfl λx _=>rfl
 obtain⟨E,hE⟩:∃E:OT->Option OT->Option OT->Option OT->Zm,E= λg z4 z5 z6=>[some (.fz (.int n)),some (.fz (Zj vs)),some (.fz (Zj xs)),some g,z4,z5,z6]:=⟨_,rfl⟩
 have w0:∀{g a b c},(E g a b c)[0]? =some (some (.fz (.int n))):=by rw[hE];exact fun{_ _ _ _}=>rfl
 have w1:∀{g a b c},(E g a b c)[1]? =some (some (.fz (Zj vs))):=by rw[hE];exact fun{_ _ _ _}=>rfl
 have w2:∀{g a b c},(E g a b c)[2]? =some (some (.fz (Zj xs))):=by rw[hE];exact fun{_ _ _ _}=>rfl
 have st:wE (Z6 1 [0] (iRa (Za (Ze 0) Zn)) (gNm 0) Zak (Z6 1 [] (iRa (Za (Ze 1) Zn)) (gNm 0) Zak (Zby (Za (fC (.int 0)) (Za (fC (.int 1)) Zn))))) (Zc9 3) (Za8 7 [.int n,Zj vs,Zj xs])= .nx (E (Wy n (frG λ_ _=>0)) none none none):=(Zil e0).trans (by rw[hE];rfl)
 have ta:=Zc4 (Zfx (δ:=E (Wy n (frG λ_ _=>0)) none none none) (Zc w0) (Zq (d:=.int 5)) rfl)
 have tb:=Zc4 (Zfx (δ:=E (Wy n (frG λ_ _=>0)) none none none) (Yb (Z8 (Zc w2) (Zq (d:=.int 20)) (gAt (k:=20) (by decide))) (Zq (d:=.int 2)) (by decide)) (Zq (d:=.int 0)) rfl)
 have t:=Zqr ta tb
 have a40:=nn (xs.getD 21 0) 40 (by decide)
 cases c:(decide ((n:Int)=5)&&decide ((xs.getD 20 0).fmod 2=0))with
 | true=>
  rw[c]at t
  rw[Xo]at c
  have n5:n=5:=by have:=of_decide_eq_true c.1;omega
  obtain⟨L,TL,lL,hL⟩:=Zmu lx hx
  obtain⟨T,TT,hT⟩:=Zyg (sc:=1+(xs.getD 21 0).fmod 40) (by omega) (by omega) lL hL
  obtain⟨o,e,d⟩:=Zr (δ:=E (Wy n (frG λ_ _=>0)) none none none) (Zb (Yn (Zq (d:=.int 1)) (Yb (Z8 (Zc w2) (Zq (d:=.int 21)) (gAt (k:=21) (by decide))) (Zq (d:=.int 40)) (by decide))) (Zb (Zr (Zb (Zq (d:=.int 5)) (Zb (Zc w2) Zi)) TL) Zi)) TT
  refine⟨T,620,Z4 rfl (Z3 st (Z3 (Zdg t (Zil e)) (Z26 (i:=3) (o:=o) (by rw[hE];rfl) (by rw[d,n5])))),.inr ⟨rfl,n5⟩,λi j hi hj=>hT i j (by omega) (by omega)⟩
 | false=>
  rw[c]at t
  have key:∃δ',Za2 (Zbu (Zu Yh (Za (Ze 0) Zn))) (gTp 2 (gCn (gNm 4) (gCn (gNm 5) gNl))) (Z1 (wE (Zd Wx (Zd Y5 (Zt gIx (Ze 2) (Zd Y5 (Zd Wx (Zd Jk (fC (.int 3)) (Ze 4)) (Ze 5)) (fC (.int 18)))) (fC (.int 7))) (Zd Jk (Zt gIx (Zbb (Za (fC (.int 0)) (Za (fC (.int 2)) (Za (fC (.int 90)) Zn)))) (Zd Y5 (Zt gIx (Ze 2) (fC (.int 21))) (fC (.int 3)))) (Wr Zm9 (Za (Zd gGt (Zd Jk (Zt gIx (Ze 1) (Ze 4)) (Zt gIx (Ze 1) (Ze 5))) (fC (.int 0))) Zn)))) (Yt 6)) (Z1 (Zgr 3 (Zu Z5 (Za (Ze 6) (Za (Zd Wx (fC (.int 1)) (Zd Y5 (Zt gIx (Ze 2) (fC (.int 21))) (fC (.int 2)))) Zn))) (Ze 4) (Ze 5)) (Zgr 3 (Zmx (Zt gIx (Zt gIx (Zqg 3) (Ze 4)) (Ze 5))) (Ze 5) (Ze 4)))) (E (Wy n (frG λ_ _=>0)) none none none)= .nx δ'∧∃(T:Nat->Nat->Rat) (z4 z5 z6:Option OT),δ'=E (Wy n (frG T)) z4 z5 z6∧∀i j,i<n->j<n->Qb 20 (T i j):=by
   refine Zsk (ds:=(Zz n).map ptD) (λ_ δ=>∃(T:Nat->Nat->Rat) (z4 z5 z6:Option OT),δ=E (Wy n (frG T)) z4 z5 z6∧∀i j,i<n->j<n->Qb 20 (T i j)) (W6 (Zr (Zb (Zc w0) Zi) (Zdm n (by omega)))) ⟨_,none,none,none,rfl,λ_ _ _ _=>qb0.up (by decide)⟩ λk d δ hd q=>?_
   obtain⟨T,z4,z5,z6,rfl,hT⟩:=q
   rw[Xl]at hd
   cases hp:(Zz n)[k]? with
   | none=>rw[hp]at hd;cases hd
   | some p=>
    rw[hp]at hd
    cases hd
    obtain⟨l1,l2⟩:=J8 (Qc hp)
    obtain⟨i,j⟩:=p
    have w4:∀{g c},(E g (some (.fz (.int (i:Int)))) (some (.fz (.int (j:Int)))) c)[4]? =some (some (.fz (.int (i:Int)))):=by rw[hE];exact fun{_ _}=>rfl
    have w5:∀{g c},(E g (some (.fz (.int (i:Int)))) (some (.fz (.int (j:Int)))) c)[5]? =some (some (.fz (.int (j:Int)))):=by rw[hE];exact fun{_ _}=>rfl
    obtain⟨a,ea,la⟩:=Wk (3*(i:Int)+(j:Int)) (n:=18) (by decide)
    obtain⟨w,ew,lw⟩:=Wk (xs.getD 21 0) (n:=3) (by decide)
    obtain⟨d9,e9,d90,d91⟩:=Yb7 lw
    have sg:∀{x:Nat},x<n->-20≤vs.getD x 0∧vs.getD x 0≤20:=fun{x} hx'=>hv _ (by rw[Xh,Xg (by omega)];exact QD _)
    have sAt:∀{x:Nat},x<n->gIx (Zj vs) (.int (x:Int))=some (.fz (.int (vs.getD x 0))):=fun{x} hx'=>by rw[Y4 (by omega) (by omega),Qn]
    have b1:=sg (x:=i) (by omega)
    have b2:=sg (x:=j) l2
    have b7:=nn (xs.getD a 0) 7 (by decide)
    obtain⟨far,ef,f0,f1⟩:∃far:Int,EvV (Zd Wx (Zd Y5 (Zt gIx (Ze 2) (Zd Y5 (Zd Wx (Zd Jk (fC (.int 3)) (Ze 4)) (Ze 5)) (fC (.int 18)))) (fC (.int 7))) (Zd Jk (Zt gIx (Zbb (Za (fC (.int 0)) (Za (fC (.int 2)) (Za (fC (.int 90)) Zn)))) (Zd Y5 (Zt gIx (Ze 2) (fC (.int 21))) (fC (.int 3)))) (Wr Zm9 (Za (Zd gGt (Zd Jk (Zt gIx (Ze 1) (Ze 4)) (Zt gIx (Ze 1) (Ze 5))) (fC (.int 0))) Zn)))) (E (Wy n (frG T)) (some (.fz (.int (i:Int)))) (some (.fz (.int (j:Int)))) z6) (.int far)∧0≤far∧far≤100:=by
     refine⟨_,Yn (Yb (Z8 (Zc w2) (ea▸Yb (Yn (Jd (Zq (d:=.int 3)) (Zc w4)) (Zc w5)) (Zq (d:=.int 18)) (by decide)) (gAt (k:=a) (by omega))) (Zq (d:=.int 7)) (by decide)) (Jd (Z8 (W4 (Zb Zq (Zb Zq (Zb Zq Zi))) (show 3≤1000 by decide)) (ew▸Yb (Z8 (Zc w2) (Zq (d:=.int 21)) (gAt (k:=21) (by decide))) (Zq (d:=.int 3)) (by decide)) e9) (Jf (Zb (Zv6 (Jd (Z8 (Zc w1) (Zc w4) (sAt (by omega))) (Z8 (Zc w1) (Zc w5) (sAt l2)) (by omega)) (Zq (d:=.int 0)) rfl) Zi) (Zll _)) (by omega)),?_,?_⟩
     ·split<;>omega
     ·split<;>omega
    have b21:=nn (xs.getD 21 0) 2 (by decide)
    have Bd:Bt 20 (1+(xs.getD 21 0).fmod 2):=Bt.of_lt (by omega) (by omega)
    have Bf:Bt 20 far:=Bt.of_lt (by omega) (by omega)
    have ql:Qb 20 (QZ far (1+(xs.getD 21 0).fmod 2)):=Znl (by omega) Bf Bd
    refine⟨E (Wy n (frG T)) (some (.fz (.int (i:Int)))) (some (.fz (.int (j:Int)))) z6,_,by rw[hE];rfl,.inl (J4 (δ':=E (Wy n (frG T)) (some (.fz (.int (i:Int)))) (some (.fz (.int (j:Int)))) (some (.fz (.int far)))) ((Zy ef).trans (by rw[hE];rfl)) (Zoj (s:=3) (ia:=4) (ib:=5) (q:=QZ far (1+(xs.getD 21 0).fmod 2)) (Zr (Zb (Zc (i:=6) (d:=.int far) (by rw[hE];rfl)) (Zb (Yn Zq (Yb (Z8 (Zc w2) (Zq (d:=.int 21)) (gAt (k:=21) (by decide))) Zq (by decide))) Zi)) (Zat (by omega) Bd (by decide))) (by rw[hE];rfl) w4 w5 (by decide) (by decide) (by omega) l2)),upT T i j (QZ far (1+(xs.getD 21 0).fmod 2)),some (.fz (.int (i:Int))),some (.fz (.int (j:Int))),some (.fz (.int far)),by rw[hE];rfl,λx y hx hy=>?_⟩
    unfold upT
    split
    ·exact ql
    ·split
     ·exact ql
     ·exact hT x y hx hy
  obtain⟨δ',ef,T,z4,z5,z6,rfl,hT⟩:=key
  exact⟨T,20,Z4 rfl (Z3 st (Z3 (Yd t ef) (Z26 (i:=3) (o:=Wy n (frG T)) (by rw[hE];rfl) (Zf7 _ _)))),.inl rfl,hT⟩
noncomputable def Z0p(n k:Nat):Nat:=((Xn k).flatMap λi=>(Xn (n-(i+1))).map λj=>(i,i+1+j)).length
theorem Zyo:∀n≤10,∀i<n,∀j<n-(i+1),(Zz n)[Z0p n i+j]? =some (i,i+1+j):=by decide +kernel
theorem Zy9:∀n≤10,∀i<n,Z0p n (i+1)=Z0p n i+(n-(i+1)):=by decide +kernel
theorem Zu8:∀n≤10,Z0p n n=(Zz n).length:=by decide +kernel
theorem Z9d{X:Zm}{m:Nat}(h:X.length=m)(za zb v:Option OT):(X ++ [za,zb]).set m v=X ++ [v,zb]:=by
 rw[List.set_append_right _ _ (by omega),h,Nat.sub_self];rfl
theorem Z85{X:Zm}{m:Nat}(h:X.length=m)(za zb v:Option OT):(X ++ [za,zb]).set (m+1) v=X ++ [za,v]:=by
 rw[List.set_append_right _ _ (by omega),h,Nat.add_sub_cancel_left];rfl
theorem Z83{X:Zm}{m:Nat}(h:X.length=m)(za zb:Option OT):(X ++ [za,zb])[m]? =some za:=by
 rw[JN (by omega),h,Nat.sub_self];rfl
theorem Zka{n m:Nat}(hn:n≤10){X:Nat->Zm}(lX:∀k,(X k).length=m){en:FE}(hen:∀k za zb,EvV en (X k ++ [za,zb]) (.int n)){body:FS}(turn:∀k i j,(Zz n)[k]? =some (i,j)->body (X k ++ [some (.fz (.int (i:Int))),some (.fz (.int (j:Int)))])= .nx (X (k+1) ++ [some (.fz (.int (i:Int))),some (.fz (.int (j:Int)))]))(za zb:Option OT) :
  ∃za' zb',Za2 (iRa (Za en Zn)) (gNm m) (Za2 (iRb (Za (Zd Wx (Ze m) (fC (.int 1))) (Za en Zn))) (gNm (m+1)) body) (X 0 ++ [za,zb])= .nx (X (Zz n).length ++ [za',zb']):=by
 obtain⟨δ',e,za',zb',h⟩:=Zsk (ds:=Zgg 0 n) (S:=Za2 (iRb (Za (Zd Wx (Ze m) (fC (.int 1))) (Za en Zn))) (gNm (m+1)) body) (g:=gNm m) (it:=iRa (Za en Zn)) (δ:=X 0 ++ [za,zb]) (λi δ=>∃za zb,δ=X (Z0p n i) ++ [za,zb]) (Zc8 (Zb (hen _ _ _) Zi) (by omega)) ⟨za,zb,rfl⟩ λi d δ hd q=>by
  obtain⟨za,zb,rfl⟩:=q
  obtain⟨hi,rfl⟩:=W3 hd
  rw[Vb]
  refine Zh8 (δ1:=X (Z0p n i) ++ [some (.fz (.int (i:Int))),zb]) (ds:=Zgg ((i+1:Nat):Int) (n-(i+1))) (λj δ=>∃zb,δ=X (Z0p n i+j) ++ [some (.fz (.int (i:Int))),zb]) (congrArg some (Z9d (lX _) _ _ _)) (Zva (m:=i+1) (n:=n) (Zb ((Yn (Zc (Z83 (lX _) _ _)) (Zq (d:=.int 1))).cast (congrArg Xk (by omega:(i:Int)+1=((i+1:Nat):Int)))) (Zb (hen _ _ _) Zi)) (by omega) (by omega)) ⟨zb,rfl⟩ (λj d δ hd q=>?_) λδ' q=>?_
  ·obtain⟨zb,rfl⟩:=q
   obtain⟨hj,rfl⟩:=W3 hd
   rw[show((i+1:Nat):Int)+(j:Int)=((i+1+j:Nat):Int) by omega]
   exact⟨_,_,congrArg some (Z85 (lX _) _ _ _),.inl (turn _ i (i+1+j) (Zyo n hn i hi j hj)),_,rfl⟩
  ·obtain⟨zb,rfl⟩:=q
   rw[Yz,←Zy9 n hn i hi]
   exact⟨_,_,rfl⟩
 rw[Yz,Zu8 n hn]at h
 exact⟨za',zb',h▸e⟩
theorem Zoa{α β:Type}{a:List α}{b:List β}{k:Nat}{y:β}(l:a.length=b.length)(h:b[k]? =some y):∃x,a[k]? =some x∧(a.zip b)[k]? =some (x,y):=by
 have hk:=(Xm.mp h).1
 refine⟨a[k]'(by omega),Xg _,?_⟩
 rw[UT]
 exact⟨Xg _,h⟩
theorem Zwm{δ:Zm}{a b:FE}{r:List Rat}{k:Nat}{q:Rat}(ha:EvV a δ (Yx r))(hb:EvV b δ (.int (k:Int)))(h:r[k]? =some q):EvV (Zt gIx a b) δ (frD q):=Z8 ha hb (by unfold Yx;rw[Zhn,Zd5,Xl,h];rfl)
theorem Zky{n N:Nat}(hn:n≤7){r:List Rat}(lr:r.length=(Zz n).length)(hr:∀q∈r,Qb N q)(hN:(Zz n).length*(N+1)+1+N≤9000)(s:List Int):Told Zae [.int n,Yx r,Zj s] (frD (pS n r s)):=by
 obtain⟨v,hv⟩:∃v:Nat->Rat,v= λk=>((((r.zip (Zz n)).take k).filter λx=>pts x.2 s).map λx=>x.1).sum:=⟨_,rfl⟩
 have step:∀k i j q,r[k]? =some q->(r.zip (Zz n))[k]? =some (q,(i,j))->v (k+1)=if pts (i,j) s=true then v k+q else v k:=λk i j q h1 h2=>by
  rw[hv]
  dsimp only
  rw[Us,h2,Option.toList_some,List.filter_append,QJ]
  by_cases c:pts (i,j) s=true
  ·rw[if_pos c,List.filter_cons_of_pos (p:=λx:Rat×(Nat×Nat)=>pts x.2 s) c,List.filter_nil,List.map_singleton,Zod]
  ·rw[if_neg c,List.filter_cons_of_neg (p:=λx:Rat×(Nat×Nat)=>pts x.2 s) c,List.filter_nil,List.map_nil,Bb]
 have qv:∀k,k≤(Zz n).length->Qb (k*(N+1)+1) (v k):=λk=>by
  induction k with
  | zero=>intro _;rw[hv,Nat.zero_mul];exact qb0
  | succ k ih=>
   intro hk
   obtain⟨q,h1,h2⟩:=Zoa (k:=k) (y:=(Zz n)[k]'(by omega)) lr (Xg _)
   rw[step k _ _ q h1 h2,Uq]
   split
   ·exact((ih (by omega)).add (hr q (Qc h1))).up (by omega)
   ·exact(ih (by omega)).up (by omega)
 have mono:∀k,k≤(Zz n).length->k*(N+1)≤(Zz n).length*(N+1):=λk h=>Nat.mul_le_mul_right _ h
 obtain⟨za,zb,e⟩:=Zka (n:=n) (m:=5) (by omega) (X:=λk=>[some (.fz (.int n)),some (.fz (Yx r)),some (.fz (Zj s)),some (.fz (frD (v k))),some (.fz (.int (k:Int)))]) (λ_=>rfl) (en:=Ze 0) (λ_ _ _=>Zc rfl) (body:=Z1 (J0 (tV (Zd gNe (Zd (Ztw false) (Ze 5) (Ze 2)) (Zd (Ztw false) (Ze 6) (Ze 2)))) (wE (Zu Zx (Za (Ze 3) (Za (Zt gIx (Ze 1) (Ze 4)) Zn))) (Yt 3)) fNx) (wE (Zd Wx (Ze 4) (fC (.int 1))) (Yt 4))) (λk i j hk=>by
  have hl:=(Xm.mp hk).1
  obtain⟨q,h1,h2⟩:=Zoa lr hk
  have st:=step k i j q h1 h2
  have:=mono k (by omega)
  have t:=Zc4 (Z0 (g:=gNe) (δ:=[some (.fz (.int n)),some (.fz (Yx r)),some (.fz (Zj s)),some (.fz (frD (v k))),some (.fz (.int (k:Int))),some (.fz (.int (i:Int))),some (.fz (.int (j:Int)))]) (Z0 (Zc (i:=5) rfl) (Zc (i:=2) rfl) (Zfo false (i:Int) s)) (Z0 (Zc (i:=6) rfl) (Zc (i:=2) rfl) (Zfo false (j:Int) s)) (Zxb _ _))
  have t:EvT _ _ (pts (i,j) s):=t
  have fin:∀x:Rat,(wE (Zd Wx (Ze 4) (fC (.int 1))) (Yt 4)) [some (.fz (.int n)),some (.fz (Yx r)),some (.fz (Zj s)),some (.fz (frD x)),some (.fz (.int (k:Int))),some (.fz (.int (i:Int))),some (.fz (.int (j:Int)))]= .nx [some (.fz (.int n)),some (.fz (Yx r)),some (.fz (Zj s)),some (.fz (frD x)),some (.fz (.int ((k+1:Nat):Int))),some (.fz (.int (i:Int))),some (.fz (.int (j:Int)))]:=λx=>(Zy (Yn (Zc (i:=4) rfl) (Zq (d:=.int 1)))).trans rfl
  cases c:pts (i,j) s with
  | true=>
   rw[c]at t
   rw[c,if_pos rfl]at st
   refine J4 (Zdg t (Zy (Zr (Zb (Zc (i:=3) rfl) (Zb (Zwm (Zc (i:=1) rfl) (Zc (i:=4) rfl) h1) Zi)) (Zli (qv k (by omega)) (hr q (Qc h1)) (by omega))))) ?_
   rw[st]
   exact fin _
  | false=>
   rw[c]at t
   rw[c,if_neg Xu]at st
   refine J4 (Yd t rfl) ?_
   rw[st]
   exact fin _) none none
 have fin:v (Zz n).length=pS n r s:=by
  rw[hv]
  unfold pS
  dsimp only
  rw[List.take_of_length_le (by rw[Q7];omega)]
 refine Z4 rfl<|Z3 (Zy (d:=frD (v 0)) (by rw[hv];exact tw))<|Z3 (Zy (d:=.int ((0:Nat):Int)) Zq)<|Z3 e ?_
 rw[fin]
 exact Ys (Zc (i:=3) rfl)
theorem Zjm{n N M:Nat}(hn:n≤7){r:List Rat}{T:Nat->Nat->Rat}(lr:r.length=(Zz n).length)(hr:∀q∈r,Qb N q)(hT:∀i j,i<n->j<n->Qb M (T i j))(hN:(Zz n).length*(N+M+1)+1+(N+M)≤9000):Told Wq [W5 n (frG T),Yx r] (frD (tot r (dOf n T))):=by
 have ld:(dOf n T).length=(Zz n).length:=by unfold dOf;rw[Xf]
 obtain⟨v,hv⟩:∃v:Nat->Rat,v= λk=>(((r.zip (dOf n T)).take k).map λx=>x.1*x.2).sum:=⟨_,rfl⟩
 have dAt:∀k i j,(Zz n)[k]? =some (i,j)->(dOf n T)[k]? =some (T i j):=λk i j h=>by unfold dOf;rw[Xl,h];rfl
 have step:∀k q d,(r.zip (dOf n T))[k]? =some (q,d)->v (k+1)=v k+q*d:=λk q d h=>by
  rw[hv]
  dsimp only
  rw[Us,h,Option.toList_some,QJ,List.map_singleton,Zod]
 have qv:∀k,k≤(Zz n).length->Qb (k*(N+M+1)+1) (v k):=λk=>by
  induction k with
  | zero=>intro _;rw[hv,Nat.zero_mul];exact qb0
  | succ k ih=>
   intro hk
   obtain⟨⟨i,j⟩,hp⟩:∃p,(Zz n)[k]? =some p:=⟨_,Xg (by omega)⟩
   obtain⟨a1,a2⟩:=J8 (Qc hp)
   have a1:i<j:=a1
   have a2:j<n:=a2
   obtain⟨q,h1,h2⟩:=Zoa (lr.trans ld.symm) (dAt k i j hp)
   rw[step k q _ h2,Uq]
   exact((ih (by omega)).add ((hr q (Qc h1)).mul (hT _ _ (by omega) a2))).up (by omega)
 have mono:∀k,k≤(Zz n).length->k*(N+M+1)≤(Zz n).length*(N+M+1):=λk h=>Nat.mul_le_mul_right _ h
 obtain⟨za,zb,e⟩:=Zka (n:=n) (m:=4) (by omega) (X:=λk=>[some (.fz (W5 n (frG T))),some (.fz (Yx r)),some (.fz (frD (v k))),some (.fz (.int (k:Int)))]) (λ_=>rfl) (en:=Wr Zbs (Za (Ze 0) Zn)) (λ_ _ _=>Zi0 rfl) (body:=Z1 (wE (Zu Zx (Za (Ze 2) (Za (Zby (Za (Zd Jk (Zt gIx (Zt gIx (Ze 1) (Ze 3)) (fC (.int 0))) (Zt gIx (Zt gIx (Zt gIx (Ze 0) (Ze 4)) (Ze 5)) (fC (.int 0)))) (Za (Zd Jk (Zt gIx (Zt gIx (Ze 1) (Ze 3)) (fC (.int 1))) (Zt gIx (Zt gIx (Zt gIx (Ze 0) (Ze 4)) (Ze 5)) (fC (.int 1)))) Zn))) Zn))) (Yt 2)) (wE (Zd Wx (Ze 3) (fC (.int 1))) (Yt 3))) (λk i j hk=>by
  have hl:=(Xm.mp hk).1
  obtain⟨a1,a2⟩:=J8 (Qc hk)
  obtain⟨q,h1,h2⟩:=Zoa (lr.trans ld.symm) (dAt k i j hk)
  have:=mono k (by omega)
  have hq:=hr q (Qc h1)
  have hd:=hT i j (by omega) a2
  have eq:∀{δ:Zm},δ[1]? =some (some (.fz (Yx r)))->δ[3]? =some (some (.fz (.int (k:Int))))->EvV (Zt gIx (Ze 1) (Ze 3)) δ (frD q):=λx y=>Zwm (Zc x) (Zc y) h1
  have ed:∀{δ:Zm},δ[0]? =some (some (.fz (W5 n (frG T))))->δ[4]? =some (some (.fz (.int (i:Int))))->δ[5]? =some (some (.fz (.int (j:Int))))->EvV (Zt gIx (Zt gIx (Ze 0) (Ze 4)) (Ze 5)) δ (frD (T i j)):=λx y z=>Z8 (Z8 (Zc x) (Zc y) (d:=.list ((Xn n).map λj=>frG T i j)) (by unfold W5;rw[Zhn,Zd5,Xl,Qp (by omega)];rfl)) (Zc z) (by rw[Zhn,Zd5,Xl,Qp a2];rfl)
  have b0:0<(q.den:Int)*((T i j).den:Int):=Zlk q (T i j)
  have Tp:=Zu4 (q:=v k) (t:=q.num*(T i j).num) (b:=(q.den:Int)*((T i j).den:Int)) (qv k (by omega)) (hq.1.mul hd.1) b0 (hq.2.mul hd.2) (by omega)
  rw[Zl8]at Tp
  refine J4 (Zy (Zr (Zb (Zc (i:=2) rfl) (Zb (Jo (Zb (Z0 (Z8 (eq rfl rfl) (Zq (d:=.int 0)) rfl) (Z8 (ed rfl rfl rfl) (Zq (d:=.int 0)) rfl) (Zer (Zdp hq.1 hd.1 (by omega)))) (Zb (Z0 (Z8 (eq rfl rfl) (Zq (d:=.int 1)) rfl) (Z8 (ed rfl rfl rfl) (Zq (d:=.int 1)) rfl) (Zer (Zdp hq.2 hd.2 (by omega)))) Zi)) (show 2≤1000 by decide)) Zi)) Tp)) ?_
  rw[←step k q (T i j) h2]
  exact(Zy (Yn (Zc (i:=3) rfl) (Zq (d:=.int 1)))).trans rfl) none none
 have fin:v (Zz n).length=tot r (dOf n T):=by
  rw[hv]
  unfold tot
  dsimp only
  rw[List.take_of_length_le (by rw[Q7];omega)]
 refine Z4 rfl<|Z3 (Zy (d:=frD (v 0)) (by rw[hv];exact tw))<|Z3 (Zy (d:=.int ((0:Nat):Int)) Zq)<|Z3 e ?_
 rw[fin]
 exact Ys (Zc (i:=2) rfl)
noncomputable def Z1r(n:Nat)(r d:List Rat):Prop:=r.length=(Zz n).length∧tot r d<0∧∀s,Z1p n s->0≤pS n r s
theorem Zk9(q:Rat):q.num<0↔q<0:=by
 rw[Rat.lt_iff]
 show _↔q.num*1<0*(q.den:Int)
 rw[Int.zero_mul,Int.mul_one]
theorem Z8u{e:FE}{δ:Zm}{ds:List Xa}(h:EvV e δ (.tuple ds)):EvI (iTp e) δ ds:=by
 obtain⟨t,e1,d1⟩:=h
 unfold EvI
 rw[Z4j,e1,Xi,d1];rfl
theorem Zft{N:Nat}{q:Rat}(hq:Qb N q)(hN:N≤9000):Told Y0 [frD q] (.bool true):=by
 have b:=Wz q
 refine Z4 rfl<|Z3 (Yd (Zts (Zi8 (p:=true) (Zhs (Zhd Zc rfl))) (Zc4 (Zkk (Jf (Zb (Zc (d:=frD q)) Zi) (Zr0 [.int q.num,.int (q.den:Int)])) Zq rfl))) rfl)<|Zi3 (ds:=[.int q.num,.int (q.den:Int)]) (λ_ δ=>∃z,δ=[some (.fz (frD q)),z]) (Z8u (Zc rfl)) ⟨_,rfl⟩ (λk d δ hd z=>?_) λδ' z=>?_
 ·obtain⟨z,rfl⟩:=z
  obtain⟨x,rfl⟩:∃x:Int,d= .int x:=by
   rcases Xw.mp (Qc hd)with h|h
   ·exact⟨_,h⟩
   ·exact⟨_,Qj.mp h⟩
  exact⟨_,_,rfl,.inl (Yd (Zts (Zi8 (p:=true) (Zhs (Zhd (Zc (i:=1) rfl) rfl))) (Zhs (Zhd (Zc (i:=1) rfl) rfl))) rfl),_,rfl⟩
 ·obtain⟨z,rfl⟩:=z
  have L:=Zat (t:=q.num) b hq.2 hN
  rw[Ux]at L
  exact Ys (Zh9 (Zv6 (at1 rfl) Zq (decide_eq_true b)) (Z0 (Zr (Zb (at0 rfl) (Zb (at1 rfl) Zi)) L) (Zc (i:=0) rfl) ((Z41 q q).trans (by rw[decide_eq_true rfl]))))
theorem Zzj(L:List (List Int)):gEq (.list (L.map Zj)) (.list [])=some (.bool (decide (L=[]))):=by
 have s:Sh 2 (.list (L.map Zj)):=Zii λd m=>by
  obtain⟨x,_,rfl⟩:=XQ.mp m
  exact Zgh x
 have s':Be (.list (L.map Zj))=true:=(s.shp).ok
 unfold gEq
 rw[if_pos (by rw[s'];rfl)]
 cases L with
 | nil=>rfl
 | cons q r=>rfl
theorem Z53{n:Nat}(h0:1≤n)(hn:n≤7):((n:Int)*((n:Int)-1)).fdiv 2=((Zz n).length:Int)∧(Zz n).length≤21∧(n≤5->(Zz n).length≤10):=by
 obtain rfl|rfl|rfl|rfl|rfl|rfl|rfl:n=1∨n=2∨n=3∨n=4∨n=5∨n=6∨n=7:=by omega
 all_goals exact⟨by decide,by decide,by decide⟩
theorem Zn7{n M:Nat}(h0:1≤n)(hn:n≤7){r:List Rat}{T:Nat->Nat->Rat}(hr:∀q∈r,Qb 110 q)(lr:r.length≤1000)(hT:∀i j,i<n->j<n->Qb M (T i j))(hM:M=20∨M=620∧n=5):∃b:Bool,Told Za5 [W5 n (frG T),Yx r] (.bool b)∧(b=true↔Z1r n r (dOf n T)):=by
 obtain⟨hp,l1,l2⟩:=Z53 h0 hn
 have t1:EvT (tO (tNo (tD (Zla "list" (Ze 1)))) (tV (Zd gNe (Wr Zbs (Za (Ze 1) Zn)) (Zd Wm (Zd Jk (Ze 2) (Zd gSb (Ze 2) (fC (.int 1)))) (fC (.int 2)))))) [some (.fz (W5 n (frG T))),some (.fz (Yx r)),some (.fz (.int n))] (!decide (r.length=(Zz n).length)):=Zts (Zi8 (p:=true) (Zhs (Zhd (Zc (i:=1) (d:=Yx r) rfl) rfl))) (Zc4 (Zkk (Zl6 (Zc rfl)) (Za4 (Jd (Zc (i:=2) rfl) (Zi7 (Zc (i:=2) rfl) Zq) (by omega)) Zq) (by rw[hp];exact congrArg Bool.not (decide_eq_decide.mpr (by omega)))))
 by_cases c1:r.length=(Zz n).length
 ·rw[decide_eq_true c1]at t1
  have hN:(Zz n).length*(110+M+1)+1+(110+M)≤9000:=by
   rcases hM with rfl|⟨rfl,h5⟩
   ·omega
   ·have:=l2 (by omega);omega
  have eW:=Zjm hn c1 hr hT hN
  have tw':∀{p:Bool},decide (0≤(tot r (dOf n T)).num)=p->EvT (tO (tV (Zd gNe (Z6 1 [] (Zbu (Ze 1)) (gNm 0) (tNo (tD (Zu Y0 (Za (Ze 0) Zn)))) (Ze 0)) (Zbb Zn))) (tV (Zd gGe (Zt gIx (Zu Wq (Za (Ze 0) (Za (Ze 1) Zn))) (fC (.int 0))) (fC (.int 0))))) [some (.fz (W5 n (frG T))),some (.fz (Yx r)),some (.fz (.int n))] p:=λhp=>by
   refine Zts (Zc4 (Z0 (EvV.cast (y:=Yx []) (Zh4 (cs:=[]) r frD (λ_=>false) (W6 (Zc (i:=1) rfl)) (by omega) rfl (λq hq=>Zi8 (p:=true) (Zhs (Zr (Zb (Zc rfl) Zi) (Zft (hr q hq) (by decide))))) λq _ z=>nomatch z) ?_) (W4 Zi (show 0≤1000 by decide)) ((Zz3 []).trans rfl))) (Zc4 (Zzq (Z8 (Zr (Zb (Zc (i:=0) rfl) (Zb (Zc (i:=1) rfl) Zi)) eW) (Zq (d:=.int 0)) rfl) Zq hp))
   rw[List.filter_eq_nil_iff.mpr λ_ _=>Xu];rfl
  by_cases c2:tot r (dOf n T)<0
  ·have c2':=(Zk9 _).mpr c2
   obtain⟨Ls,eC,hC,lC⟩:=Zi2 h0 hn
   have hP:(Zz n).length*(110+1)+1+110≤9000:=by omega
   refine⟨decide (Ls.filter (λs=>decide ((pS n r s).num<0))=[]),Z4 rfl<|Z3 (Zy (Zi0 rfl))<|Z3 (Yd t1 rfl)<|Z3 (Yd (tw' (decide_eq_false (by omega))) rfl)<|Ys (Z0 (Zh4 (cs:=[some (.fz (.int n)),some (.fz (Yx r))]) Ls Zj (λs=>decide ((pS n r s).num<0)) (W6 (Zr (Zb (Zc (i:=2) rfl) Zi) eC)) (by omega) rfl (λs _=>Zc4 (Znz (Z8 (Zr (Zb (Zc (i:=1) rfl) (Zb (Zc (i:=2) rfl) (Zb (Zc (i:=0) rfl) Zi))) (Zky hn c1 hr hP s)) (Zq (d:=.int 0)) rfl) Zq rfl)) λs _ _=>rfl) (W4 Zi (show 0≤1000 by decide)) (Zzj _)),?_⟩
   rw[decide_eq_true_eq,List.filter_eq_nil_iff]
   refine⟨λh=>⟨c1,c2,λs hs=>?_⟩,λh s hs z=>?_⟩
   ·have:=h s ((hC s).mpr hs)
    rw[decide_eq_true_eq,Zk9]at this
    exact Rat.not_lt.mp this
   ·rw[decide_eq_true_eq,Zk9]at z
    exact Rat.not_lt.mpr (h.2.2 s ((hC s).mp hs)) z
  ·have c2':¬(tot r (dOf n T)).num<0:=λz=>c2 ((Zk9 _).mp z)
   exact⟨false,Z4 rfl<|Z3 (Zy (Zi0 rfl))<|Z3 (Yd t1 rfl)<|Zar (Zcp (tw' (decide_eq_true (by omega))) (Ys Zq)),(λz=>nomatch z),λg=>absurd g.2.1 c2⟩
 ·rw[decide_eq_false c1]at t1
  exact⟨false,Z4 rfl<|Z3 (Zy (Zi0 rfl))<|Zar (Zcp t1 (Ys Zq)),(λz=>nomatch z),λg=>absurd g.1 c1⟩
theorem Zux{n:Nat}(h0:1≤n)(hn:n≤7)(ts:List Int):∃b:Bool,Told Y6 [.int n,Zj ts] (.bool b)∧(b=true↔∀s,Z1p n s->0≤pI n ts s):=by
 obtain⟨Ls,eC,hC⟩:=Zn3 h0 hn
 have key:∃v,Told Y6 [.int n,Zj ts] v∧∃b,v= .bool b∧(b=true↔∀s,Z1p n s->0≤pI n ts s):=by
  refine Zuz rfl (Zq3 (Z2m (Zy (Zr (Zb Zc Zi) (Ze4 n (by omega)))) (Zq3 (Z0b (ds:=Ls.map Zj) (λk δ=>(∃z,δ=[some (.fz (.int n)),some (.fz (Zj ts)),some (.fz (.list ((Zz n).map ptD))),z])∧∀s∈Ls.take k,0≤pI n ts s) (W6 (Zr (Zb Zc Zi) eC)) ⟨⟨_,rfl⟩,λ_ m=>nomatch m⟩ (λk v δ hv q=>?_) λδ' q=>?_))))
  ·obtain⟨⟨z,rfl⟩,hp⟩:=q
   rw[Xl]at hv
   cases e:Ls[k]? with
   | none=>rw[e]at hv;cases hv
   | some s=>
    rw[e]at hv
    cases hv
    have et:Ls.take (k+1)=Ls.take k ++ [s]:=by rw[Us,e];rfl
    refine⟨_,rfl,Z4l (Zlq (Zc4 (Znz (Zr (Zb Zc (Zb Zc (Zb (Zr (Zb Zc (Zb Zc Zi)) (Zno (n:=n) (by omega) s)) Zi))) (Zrv (n:=n) (by omega) ts s)) Zq rfl)) ⟨λc=>Zsp (Zk6 Zq ⟨false,rfl,(λz=>nomatch z),λg=>?_⟩),λc=>Z3i ⟨⟨_,rfl⟩,λt ht=>?_⟩⟩)⟩
    ·have:=g s ((hC s).mp (Qc e))
     have:=of_decide_eq_true c
     omega
    ·rw[et]at ht
     have:=of_decide_eq_false c
     rcases QV.mp ht with z|z
     ·exact hp t z
     ·rw[Qj.mp z];omega
  ·obtain⟨⟨z,rfl⟩,hp⟩:=q
   rw[Xf,List.take_length]at hp
   exact Zsp (Zk6 Zq ⟨true,rfl,λ_ s hs=>hp s ((hC s).mpr hs),λ_=>rfl⟩)
 obtain⟨v,h,b,rfl,hb⟩:=key
 exact⟨b,h,hb⟩
theorem Zom{m:Int}(s:List Int):∀(r:List Rat) (ps:List (Nat×Nat)),(∀q∈r,(q.den:Int)∣m)->(((((ps.zip (r.map (scI m))).filter λx=>pts x.1 s).map λx=>x.2).sum:Int):Rat)=(((r.zip ps).filter λx=>pts x.2 s).map λx=>x.1).sum*(m:Rat)
 | [],ps,_=>by rw[List.map_nil,List.zip_nil_right];show((0:Int):Rat)=0*_;rw[Um];rfl
 | q :: r,[],_=>by show((0:Int):Rat)=0*_;rw[Um];rfl
 | q :: r,p :: ps,h=>by
  have ih:=Zom s r ps λq hq=>h q (.tail _ hq)
  rw[Qs,List.zip_cons_cons,List.zip_cons_cons,List.filter_cons,List.filter_cons]
  by_cases c:pts p s=true
  ·rw[if_pos c,if_pos c,Qs,Qs,U8,U8,Rat.intCast_add,ih,Rat.add_mul,Zoo (h q (.head _))]
  ·rw[if_neg c,if_neg c,ih]
theorem Zfc{n M:Nat}(h0:1≤n)(hn:n≤7){r:List Rat}{T:Nat->Nat->Rat}(hr:∀q∈r,Qb 110 q)(hT:∀i j,i<n->j<n->Qb M (T i j))(hM:M=20∨M=620∧n=5):∃b:Bool,Told Wb [W5 n (frG T),Yx r] (.bool b)∧(b=true↔Z1r n r (dOf n T)):=by
 obtain⟨hp,l1,l2⟩:=Z53 h0 hn
 have lT:(dOf n T).length=(Zz n).length:=by unfold dOf;rw[Xf]
 have hD:∀q∈dOf n T,Qb M q:=λq hq=>by
  unfold dOf at hq
  obtain⟨p,hp,rfl⟩:=XQ.mp hq
  obtain⟨a1,a2⟩:=J8 hp
  exact hT _ _ (by omega) a2
 have tR:EvT (tNo (tD (Zu W0 (Za (Ze 2) (Za (Ze 1) Zn))))) [some (.fz (W5 n (frG T))),some (.fz (Yx r)),some (.fz (.int n)),none,none,none] (!decide (r.length=(Zz n).length)):=Zi8 (Zhs (Zr (Zb (Zc (i:=2) rfl) (Zb (Zc (i:=1) rfl) Zi)) (Zqk (n:=n) (by omega) r)))
 by_cases c1:r.length=(Zz n).length
 ·rw[decide_eq_true c1]at tR
  have b1:r.length*110≤2310:=by omega
  have b2:(dOf n T).length*M+1+M≤9000∧110+(r.length*110+1)+(M+((dOf n T).length*M+1))≤9000:=by
   rcases hM with rfl|⟨rfl,h5⟩
   ·omega
   ·have:=l2 (by omega);omega
  obtain⟨m,e1,m0,bm,dm,e2⟩:=Ztn hr (by omega) (by omega)
  obtain⟨m',e3,m0',bm',dm',e4⟩:=Ztn hD b2.1 (by omega)
  obtain⟨b,eb,hb⟩:=Zux h0 hn (r.map (scI m))
  have mR:=Zy3 m0
  have hb2:b=true↔∀s,Z1p n s->0≤pS n r s:=hb.trans (forall_congr' λs=>forall_congr' λhs=>by
   have e:((pI n (r.map (scI m)) s:Int):Rat)=pS n r s*(m:Rat):=Zom s r (Zz n) dm
   rw[←Rat.intCast_nonneg,e]
   exact⟨λz=>Rat.not_lt.mp λy=>Rat.not_lt.mpr z (by have:=(Rat.mul_lt_mul_right mR (a:=pS n r s) (b:=0)).mpr y;rwa[Um]at this),λz=>Rat.mul_nonneg z (Rat.le_of_lt mR)⟩)
  obtain⟨A,hA⟩:∃A:Int,A=(((r.map (scI m)).zip ((dOf n T).map (scI m'))).map λp=>p.1*p.2).sum:=⟨_,rfl⟩
  have mm:=Zy3 (Int.mul_pos m0 m0')
  have eA:(A:Rat)=tot r (dOf n T)*((m*m':Int):Rat):=hA▸Zw9 r _ dm dm'
  have cA:A<0↔tot r (dOf n T)<0:=by
   rw[←Rat.intCast_lt_intCast,eA,←Rat.mul_lt_mul_right mm (a:=tot r (dOf n T)),Um];rfl
  have t3:∀{p:Bool},decide (A<0)=p->EvV (Zd gLt (Wr Ztu (Za (Z6 2 [] (Zdb (Za (Ze 3) (Za (Ze 5) Zn))) (gTp 2 (gCn (gNm 0) (gCn (gNm 1) gNl))) Zak (Zd Jk (Ze 0) (Ze 1))) Zn)) (fC (.int 0))) [some (.fz (W5 n (frG T))),some (.fz (Yx r)),some (.fz (.int n)),some (.fz (Zj (r.map (scI m)))),some (.fz (Yx (dOf n T))),some (.fz (Zj ((dOf n T).map (scI m'))))] (.bool p):=λhp=>by
   refine Znz (Jf (Zb (EvV.cast (Zve ((r.map (scI m)).zip ((dOf n T).map (scI m'))) (λp=>.tuple [.int p.1,.int p.2]) (λp=>.int (p.1*p.2)) (Ziz (Zc (i:=3) rfl) (Zc (i:=5) rfl) (Zfa _ _ _ _)) (by rw[Q7,Xf];omega) λp hp z0 z1=>?_) (y:=Zj (((r.map (scI m)).zip ((dOf n T).map (scI m'))).map λp=>p.1*p.2)) ?_) Zi) (by rw[Zie,←hA])) Zq hp
   ·obtain⟨h1,h2⟩:=Bv hp
    obtain⟨a,ha,e1⟩:=XQ.mp h1
    obtain⟨b,hb,e2⟩:=XQ.mp h2
    refine⟨_,_,rfl,Z0 Zc Zc (Zer (Zdp (m:=110+(r.length*110+1)) (n:=M+((dOf n T).length*M+1)) ?_ ?_ (by omega)))⟩
    ·rw[←e1];exact Zw5 (hr a ha) bm
    ·rw[←e2];exact Zw5 (hD b hb) bm'
   ·unfold Zj;rw[Qh];rfl
  have head:∀{d:Xa},Zpo (wE (Zm8 (Zd gLt (Wr Ztu (Za (Z6 2 [] (Zdb (Za (Ze 3) (Za (Ze 5) Zn))) (gTp 2 (gCn (gNm 0) (gCn (gNm 1) gNl))) Zak (Zd Jk (Ze 0) (Ze 1))) Zn)) (fC (.int 0))) (Zu Y6 (Za (Ze 2) (Za (Ze 3) Zn)))) Wa) [some (.fz (W5 n (frG T))),some (.fz (Yx r)),some (.fz (.int n)),some (.fz (Zj (r.map (scI m)))),some (.fz (Yx (dOf n T))),some (.fz (Zj ((dOf n T).map (scI m'))))] d->Told Wb [W5 n (frG T),Yx r] d:=λh=>Z4 rfl<|Z3 (Zy (Zi0 rfl))<|Z3 (Yd tR rfl)<|Z3 (Zy (Zr (Zb (Zr (Zb (Zc (i:=1) rfl) Zi) e1) (Zb (Zc (i:=1) rfl) Zi)) e2))<|Z3 (Zy (Zr (Zb (Zc (i:=0) rfl) Zi) (Zmw (n:=n) (by omega) T)))<|Z3 (Zy (Zr (Zb (Zr (Zb (Zc (i:=4) rfl) Zi) e3) (Zb (Zc (i:=4) rfl) Zi)) e4)) h
  by_cases c2:tot r (dOf n T)<0
  ·exact⟨b,head (Ys (Zh9 (t3 (decide_eq_true (cA.mpr c2))) (Zr (Zb (Zc (i:=2) rfl) (Zb (Zc (i:=3) rfl) Zi)) eb))),λz=>⟨c1,c2,hb2.mp z⟩,λg=>hb2.mpr g.2.2⟩
  ·exact⟨false,head (Ys (Zuu (t3 (decide_eq_false λz=>c2 (cA.mp z))))),(λz=>nomatch z),λg=>absurd g.2.1 c2⟩
 ·rw[decide_eq_false c1]at tR
  exact⟨false,Z4 rfl<|Z3 (Zy (Zi0 rfl))<|Zar (Zcp tR (Ys Zq)),(λz=>nomatch z),λg=>absurd g.1 c1⟩
theorem Zz2:V8 "cuts"=true:=by decide +kernel
theorem Znc:V8 "bars"=true:=by decide +kernel
theorem Zle{t r:Xa}{b:Bool}(h:Told Wb [t,r] (.bool b)):Told Zah [t,.tuple [.str "bars",r]] (.bool b):=by
 have e0:∀{δ:Zm},δ[1]? =some (some (.fz (.tuple [.str "bars",r])))->EvV (Zt gIx (Ze 1) (fC (.int 0))) δ (.str "bars"):=λz=>Z8 (Zc z) (Zq (d:=.int 0)) rfl
 exact Z4 rfl<|Z3 (Yd (Zts (Zi8 (p:=true) (Zhs (Zhd (Zc (i:=1) (d:=.tuple [.str "bars",r]) rfl) rfl))) (Zc4 (Zkk (Jf (Zb (Zc (i:=1) (d:=.tuple [.str "bars",r]) rfl) Zi) (Zr0 [.str "bars",r])) Zq rfl))) rfl)<|Z3 (Yd (Zc4 (Z0 (e0 rfl) (Zq (d:=.str "cuts")) (Z1v Znc Zz2 (by decide +kernel)).2)) rfl)<|Ys (Zh9 (Z0 (e0 rfl) (Zq (d:=.str "bars")) (Zvf Znc).2) (Zr (Zb (Zc (i:=0) rfl) (Zb (Z8 (Zc (i:=1) rfl) (Zq (d:=.int 1)) rfl) Zi)) h))
noncomputable def Goes(S:FS)(δ:Zm)(I:Zm->Prop):Prop:=∃δ',S δ= .nx δ'∧I δ'
theorem Zfd{S S':FS}{δ δ':Zm}{I:Zm->Prop}(h:S δ= .nx δ')(k:Goes S' δ' I):Goes (Z1 S S') δ I:=by
 obtain⟨e,h1,h2⟩:=k
 exact⟨e,J4 h h1,h2⟩
theorem Zkn{S S':FS}{δ:Zm}{I J:Zm->Prop}(h:Goes S δ J)(k:∀δ',J δ'->Goes S' δ' I):Goes (Z1 S S') δ I:=by
 obtain⟨e,h1,h2⟩:=h
 exact Zfd h1 (k e h2)
theorem Zuo{t:FT}{S S':FS}{δ:Zm}{I:Zm->Prop}{p:Bool}(h:EvT t δ p)(k1:p=true->Goes S δ I)(k2:p=false->Goes S' δ I):Goes (J0 t S S') δ I:=by
 cases p with
 | true=>
  obtain⟨e,h1,h2⟩:=k1 rfl
  exact⟨e,Zdg h h1,h2⟩
 | false=>
  obtain⟨e,h1,h2⟩:=k2 rfl
  exact⟨e,Yd h h1,h2⟩
theorem Z0q{a b:FE}{δ:Zm}{d:Xa}{k:Nat}(ha:EvV a δ d)(hb:EvV b δ (.int k))(hk:k≤1000000):EvV (Zz4 a b) δ (.list (X4 k d)):=by
 obtain⟨x,e1,d1⟩:=ha
 obtain⟨y,e2,d2⟩:=hb
 refine⟨.nd (X4 k (.fz d)),?_,by rw[OT.data_nd,List.map_replicate,OT.data_fz]⟩
 rw[Zzr,e1,Xi,e2,Xi,d2,Zse,if_pos ⟨Zkg (by omega) (by omega),by rw[Qe];omega⟩,Qn,d1]
noncomputable def csg(n:Nat):List Int:=Znh [1,1,1,-1,-1] (some ((5-n:Nat):Int)) none ++ X4 (n-5) 0
theorem Z36:∀n≤7,3≤n->(csg n).length=n∧∀v∈csg n,-20≤v∧v≤20:=by decide +kernel
theorem Zpt{n:Nat}(hn:n≤7){δ:Zm}(h:δ[3]? =some (some (.fz (.int n)))):EvV (Zt Zjj (fSl (Zbb (Za (fC (.int 1)) (Za (fC (.int 1)) (Za (fC (.int 1)) (Za (fUn Zj4 (fC (.int 1))) (Za (fUn Zj4 (fC (.int 1))) Zn)))))) (oI (Wr Zph (Za (fC (.int 0)) (Za (Zd gSb (fC (.int 5)) (Ze 3)) Zn)))) oN) (Zz4 (fC (.int 0)) (Wr Zph (Za (fC (.int 0)) (Za (Zd gSb (Ze 3) (fC (.int 5))) Zn))))) δ (Zj (csg n)):=by
 have m1:Zph [.int 0,.int (5-(n:Int))]=some (.int ((5-n:Nat):Int)):=by
  rw[Zoz]
  exact congrArg (λz=>some (Xk z)) (by split<;>omega)
 have m2:Zph [.int 0,.int ((n:Int)-5)]=some (.int ((n-5:Nat):Int)):=by
  rw[Zoz]
  exact congrArg (λz=>some (Xk z)) (by split<;>omega)
 refine EvV.cast (Zm3 (Zwi (ds:=[1,1,1,-1,-1].map Xk) (W4 (Zb Zq (Zb Zq (Zb Zq (Zb (Zfj Zq) (Zb (Zfj Zq) Zi))))) (show 5≤1000 by decide)) (Zpb (Jf (Zb Zq (Zb (Zi7 Zq (Zc h)) Zi)) m1)) Ztt) (Z0q Zq (Jf (Zb Zq (Zb (Zi7 (Zc h) Zq) Zi)) m2) (by omega)) ?_) ?_
 ·rw[Zlc,Xf,Vf]
  have:(Znh [1,1,1,-1,(-1:Int)] (some ((5-n:Nat):Int)) none).length≤5:=by
   unfold Znh
   rw[BW,JV]
   show min _ (5-_)≤5
   omega
  omega
 ·unfold csg Zj
  rw[Zlc,QJ,List.map_replicate]
theorem Zx0{n:Nat}(hn:n≤10)(f:Nat->Nat->Xa):Told Zay [W5 n f] (W5 n f) :=
 Z4 rfl<|Ys (Zcg (cs:=[]) (Xn n) (λi=>.list ((Xn n).map λj=>f i j)) (λi=>.list ((Xn n).map λj=>f i j)) (W6 (Zc (i:=0) (d:=W5 n f) rfl)) (by rw[XC];omega) rfl λx _=>Zto (Zb (Zc rfl) Zi) (Zq6 _) (by rw[OT.data_nd,OT.map_fz]))
theorem Zty{a b:Xa}(ha:Yr a=true)(hb:Yr b=true):Yr (.tuple [a,b])=true:=by
 rw[Yr,Zbt,ha,Zbt,hb,Zbt];rfl
theorem Zxu(r:List Rat):Sh 3 (.tuple [.str "bars",Yx r]):=Zo5 λd m=>by
 rcases Xw.mp m with rfl|m
 ·exact Sh.up (Zob Znc) (by decide)
 ·rw[Qj.mp m];exact Zxa r
theorem Zza{as:FA}{δ:Zm}{ds:List Xa}(h:EvA as δ ds)(hl:ds.length≤1000):EvV (Zuk as) δ (.tuple ds):=by
 obtain⟨ts,e1,d1⟩:=h
 have:=Zfs ts
 rw[d1]at this
 refine⟨.tp ts,?_,by rw[OT.data_tp,←OT.datas_map,d1]⟩
 rw[Zuf,e1,Xi,if_pos (by rw[Qe];show ts.length≤_;omega)]
theorem Zx5:Told Zah [.list [.list [.tuple [.int 0,.int 1]]],.tuple [.str "bars",.list []]] (.bool false):=by
 obtain⟨b,h,hb⟩:=Zfc (n:=1) (M:=20) (r:=[]) (T:=λ_ _=>0) (by decide) (by decide) (λ_ m=>nomatch m) (λ_ _ _ _=>qb0.up (by decide)) (.inl rfl)
 have:b=false:=by
  cases b with
  | false=>rfl
  | true=>exact absurd (hb.mp rfl).2.1 (by decide +kernel)
 rw[this]at h
 exact Zle h
theorem Zwd(ns:List Int)(hl:ns.length≤63):Zf6 [.list (ns.map Xk)]= .ok (.fz (.bool true)):=by
 show Zf6 [Zj ns]=_
 obtain⟨m,em,hm⟩:∃m:Nat,Zph [.int 1,.int (if(10:Int)<(ns.length:Int)then 10 else(ns.length:Int))]=some (.int (m:Int))∧m≤1000:=by
  refine⟨max 1 (min ns.length 10),?_,by omega⟩
  rw[Zoz]
  exact congrArg (λz=>some (Xk z)) (by split<;>split<;>omega)
 refine Told.ok (Z4 rfl ?_)
 refine Zi3 (ds:=Zgg 0 m) (λ_ δ=>∃z1 z2 z3 z4 z5 z6 z7 z8:Option OT,δ=[some (.fz (Zj ns)),z1,z2,z3,z4,z5,z6,z7,z8]) (Zc8 (Zb (Jf (Zb Zq (Zb (Jf (Zb (Zef (Zc (i:=0) rfl)) (Zb Zq Zi)) (Zxn _ _)) Zi)) em) Zi) (by omega)) ⟨_,_,_,_,_,_,_,_,rfl⟩ (λk d δ hd q=>?_) λδ' q=>?_
 ·obtain⟨z1,z2,z3,z4,z5,z6,z7,z8,rfl⟩:=q
  obtain⟨hk,rfl⟩:=W3 hd
  obtain⟨c,ec⟩:=Zpr ns (k:=0+(k:Int)) (by omega)
  obtain⟨xs,Tx,lx,hx⟩:=Znt c 58 (by decide)
  have gAt:∀{j:Nat},j<58->gIx (Zj xs) (.int (j:Int))=some (.fz (.int (xs.getD j 0))):=fun{j} hj=>by rw[Y4 (by omega) (by omega),Qn]
  have xAt:∀{δ:Zm} (j:Nat),j<58->δ[2]? =some (some (.fz (Zj xs)))->EvV (Zt gIx (Ze 2) (fC (.int (j:Int)))) δ (.int (xs.getD j 0)):=fun{δ} j hj h=>Z8 (Zc h) (Zq (d:=.int (j:Int))) (gAt hj)
  suffices g:Goes _ [some (.fz (Zj ns)),some (.fz (.int (0+(k:Int)))),z2,z3,z4,z5,z6,z7,z8] (λδ=>∃z1 z2 z3 z4 z5 z6 z7 z8:Option OT,δ=[some (.fz (Zj ns)),z1,z2,z3,z4,z5,z6,z7,z8]) by
   obtain⟨δ2,g1,g2⟩:=g
   exact⟨_,δ2,rfl,.inl g1,g2⟩
  obtain⟨a,ea,la⟩:=Wk (xs.getD 57 0) (n:=3) (by decide)
  have ea:(xs.getD 57 0).fmod 3=(a:Int):=ea
  refine Zfd (Zy (Zr (Zb (Zr (Zb (Zc (i:=0) rfl) (Zb (Zc (i:=1) rfl) Zi)) (.of ec (OT.data_fz _))) (Zb Zq Zi)) Tx))<|Zfd (Zy (d:=.int ((3+a:Nat):Int)) (EvV.cast (Yn Zq (Yb (xAt 57 (by decide) rfl) Zq (by decide))) (congrArg Xk (by rw[ea];omega))))<|Zkn (J:=λδ=>∃n:Nat,3≤n∧n≤7∧δ=[some (.fz (Zj ns)),some (.fz (.int (0+(k:Int)))),some (.fz (Zj xs)),some (.fz (.int n)),z4,z5,z6,z7,z8]) (Zuo (Zqr (Zc4 (Zfx (Zc (i:=1) rfl) Zq rfl)) (Zc4 (Zfx (Yb (Za4 (xAt 57 (by decide) rfl) Zq) Zq (by decide)) Zq rfl))) (λ_=>?_) λ_=>⟨_,rfl,3+a,by omega,by omega,rfl⟩) λδ' q=>?_
  ·obtain⟨b,eb,lb⟩:=Wk ((xs.getD 57 0).fdiv 12) (n:=2) (by decide)
   have eb:((xs.getD 57 0).fdiv 12).fmod 2=(b:Int):=eb
   exact⟨_,Zy (d:=.int ((6+b:Nat):Int)) (EvV.cast (Yn Zq (Yb (Za4 (xAt 57 (by decide) rfl) Zq) Zq (by decide))) (congrArg Xk (by rw[eb];omega))),6+b,by omega,by omega,rfl⟩
  obtain⟨n,h3,hn,rfl⟩:=q
  have sl:∀{δ:Zm} (a b:Nat),a≤b->b≤58->δ[2]? =some (some (.fz (Zj xs)))->∃us,EvV (fSl (Ze 2) (oI (fC (.int (a:Int)))) (oI (fC (.int (b:Int))))) δ (Zj us)∧us.length=b-a∧∀v∈us,Sm v:=fun{δ} a b hab hb h=>Zxs (Zc h) (Zpb (Zq (d:=.int (a:Int)))) (Zpb (Zq (d:=.int (b:Int)))) hab (by omega) hx
  obtain⟨us,eu,lu,hu⟩:=sl (δ:=[some (.fz (Zj ns)),some (.fz (.int (0+(k:Int)))),some (.fz (Zj xs)),some (.fz (.int n)),z4,z5,z6,z7,z8]) 22 28 (by decide) (by decide) rfl
  obtain⟨s0,Ts,ls0,hs0⟩:=Ztd h3 hn (by omega) hu
  obtain⟨r0,Tr0,lr0,hr0⟩:=Zgo hn ls0 hs0 (sc:=1) (by decide) (by decide)
  have lp:3≤(Zz n).length∧(Zz n).length≤21:=by
   obtain rfl|rfl|rfl|rfl|rfl:n=3∨n=4∨n=5∨n=6∨n=7:=by omega
   all_goals exact⟨by decide,by decide⟩
  refine Zfd (Zy (Zr (Zb (Zc (i:=3) rfl) (Zb eu Zi)) Ts))<|Zfd (Zy (Zr (Zb (Zc (i:=3) rfl) (Zb (Zc (i:=4) rfl) (Zb Zq Zi))) Tr0))<|Zkn (J:=λδ=>∃(sg:List Int) (r:List Rat),sg.length=n∧(∀v∈sg,-20≤v∧v≤20)∧r.length=(Zz n).length∧(∀q∈r,Qb 80 q)∧δ=[some (.fz (Zj ns)),some (.fz (.int (0+(k:Int)))),some (.fz (Zj xs)),some (.fz (.int n)),some (.fz (Zj sg)),some (.fz (Yx r)),z6,z7,z8]) (Zuo (Zc4 (Zfx (Yb (xAt 28 (by decide) rfl) Zq (by decide)) Zq rfl)) (λ_=>?_) λ_=>⟨_,rfl,s0,r0,ls0,hs0,lr0,λq mq=>(hr0 q mq).up (by decide),rfl⟩) λδ' q=>?_
  ·obtain⟨c1,c2⟩:=Z36 n hn h3
   have a0:=Zbr (i:=xs.getD 29 0) (j:=3) (by decide)
   have a1:=Zbx (i:=xs.getD 29 0) (j:=3) (by decide)
   obtain⟨r1,Tr1,lr1,hr1⟩:=Zgo hn c1 c2 (sc:=1+(xs.getD 29 0).fmod 3) (by omega) (by omega)
   exact Zfd (Zy (Zpt hn rfl)) ⟨_,Zy (Zr (Zb (Zc (i:=3) rfl) (Zb (Zc (i:=4) rfl) (Zb (Yn Zq (Yb (xAt 29 (by decide) rfl) Zq (by decide))) Zi))) Tr1),csg n,r1,c1,c2,lr1,λq mq=>(hr1 q mq).up (by decide),rfl⟩
  obtain⟨sg,r,lsg,hsg,lr,hr,rfl⟩:=q
  obtain⟨ws,ew,lw,hw⟩:=sl (δ:=[some (.fz (Zj ns)),some (.fz (.int (0+(k:Int)))),some (.fz (Zj xs)),some (.fz (.int n)),some (.fz (Zj sg)),some (.fz (Yx r)),z6,z7,z8]) 30 56 (by decide) (by decide) rfl
  obtain⟨rv,Trv,lrv,hrv⟩:=Zub h3 hn (by omega) hw
  refine Zkn (J:=λδ=>∃r:List Rat,r.length=(Zz n).length∧(∀q∈r,Qb 80 q)∧δ=[some (.fz (Zj ns)),some (.fz (.int (0+(k:Int)))),some (.fz (Zj xs)),some (.fz (.int n)),some (.fz (Zj sg)),some (.fz (Yx r)),z6,z7,z8]) (Zuo (Zc4 (Zfx (Yb (xAt 28 (by decide) rfl) Zq (by decide)) Zq rfl)) (λ_=>⟨_,Zy (Zr (Zb (Zc (i:=3) rfl) (Zb ew Zi)) Trv),rv,lrv,hrv,rfl⟩) λ_=>⟨_,rfl,r,lr,hr,rfl⟩) λδ' q=>?_
  obtain⟨r,lr,hr,rfl⟩:=q
  obtain⟨T,M,TT,hM,hT⟩:=Zte h3 hn lsg hsg lx hx
  obtain⟨vs,ev,lv,hv⟩:=sl (δ:=[some (.fz (Zj ns)),some (.fz (.int (0+(k:Int)))),some (.fz (Zj xs)),some (.fz (.int n)),some (.fz (Zj sg)),some (.fz (Yx r)),some (.fz (W5 n (frG T))),z7,z8]) 29 32 (by decide) (by decide) rfl
  obtain⟨rc,Trc,lrc,hrc⟩:=Zqb hr (by omega) (by omega) (by omega) hv
  refine Zfd (Zy (Zr (Zb (Zc (i:=3) rfl) (Zb (Zc (i:=4) rfl) (Zb (Zc (i:=2) rfl) Zi))) TT))<|Zkn (J:=λδ=>∃r:List Rat,r.length≤70∧(∀q∈r,Qb 110 q)∧δ=[some (.fz (Zj ns)),some (.fz (.int (0+(k:Int)))),some (.fz (Zj xs)),some (.fz (.int n)),some (.fz (Zj sg)),some (.fz (Yx r)),some (.fz (W5 n (frG T))),z7,z8]) (Zuo (Zc4 (Zfx (Yb (xAt 56 (by decide) rfl) Zq (by decide)) Zq rfl)) (λ_=>⟨_,Zy (Zr (Zb (Zc (i:=5) rfl) (Zb ev Zi)) Trc),rc,lrc,hrc,rfl⟩) λ_=>⟨_,rfl,r,by omega,λq mq=>(hr q mq).up (by decide),rfl⟩) λδ' q=>?_
  obtain⟨r,lr,hr,rfl⟩:=q
  obtain⟨b1,Tb1,hb1⟩:=Zfc (n:=n) (by omega) hn hr hT hM
  obtain⟨b2,Tb2,hb2⟩:=Zn7 (n:=n) (by omega) hn hr (by omega) hT hM
  have bb:b1=b2:=Bool.eq_iff_iff.mpr (hb1.trans hb2.symm)
  have two:(2:Nat)≤1000:=by decide
  refine Zfd (Zy (d:=.tuple [.str "bars",Yx r]) (Jo (Zb (Zq (d:=.str "bars")) (Zb (Zto (Zb (Zc (i:=5) (d:=Yx r) rfl) Zi) (Zq6 _) (by rw[OT.data_nd,OT.map_fz];rfl)) Zi)) two))<|Zfd (Zy (Zr (Zb (Zr (Zb (Zc (i:=6) rfl) Zi) (Zx0 (n:=n) (by omega) (frG T))) (Zb (Zc (i:=7) rfl) Zi)) (Zle Tb1))) ⟨_,Yd (Zts (Zi8 (p:=true) (Zhs (Zhd (Zc (i:=8) (d:=.bool b1) rfl) rfl))) (Zts (Zc4 (Z0 (Zc (i:=8) rfl) (Zr (Zb (Zc (i:=6) rfl) (Zb (Zc (i:=5) rfl) Zi)) Tb2) ((Zxb b1 b2).trans (by rw[bb];cases b2<;>rfl)))) (Zc4 (Z0 (Zc (i:=7) rfl) (Jo (Zb (Zq (d:=.str "bars")) (Zb (Zc (i:=5) rfl) Zi)) two) (Zu1 (Zxu r) (Zty (Zfg _) (Zs0 r)) (by decide)))))) rfl,_,_,_,_,_,_,_,_,rfl⟩
 ·obtain⟨z1,z2,z3,z4,z5,z6,z7,z8,rfl⟩:=q
  exact Ys (Z0 (Zr (Zb (W4 (Zb (W4 (Zb (Jo (Zb Zq (Zb Zq Zi)) (show 2≤1000 by decide)) Zi) (show 1≤1000 by decide)) Zi) (show 1≤1000 by decide)) (Zb (Zza (Zb Zq (Zb (W4 Zi (show 0≤1000 by decide)) Zi)) (show 2≤1000 by decide)) Zi)) Zx5) (Zq (d:=.bool false)) rfl)
end My
namespace L2
open PySem PySem.Spec PyProof.Rows
structure Ei(K:Xb)(x:Str)(st:Stmt)(f:Addr)(fd:Xv):Prop where
 a:Q3 K Qg x=some (some (.ref f))
 F:Fun K x x st f fd
structure En(K:Xb)(mg:Str->Option Xc)(x:Str)(st:Stmt)(ps:List Str)(f:Addr)(fd:Xv):Prop where
 F:Fun K x x st f fd
 b:Binds K fd ps []
 m:mg x=some (.ref f)
structure Ec(K:Xb)(mg:Str->Option Xc)(x:Str)(f:Addr):Prop where
 m:mg x=some (.ref f)
 a:ClsAt K x f
section
variable {K:Xb}{h:Heap}{mg:Str->Option Xc}{x:Str}{st:Stmt}{f:Addr}{fd:Xv}
theorem en0(X:K.In h)(G:h.Ns Qg mg)(q:Ei K x st f fd){ps:List Str}(hb:∀(kV doc pm:Xc) (an:Option Addr) (cdv ct:Xc) (us:List Xc),us.length=ps.length->bindArgs (Vj x x (Zf4 st) (Zcd st) (Zo st) .none kV doc pm an cdv ct) ⟨us,[]⟩=pure (ps.zip us)):En K mg x st ps f fd:=⟨q.F,q.F.binds hb,PySem.W.mg_of X G q.a⟩
noncomputable abbrev Bd(x:Str)(st:Stmt)(ps:List Str)(us:List Xc):Prop:=∀(kV doc pm:Xc) (an:Option Addr) (cdv ct:Xc),bindArgs (Vj x x (Zf4 st) (Zcd st) (Zo st) .none kV doc pm an cdv ct) ⟨us,[]⟩=pure (ps.zip us)
theorem l_c{us:List Xc}{n:Nat}(h:us.length=n+1):∃u vs,us=u :: vs∧vs.length=n:=by
 cases us with
 | nil=>cases h
 | cons u vs=>exact⟨u,vs,rfl,Nat.succ.inj h⟩
theorem en1(X:K.In h)(G:h.Ns Qg mg)(q:Ei K x st f fd){p0:Str}(hb:∀v0,Bd x st [p0] [v0]:=by exact λ_ _ _ _ _ _ _=>rfl):En K mg x st [p0] f fd:=en0 X G q λa b c d e g us hl=>by
 have h0:us.length=1:=hl
 obtain⟨u0,us0,e0,h1⟩:=l_c h0
 cases V6 h1
 subst e0
 exact hb u0 a b c d e g
theorem en2(X:K.In h)(G:h.Ns Qg mg)(q:Ei K x st f fd){p0 p1:Str}(hb:∀v0 v1,Bd x st [p0,p1] [v0,v1]:=by exact λ_ _ _ _ _ _ _ _=>rfl):En K mg x st [p0,p1] f fd:=en0 X G q λa b c d e g us hl=>by
 have h0:us.length=2:=hl
 obtain⟨u0,us0,e0,h1⟩:=l_c h0
 obtain⟨u1,us1,e1,h2⟩:=l_c h1
 cases V6 h2
 subst e1
 subst e0
 exact hb u0 u1 a b c d e g
theorem en3(X:K.In h)(G:h.Ns Qg mg)(q:Ei K x st f fd){p0 p1 p2:Str}(hb:∀v0 v1 v2,Bd x st [p0,p1,p2] [v0,v1,v2]:=by exact λ_ _ _ _ _ _ _ _ _=>rfl):En K mg x st [p0,p1,p2] f fd:=en0 X G q λa b c d e g us hl=>by
 have h0:us.length=3:=hl
 obtain⟨u0,us0,e0,h1⟩:=l_c h0
 obtain⟨u1,us1,e1,h2⟩:=l_c h1
 obtain⟨u2,us2,e2,h3⟩:=l_c h2
 cases V6 h3
 subst e2
 subst e1
 subst e0
 exact hb u0 u1 u2 a b c d e g
theorem ec(X:K.In h)(G:h.Ns Qg mg)(a:Q3 K Qg x=some (some (.ref f))):Ec K mg x f:=⟨PySem.W.mg_of X G a,a⟩
end
theorem fsc{N P:List Str}{sc:V7}(h1:sc.kind= .function:=by rfl)(h2:sc.isCoroutine=false:=by rfl)(h3:sc.isGenerator=false:=by rfl)(h4:N.Nodup:=by decide +kernel)(h5:N.take P.length=P:=by rfl)(h6:∀x∈P,sc.names.lookup x=some .local∨sc.names.lookup x=some .cell:=by decide +kernel)(h7:∀y∈sc.names,y.2≠ .free:=by decide +kernel):Zw N P sc:=⟨h1,h2,h3,h4,h5,h6,h7⟩
section
variable {X:Cx}{io:List Nat}{st:Stmt}{sts ss ss':List Stmt}{f g:FS}{e:Expr}{es:List Expr}{p c:Bool}{ta:FT}{pos:Pos}{ra:FA}
noncomputable abbrev BS(X:Cx)(io:List Nat)(st:Stmt)(f:FS):Prop:=MS X io st (oS f)∧XS X io st (xS X.K f)
noncomputable abbrev BSs(X:Cx)(io:List Nat)(sts:List Stmt)(f:FS):Prop:=MSs X io sts (oS f)∧XSs X io sts (xS X.K f)
end
section
variable {X:Cx}{io:List Nat}{e:Expr}{es:List Expr}{p c:Bool}{ra:FA}{pos pp:Pos}{k k':Nat}{f:Addr}{fd:Xv}{ps:List Str}{x:Str}{F:FD}{st:Stmt}
theorem xce(G:FnOk X.prog X.w X.K X.mg X.base CX0 k f fd ps (spD X.K (sD F)))(hr:Room k' X.A)(E:En X.K X.mg x st ps f fd)(ha:MA X io p c (e :: es) (o2 ra))(hle:k≤k':=by decide)(hg:Gl X x:=by rfl)(h1:(x==("__debug__" : Str))=false:=by decide)(h2:Xr (e :: es) X.env=(false,eval e X.env) :: Xr es X.env:=by rfl)(h3:((BJ pos (Xr es X.env)).any λx=>x.fst)=false:=by rfl):ME X io p c (.Call (.Name x pp) (e :: es) [] pos) (o2 (Zu F ra)):=xcl G (hr.mono hle) E.m E.F.kp E.b ha hg h1 h2 h3
end
section
variable {X:Cx}{io:List Nat}{p ci pt pe:Bool}{tg iter elt:Expr}{ifs:List Expr}{sc:V7}{pos:Pos}{mi:MIt}{g:MGt}{mt:MTt}{me:MEt}
theorem Jl(own:List Str)(caps:List Nat)(N':List Str)(hi:MI X io p ci tg iter mi)
  (hg:∀C cells s₂ H₂ fp,MG (Wj X N' sc C cells s₂ H₂ fp) (Zb0 own.length caps) ci tg g) (ht:∀C cells s₂ H₂ fp,MIfs (Wj X N' sc C cells s₂ H₂ fp) (Zb0 own.length caps) pt ifs mt) (he:∀C cells s₂ H₂ fp,ME (Wj X N' sc C cells s₂ H₂ fp) (Zb0 own.length caps) pe true elt me)
  (S:CompScope X own caps N' sc:=by exact⟨rfl,by decide +kernel,rfl,by decide +kernel,rfl,rfl⟩) (hc:X.calm=true:=by rfl) (nd:caps.Nodup:=by decide) (hp:(pt&&pe)=true:=by rfl) (hs:∀x,Bh iter X.env x=pure x:=by intro _;rfl):ME X io p true (.ListComp elt [⟨tg,iter,ifs,0⟩] sc pos) (Zid own.length caps mi g mt me):=Z4k S hc nd hi hg ht he hp hs
end
end L2
namespace My
open PySem L2 PySem.Spec
noncomputable def top(i:Nat):Stmt:=PySem.Challenge.pw_farcuts_k37_bars_looked_at.main.body.getD i (.Pass ⟨0,0,0,0⟩)
noncomputable abbrev Zg6:Stmt:=top 37
noncomputable abbrev Zim:Stmt:=top 35
noncomputable abbrev Zab:Stmt:=top 41
noncomputable abbrev Zgm:Stmt:=top 36
noncomputable abbrev Zd9:Stmt:=top 42
noncomputable abbrev Zch:Stmt:=top 43
noncomputable abbrev Zgp:Stmt:=top 44
noncomputable abbrev Zex:Stmt:=top 48
noncomputable abbrev Zcq:Stmt:=top 47
noncomputable abbrev Zcj:Stmt:=top 33
noncomputable abbrev Zce:Stmt:=top 52
noncomputable abbrev Zg5:Stmt:=top 45
noncomputable abbrev Zey:Stmt:=top 38
noncomputable abbrev Zgq:Stmt:=top 46
noncomputable abbrev Zdy:Stmt:=top 39
noncomputable abbrev Zbp:Stmt:=top 40
noncomputable abbrev Zew:Stmt:=top 51
noncomputable abbrev Zcm:Stmt:=top 34
noncomputable abbrev Zg2:Stmt:=top 49
noncomputable abbrev Ze1:Stmt:=top 50
noncomputable abbrev Zgk:Stmt:=top 19
noncomputable abbrev Zf9:Stmt:=top 10
noncomputable abbrev Zdi:Stmt:=top 28
noncomputable abbrev Zg8:Stmt:=top 22
noncomputable abbrev Zci:Stmt:=top 29
noncomputable abbrev Zbq:Stmt:=top 12
noncomputable abbrev Jv:Stmt:=top 5
noncomputable abbrev Zg0:Stmt:=top 4
noncomputable abbrev Zck:Stmt:=top 6
noncomputable abbrev Zdj:Stmt:=top 27
noncomputable abbrev Za6:Stmt:=top 14
noncomputable abbrev Zev:Stmt:=top 15
noncomputable abbrev Zdo:Stmt:=top 30
noncomputable abbrev Ze7:Stmt:=top 17
noncomputable abbrev Zk2:Stmt:=top 18
noncomputable abbrev J9:Stmt:=top 20
noncomputable abbrev Zco:Stmt:=top 21
noncomputable abbrev Ze0:Stmt:=top 23
noncomputable abbrev Zgv:Stmt:=top 7
noncomputable abbrev Zgs:Stmt:=top 8
noncomputable abbrev Zao:Stmt:=top 11
noncomputable abbrev Zgd:Stmt:=top 24
noncomputable abbrev Zet:Stmt:=top 26
noncomputable abbrev Znr:Stmt:=top 31
noncomputable abbrev Zyq:Stmt:=top 53
set_option genInjectivity false in
set_option genSizeOfSpec false in
structure Txt(K:Xb)(mg:Str->Option Xc)(f:Nat->Addr)(fd:Nat->Xv)(cls:Nat->Addr):Prop where
 e_law_cuts:En K mg "_law_cuts" Zg6 ["n"] (f 0) (fd 0)
 e_law_low:En K mg "_law_low" Zim ["top","bottom"] (f 1) (fd 1)
 e_law_is_fraction:En K mg "_law_is_fraction" Zab ["found"] (f 2) (fd 2)
 e_law_plus:En K mg "_law_plus" Zgm ["q","r"] (f 3) (fd 3)
 e_law_parted:En K mg "_law_parted" Zd9 ["n","bars","cut"] (f 4) (fd 4)
 e_law_weighed:En K mg "_law_weighed" Zch ["table","bars"] (f 5) (fd 5)
 e_law_bars:En K mg "_law_bars" Zgp ["table","bars"] (f 6) (fd 6)
 e_law_pairs:En K mg "_law_pairs" Zex ["n"] (f 7) (fd 7)
 e_law_bent_by:En K mg "_law_bent_by" Zcq ["n","sign","scale"] (f 8) (fd 8)
 e_law_cell_at:En K mg "_law_cell_at" Zcj ["script","k"] (f 9) (fd 9)
 e_law_changed:En K mg "_law_changed" Zce ["bars","xs"] (f 10) (fd 10)
 e_law_copy:En K mg "_law_copy" Zg5 ["table"] (f 11) (fd 11)
 e_law_table:En K mg "_law_table" Zey ["n","cuts"] (f 12) (fd 12)
 e_law_five:En K mg "_law_five" Zgq ["scale","more"] (f 13) (fd 13)
 e_law_weight:En K mg "_law_weight" Zdy ["number","kind"] (f 14) (fd 14)
 e_law_weighted:En K mg "_law_weighted" Zbp ["n","xs"] (f 15) (fd 15)
 e_law_drawn:En K mg "_law_drawn" Zew ["n","sign","xs"] (f 16) (fd 16)
 e_law_numbers:En K mg "_law_numbers" Zcm ["cell","many"] (f 17) (fd 17)
 e_law_sign:En K mg "_law_sign" Zg2 ["n","xs"] (f 18) (fd 18)
 e_law_valid:En K mg "_law_valid" Ze1 ["n","xs"] (f 19) (fd 19)
 e_all_cuts:En K mg "all_cuts" Zgk ["n"] (f 20) (fd 20)
 e_pairs_of:En K mg "pairs_of" Zf9 ["n"] (f 21) (fd 21)
 e_parted_sum:En K mg "parted_sum" Zdi ["pairs","tops","sides"] (f 22) (fd 22)
 e_sides_of:En K mg "sides_of" Zg8 ["n","cut"] (f 23) (fd 23)
 e_bars_no_cut:En K mg "bars_no_cut" Zci ["n","tops"] (f 24) (fd 24)
 e_distances_of:En K mg "distances_of" Zbq ["table"] (f 25) (fd 25)
 e_greatest_divisor:En K mg "greatest_divisor" Jv ["a","b"] (f 26) (fd 26)
 e_is_whole:En K mg "is_whole" Zg0 ["thing"] (f 27) (fd 27)
 e_is_fraction:En K mg "is_fraction" Zck ["thing"] (f 28) (fd 28)
 e_is_row_for:En K mg "is_row_for" Zdj ["n","thing"] (f 29) (fd 29)
 e_shared_bottom:En K mg "shared_bottom" Za6 ["numbers"] (f 30) (fd 30)
 e_tops_over:En K mg "tops_over" Zev ["bottom","numbers"] (f 31) (fd 31)
 e_shows_bars:En K mg "shows_bars" Zdo ["table","numbers"] (f 32) (fd 32)
 e_is_rising:En K mg "is_rising" Ze7 ["things"] (f 33) (fd 33)
 e_is_cut:En K mg "is_cut" Zk2 ["n","thing"] (f 34) (fd 34)
 e_is_weighted_cut:En K mg "is_weighted_cut" J9 ["n","thing"] (f 35) (fd 35)
 e_is_weighted:En K mg "is_weighted" Zco ["n","thing"] (f 36) (fd 36)
 e_all_sides:En K mg "all_sides" Ze0 ["n","cuts"] (f 37) (fd 37)
 e_in_least:En K mg "in_least" Zgv ["top","bottom"] (f 38) (fd 38)
 e_fraction:En K mg "fraction" Zgs ["top","bottom"] (f 39) (fd 39)
 e_table_of_pairs:En K mg "table_of_pairs" Zao ["n","distances"] (f 40) (fd 40)
 e_table_of:En K mg "table_of" Zgd ["n","cuts"] (f 41) (fd 41)
 e_shows_sum:En K mg "shows_sum" Zet ["table","cuts"] (f 42) (fd 42)
 e_shows:En K mg "shows" Znr ["table","answer"] (f 43) (fd 43)
 e_law:En K mg "law" Zyq ["script"] (f 44) (fd 44)
 z_abs:mg "abs"=none
 z_bool:mg "bool"=none
 z_int:mg "int"=none
 z_isinstance:mg "isinstance"=none
 z_len:mg "len"=none
 z_list:mg "list"=none
 z_max:mg "max"=none
 z_min:mg "min"=none
 z_range:mg "range"=none
 z_sorted:mg "sorted"=none
 z_sum:mg "sum"=none
 z_tuple:mg "tuple"=none
 z_zip:mg "zip"=none
 c_NoNumber:Ec K mg "NoNumber" (cls 0)
 x_NoNumber:Zir K (cls 0)
 r_NoNumber:Z59 K (cls 0)
section
variable {P:XM}{w:Qo}{K:Xb}{mg:Str->Option Xc}{base:Heap}
theorem Zcr:Zw ["n","found","point"] ["n"] (Zo Zg6):=fsc
theorem Zit{f:Nat->Addr}{fd:Nat->Xv}{cls:Nat->Addr}(T:Txt K mg f fd cls):FnOk P w K mg base CX0 1 (f 0) (fd 0) ["n"] (spD K (sD Jx)):=by
 refine Z7 T.e_law_cuts.F Zcr (S:=Zdv) rfl rfl (λcdv A outer s H E hr=>?_)
 have hu:=hr.units
 exact(xsq (xst 1 Zcr.nd (xls (xa1 (xls xa0)))) (xsq (xfr XD rfl (Z80 (Zsx (by rfl) T.z_range (Zf (Zze (xv 0) xci) (Zf xci (xa1 (Zdr (Zig xci))))))) (xg 2 Zcr.nd) (Zh (xst 1 Zcr.nd (Zg3 (Zb5 Zhp (Zqm (Zam rfl) Zcx (Ye (Jl ["cut"] [2] ["cut","point"] (xil (xv 1)) (λ_ _ _ _ _=>(xg 0 (by show XR (["cut","point"]:List Str);decide +kernel))) (λ_ _ _ _ _=>(Yj Yi)) (λ_ _ _ _ _=>(Zg3 (Zb5 Zhp (Zqm (Zam rfl) Zcx (xls (xa1 (xv 1))) (xv 0))))))) (xv 1))))))) (Zh (xrt (Ztq Zn9 (Z8g Zkv (Zgx Zxh rfl hu) (by rfl) T.z_sorted L2.B.boot_sorted (xa1 (Ye (Jl ["cut"] [] ["cut"] (xil (xv 1)) (λ_ _ _ _ _=>(xg 0 (by show XR (["cut"]:List Str);decide +kernel))) (λ_ _ _ _ _=>(Ze2 (xne hu (xv 0) (xls xa0)))) (λ_ _ _ _ _=>(xv 0)))))))))))
theorem Zas:Zw ["top","bottom","one","other","rest"] ["top","bottom"] (Zo Zim):=fsc
theorem Zb6{f:Nat->Addr}{fd:Nat->Xv}{cls:Nat->Addr}(T:Txt K mg f fd cls):FnOk P w K mg base CX0 1 (f 1) (fd 1) ["top","bottom"] (spD K (sD Z5)):=by
 refine Z7 T.e_law_low.F Zas (S:=Zeo) rfl rfl (λcdv A outer s H E hr=>?_)
 have hu:=hr.units
 exact(xsq (xst 2 Zas.nd (J3 Z04 (Zfv Zrg Zlm (by rfl) T.z_abs L2.B.boot_abs (xa1 (xv 0))))) (xsq (xst 3 Zas.nd (xv 1)) (xsq (Zon (Zos XD (xne hu (xv 3) xci) (xsq (xst 4 Zas.nd (Zba (xv 2) (xv 3))) (xsq (xst 2 Zas.nd (xv 3)) (Zh (xst 3 Zas.nd (xv 4))))))) (Zh (xrt (xtp (Zf (Zl4 (xv 0) (xv 2)) (xa1 (Zl4 (xv 1) (xv 2))))))))))
theorem Zbn:Zw ["found","one"] ["found"] (Zo Zab):=fsc
theorem Zfl{f:Nat->Addr}{fd:Nat->Xv}{cls:Nat->Addr}(T:Txt K mg f fd cls):FnOk P w K mg base CX0 2 (f 2) (fd 2) ["found"] (spD K (sD Y0)):=by
 have G_law_low:=Zb6 (P:=P) (w:=w) (base:=base) T
 refine Z7 T.e_law_is_fraction.F Zbn (S:=J5) rfl rfl (λcdv A outer s H E hr=>?_)
 have hu:=hr.units
 exact(xsq (xif (MW.mt (Zfk (Zfy (xno (Jh (Jj (Zcb (Zg4 (by decide) (by rfl) T.z_isinstance L2.B.boot_isinstance (by rfl) T.z_tuple L2.B.boot_tuple (xv 0))) (λ_=>rfl)))) (Zc1 (xne hu (xln T.z_len (xa1 (xv 0))) xci))))) (Zh (xrt (Zf3 Zbc))) xnl) (xsq (xfr XD rfl (Z3q (Z3r (xv 0))) (xg 1 Zbn.nd) (Zh (xif (MW.mt (Zfk (Zfy (xno (Jh (Jj (Zcb (Zg4 (by decide) (by rfl) T.z_isinstance L2.B.boot_isinstance (by rfl) T.z_int L2.B.boot_int (xv 1))) (λ_=>rfl)))) (Zc1 (Jh (Jj (Zcb (Zg4 (by decide) (by rfl) T.z_isinstance L2.B.boot_isinstance (by rfl) T.z_bool L2.B.boot_bool (xv 1))) (λ_=>rfl))))))) (Zh (xrt (Zf3 Zbc))) xnl))) (Zh (xrt (Zbv (Zjn (Yv Z6y (Zda Zvu Zes (xix (xv 0) xci) xci (hm:=(W7 _)))) (Zl1 (Yv Zxj (Zda (Zhb hu) Zm1 (xce G_law_low hr T.e_law_low (Zf (xix (xv 0) xci) (xa1 (xix (xv 0) xci)))) (xv 0) (hm:=(W7 _)))))))))))
theorem Znf:Zw ["q","r"] ["q","r"] (Zo Zgm):=fsc
theorem J7{f:Nat->Addr}{fd:Nat->Xv}{cls:Nat->Addr}(T:Txt K mg f fd cls):FnOk P w K mg base CX0 2 (f 3) (fd 3) ["q","r"] (spD K (sD Zx)):=by
 have G_law_low:=Zb6 (P:=P) (w:=w) (base:=base) T
 refine Z7 T.e_law_plus.F Znf (S:=Zdu) rfl rfl (λcdv A outer s H E hr=>?_)
 exact(Zh (xrt (xce G_law_low hr T.e_law_low (Zf (Zdc (Zf1 (xix (xv 0) xci) (xix (xv 1) xci)) (Zf1 (xix (xv 1) xci) (xix (xv 0) xci))) (xa1 (Zf1 (xix (xv 0) xci) (xix (xv 1) xci)))))))
theorem Wh:Zw ["n","bars","cut","found","at","i","j"] ["n","bars","cut"] (Zo Zd9):=fsc
theorem Zkz{f:Nat->Addr}{fd:Nat->Xv}{cls:Nat->Addr}(T:Txt K mg f fd cls):FnOk P w K mg base CX0 3 (f 4) (fd 4) ["n","bars","cut"] (spD K (sD Zae)):=by
 have G_law_plus:=J7 (P:=P) (w:=w) (base:=base) T
 refine Z7 T.e_law_parted.F Wh (S:=Zb8) rfl rfl (λcdv A outer s H E hr=>?_)
 have hu:=hr.units
 exact(xsq (xst 3 Wh.nd (xtp (Zf xci (xa1 xci)))) (xsq (xst 4 Wh.nd xci) (xsq (xfr XD rfl (Zb7 (Yc (by rfl) T.z_range (xa1 (xv 0)))) (xg 5 Wh.nd) (Zh (xfr XD rfl (Zsb (Zed (by rfl) T.z_range (Zf (Zdc (xv 5) xci) (xa1 (xv 0))))) (xg 6 Wh.nd) (xsq (xif (xne hu (Yv Zvc (Zda (Zso rfl) Zud (xv 5) (xv 2) (hm:=(by with_unfolding_all rfl)))) (Yv Zvc (Zda (Zso rfl) Zud (xv 6) (xv 2) (hm:=(by with_unfolding_all rfl))))) (Zh (xst 3 Wh.nd (xce G_law_plus hr T.e_law_plus (Zf (xv 3) (xa1 (xix (xv 1) (xv 4))))))) xnl) (Zh (xst 4 Wh.nd (Zdc (xv 4) xci))))))) (Zh (xrt (xv 3))))))
theorem Y9:Zw ["table","bars","found","at","i","j"] ["table","bars"] (Zo Zch):=fsc
theorem Zju{f:Nat->Addr}{fd:Nat->Xv}{cls:Nat->Addr}(T:Txt K mg f fd cls):FnOk P w K mg base CX0 3 (f 5) (fd 5) ["table","bars"] (spD K (sD Wq)):=by
 have G_law_plus:=J7 (P:=P) (w:=w) (base:=base) T
 refine Z7 T.e_law_weighed.F Y9 (S:=Zbg) rfl rfl (λcdv A outer s H E hr=>?_)
 exact(xsq (xst 2 Y9.nd (xtp (Zf xci (xa1 xci)))) (xsq (xst 3 Y9.nd xci) (xsq (xfr XD rfl (Zb7 (Yc (by rfl) T.z_range (xa1 (xln T.z_len (xa1 (xv 0)))))) (xg 4 Y9.nd) (Zh (xfr XD rfl (Zsb (Zed (by rfl) T.z_range (Zf (Zdc (xv 4) xci) (xa1 (xln T.z_len (xa1 (xv 0))))))) (xg 5 Y9.nd) (xsq (xst 2 Y9.nd (xce G_law_plus hr T.e_law_plus (Zf (xv 2) (xa1 (xtp (Zf (Zf1 (xix (xix (xv 1) (xv 3)) xci) (xix (xix (xix (xv 0) (xv 4)) (xv 5)) xci)) (xa1 (Zf1 (xix (xix (xv 1) (xv 3)) xci) (xix (xix (xix (xv 0) (xv 4)) (xv 5)) xci))))))))) (Zh (xst 3 Y9.nd (Zdc (xv 3) xci))))))) (Zh (xrt (xv 2))))))
theorem Zij:Zw ["table","bars","n"] ["table","bars"] (Zo Zgp):=fsc
theorem Zn1{f:Nat->Addr}{fd:Nat->Xv}{cls:Nat->Addr}(T:Txt K mg f fd cls):FnOk P w K mg base CX0 4 (f 6) (fd 6) ["table","bars"] (spD K (sD Za5)):=by
 have G_law_cuts:=Zit (P:=P) (w:=w) (base:=base) T
 have G_law_is_fraction:=Zfl (P:=P) (w:=w) (base:=base) T
 have G_law_parted:=Zkz (P:=P) (w:=w) (base:=base) T
 have G_law_weighed:=Zju (P:=P) (w:=w) (base:=base) T
 refine Z7 T.e_law_bars.F Zij (S:=Zdd) rfl rfl (λcdv A outer s H E hr=>?_)
 have hu:=hr.units
 exact(xsq (Zi1 (Zji (i:=2) Zij.nd rfl (Qx rfl) (xln T.z_len (xa1 (xv 0))))) (xsq (xif (MW.mt (Zfk (Zfy (xno (Jh (Jj (Zcb (Zg4 (by decide) (by rfl) T.z_isinstance L2.B.boot_isinstance (by rfl) T.z_list L2.B.boot_list (xv 1))) (λ_=>rfl)))) (Zc1 (xne hu (xln T.z_len (xa1 (xv 1))) (Zl4 (Zf1 (xv 2) (Zze (xv 2) xci)) xci)))))) (Zh (xrt (Zf3 Zbc))) xnl) (xsq (xif (MW.mt (Zfk (Zfy (xne hu (Ye (Jl ["one"] [] ["one"] (xil (xv 1)) (λ_ _ _ _ _=>(xg 0 (by show XR (["one"]:List Str);decide +kernel))) (λ_ _ _ _ _=>(Ze2 (xno (Jh (Jj (xce G_law_is_fraction hr T.e_law_is_fraction (xa1 (xv 0))) (λ_=>rfl)))))) (λ_ _ _ _ _=>(xv 0)))) (xls xa0)) (Zc1 (xge (xix (xce G_law_weighed hr T.e_law_weighed (Zf (xv 0) (xa1 (xv 1)))) xci) xci))))) (Zh (xrt (Zf3 Zbc))) xnl) (Zh (xrt (Yv Zxj (Zda (Zhb hu) Zm1 (Ye (Jl ["cut"] [2,1] ["cut","n","bars"] (xil (xce G_law_cuts hr T.e_law_cuts (xa1 (xv 2)))) (λ_ _ _ _ _=>(xg 0 (by show XR (["cut","n","bars"]:List Str);decide +kernel))) (λ_ _ _ _ _=>(Ze2 (xlt (xix (xce G_law_parted hr T.e_law_parted (Zf (xv 1) (Zf (xv 2) (xa1 (xv 0))))) xci) xci))) (λ_ _ _ _ _=>(xv 0)))) (xls xa0) (hm:=(W7 _)))))))))
theorem Zbh:Zw ["n","pairs","i"] ["n"] (Zo Zex):=fsc
theorem Zdl{f:Nat->Addr}{fd:Nat->Xv}{cls:Nat->Addr}(T:Txt K mg f fd cls):FnOk P w K mg base CX0 1 (f 7) (fd 7) ["n"] (spD K (sD Yh)):=by
 refine Z7 T.e_law_pairs.F Zbh (S:=Zc6) rfl rfl (λcdv A outer s H E hr=>?_)
 exact(xsq (xst 1 Zbh.nd (xls xa0)) (xsq (xfr XD rfl (Zb7 (Yc (by rfl) T.z_range (xa1 (xv 0)))) (xg 2 Zbh.nd) (Zh (xst 1 Zbh.nd (Zg3 (Zb5 Zhp (Zqm (Zam rfl) Zcx (xv 1) (Ye (Jl ["j"] [2] ["j","i"] (Zsb (Zed (by rfl) T.z_range (Zf (Zdc (xv 2) xci) (xa1 (xv 0))))) (λ_ _ _ _ _=>(xg 0 (by show XR (["j","i"]:List Str);decide +kernel))) (λ_ _ _ _ _=>(Yj Yi)) (λ_ _ _ _ _=>(xtp (Zf (xv 1) (xa1 (xv 0))))))))))))) (Zh (xrt (xv 1)))))
theorem Zjx:Zw ["n","sign","scale"] ["n","sign","scale"] (Zo Zcq):=fsc
theorem Zel{f:Nat->Addr}{fd:Nat->Xv}{cls:Nat->Addr}(T:Txt K mg f fd cls):FnOk P w K mg base CX0 2 (f 8) (fd 8) ["n","sign","scale"] (spD K (sD Y8)):=by
 have G_law_pairs:=Zdl (P:=P) (w:=w) (base:=base) T
 refine Z7 T.e_law_bent_by.F Zjx (S:=Zbk) rfl rfl (λcdv A outer s H E hr=>?_)
 exact(Zh (xrt (Ye (Jl ["i","j"] [2,1] ["i","j","scale","sign"] (xil (xce G_law_pairs hr T.e_law_pairs (xa1 (xv 0)))) (λ_ _ _ _ _=>(xg2 rfl (xg 0 (by show XR (["i","j","scale","sign"]:List Str);decide +kernel)) (xg 1 (by show XR (["i","j","scale","sign"]:List Str);decide +kernel)))) (λ_ _ _ _ _=>(Yj Yi)) (λ_ _ _ _ _=>(xtp (Zf (Zze xci (Zf1 (Zf1 (xv 2) (xix (xv 3) (xv 0))) (xix (xv 3) (xv 1)))) (xa1 xci))))))))
theorem Zjl:Zw ["script","k"] ["script","k"] (Zo Zcj):=fsc
theorem Zjt{f:Nat->Addr}{fd:Nat->Xv}{cls:Nat->Addr}(T:Txt K mg f fd cls):FnOk P w K mg base CX0 1 (f 9) (fd 9) ["script","k"] (spD K (sD Jt)):=by
 refine Z7 T.e_law_cell_at.F Zjl (S:=Zbi) rfl rfl (λcdv A outer s H E hr=>?_)
 exact(xsq (xif (xlt (xv 1) (xln T.z_len (xa1 (xv 0)))) (Zh (xrt (xix (xv 0) (xv 1)))) xnl) (Zh (xrt xci)))
theorem Zag:Zw ["bars","xs","at","way","by"] ["bars","xs"] (Zo Zce):=fsc
theorem Zjz{f:Nat->Addr}{fd:Nat->Xv}{cls:Nat->Addr}(T:Txt K mg f fd cls):FnOk P w K mg base CX0 3 (f 10) (fd 10) ["bars","xs"] (spD K (sD Jr)):=by
 have G_law_low:=Zb6 (P:=P) (w:=w) (base:=base) T
 have G_law_plus:=J7 (P:=P) (w:=w) (base:=base) T
 refine Z7 T.e_law_changed.F Zag (S:=Zbm) rfl rfl (λcdv A outer s H E hr=>?_)
 have hu:=hr.units
 exact(xsq (xst 2 Zag.nd (Zba (xix (xv 1) xci) (xln T.z_len (xa1 (xv 0))))) (xsq (xst 3 Zag.nd (Zba (xix (xv 1) xci) xci)) (xsq (xif (xlt (xv 3) xci) (xsq (xst 4 Zag.nd (xix (xls (Zf (xtp (Zf (Zdr (Zig xci)) (xa1 xci))) (Zf (xtp (Zf (Zdr (Zig xci)) (xa1 (Z9o xci xci)))) (xa1 (xtp (Zf xci (xa1 xci))))))) (xv 3))) (Zh (xrt (Zg3 (Zb5 Zhp (Zqm (Zam rfl) Zcx (Zg3 (Zb5 Zhp (Zqm (Zam rfl) Zcx (Ze3 (Ze8 (xv 0) (Za9 Zaz) (Wg (Wf (xv 2))))) (xls (xa1 (xce G_law_plus hr T.e_law_plus (Zf (xix (xv 0) (xv 2)) (xa1 (xv 4))))))))) (Ze3 (Ze8 (xv 0) (Wg (Wf (Zdc (xv 2) xci))) (Za9 Zaz))))))))) xnl) (xsq (xif (xeq hu (xv 3) xci) (Zh (xrt (Ye (Jl ["one"] [] ["one"] (xil (xv 0)) (λ_ _ _ _ _=>(xg 0 (by show XR (["one"]:List Str);decide +kernel))) (λ_ _ _ _ _=>(Yj Yi)) (λ_ _ _ _ _=>(xtp (Zf (Zze xci (xix (xv 0) xci)) (xa1 (xix (xv 0) xci))))))))) xnl) (xsq (xif (xeq hu (xv 3) xci) (Zh (xrt (Ye (Jl ["one"] [] ["one"] (xil (xv 0)) (λ_ _ _ _ _=>(xg 0 (by show XR (["one"]:List Str);decide +kernel))) (λ_ _ _ _ _=>(Yj Yi)) (λ_ _ _ _ _=>(xce G_law_low hr T.e_law_low (Zf (Zf1 (xix (xv 0) xci) xci) (xa1 (Zf1 (xix (xv 0) xci) xci))))))))) xnl) (xsq (xif (xeq hu (xv 3) xci) (Zh (xrt (Zg3 (Zb5 Zhp (Zqm (Zam rfl) Zcx (Ze3 (Ze8 (xv 0) (Za9 Zaz) (Wg (Wf (xv 2))))) (Ze3 (Ze8 (xv 0) (Wg (Wf (Zdc (xv 2) xci))) (Za9 Zaz)))))))) xnl) (xsq (xif (xeq hu (xv 3) xci) (Zh (xrt (Zg3 (Zb5 Zhp (Zqm (Zam rfl) Zcx (Zg3 (Zb5 Zhp (Zqm (Zam rfl) Zcx (Ze3 (Ze8 (xv 0) (Za9 Zaz) (Wg (Wf (xv 2))))) (xls (xa1 (xtp (Zf (Zba (xix (xv 1) xci) xci) (xa1 xci)))))))) (Ze3 (Ze8 (xv 0) (Wg (Wf (xv 2))) (Za9 Zaz)))))))) xnl) (xsq (xif (xeq hu (xv 3) xci) (Zh (xrt (Zg3 (Zb5 Zhp (Zqm (Zam rfl) Zcx (Ze3 (Ze8 (xv 0) (Wg (Wf xci)) (Za9 Zaz))) (Ze3 (Ze8 (xv 0) (Za9 Zaz) (Wg (Wf xci))))))))) xnl) (Zh (xrt (Ye (Jl ["one"] [] ["one"] (xil (xv 0)) (λ_ _ _ _ _=>(xg 0 (by show XR (["one"]:List Str);decide +kernel))) (λ_ _ _ _ _=>(Yj Yi)) (λ_ _ _ _ _=>(xtp (Zf xci (xa1 xci))))))))))))))))
theorem Znd:Zw ["table"] ["table"] (Zo Zg5):=fsc
theorem Zn6{f:Nat->Addr}{fd:Nat->Xv}{cls:Nat->Addr}(T:Txt K mg f fd cls):FnOk P w K mg base CX0 1 (f 11) (fd 11) ["table"] (spD K (sD Zay)):=by
 refine Z7 T.e_law_copy.F Znd (S:=Zd8) rfl rfl (λcdv A outer s H E hr=>?_)
 exact(Zh (xrt (Ye (Jl ["row"] [] ["row"] (xil (xv 0)) (λ_ _ _ _ _=>(xg 0 (by show XR (["row"]:List Str);decide +kernel))) (λ_ _ _ _ _=>(Yj Yi)) (λ_ _ _ _ _=>(Ztq Zw2 (Yap Zq0 (Zj3 rfl) (by rfl) T.z_list L2.B.boot_list (xa1 (xv 0)))))))))
theorem Ji:Zw ["n","cuts","table","cut","weight","i","j"] ["n","cuts"] (Zo Zey):=fsc
theorem Zmm{f:Nat->Addr}{fd:Nat->Xv}{cls:Nat->Addr}(T:Txt K mg f fd cls):FnOk P w K mg base CX0 3 (f 12) (fd 12) ["n","cuts"] (spD K (sD Jb)):=by
 have G_law_plus:=J7 (P:=P) (w:=w) (base:=base) T
 refine Z7 T.e_law_table.F Ji (S:=Zc0) rfl rfl (λcdv A outer s H E hr=>?_)
 exact(xsq (Zhx (Zau (i:=2) (own:=["i"]) (caps:=[0]) (N':=["i","n"]) true Ji.nd rfl (QQ rfl) (by exact⟨rfl,by decide +kernel,rfl,by decide +kernel,rfl,rfl⟩) (by rfl) (by decide) (Zb7 (Yc (by rfl) T.z_range (xa1 (xv 0)))) (λ_ _ _ _ _=>(xg 0 (by show XR (["i","n"]:List Str);decide +kernel))) (λ_ _ _ _ _=>(Yj Yi)) (λ_ _ _ _ _=>(Ye (Jl ["j"] [] ["j"] (Zb7 (Yc (by rfl) T.z_range (xa1 (xv 1)))) (λ_ _ _ _ _=>(xg 0 (by show XR (["j"]:List Str);decide +kernel))) (λ_ _ _ _ _=>(Yj Yi)) (λ_ _ _ _ _=>(xtp (Zf xci (xa1 xci))))))))) (xsq (xfr XD rfl (xil (xv 1)) (xg2 rfl (xg 3 Ji.nd) (xg 4 Ji.nd)) (Zh (xfr XD rfl (xil (xv 3)) (xg 5 Ji.nd) (Zh (xfr XD rfl (Zb7 (Yc (by rfl) T.z_range (xa1 (xv 0)))) (xg 6 Ji.nd) (Zh (xif (Zhe Zvc (Zg9 (Zss rfl) Zud (xv 6) (xv 3) (hm:=(by with_unfolding_all rfl)))) (xsq (Zf8 (Zgw 2 (Znv (Zrc (xce G_law_plus hr T.e_law_plus (Zf (xix (xix (xo 2) (xv 5)) (xv 6)) (xa1 (xv 4)))))) (xv 5) (xv 6) (λ_ _=>rfl))) (Zh (Zf8 (Zgw 2 (Znv (Zrc (xix (xix (xo 2) (xv 5)) (xv 6)))) (xv 6) (xv 5) (λ_ _=>rfl))))) xnl))))))) (Zh (Zgi (Zg1 2)))))
theorem Zax:Zw ["scale","more","sign","table","i","small"] ["scale","more"] (Zo Zgq):=fsc
theorem Zn8{f:Nat->Addr}{fd:Nat->Xv}{cls:Nat->Addr}(T:Txt K mg f fd cls):FnOk P w K mg base CX0 4 (f 13) (fd 13) ["scale","more"] (spD K (sD Ju)):=by
 have G_law_plus:=J7 (P:=P) (w:=w) (base:=base) T
 have G_law_table:=Zmm (P:=P) (w:=w) (base:=base) T
 refine Z7 T.e_law_five.F Zax (S:=Zdn) rfl rfl (λcdv A outer s H E hr=>?_)
 have hu:=hr.units
 exact(xsq (Zi1 (Zji (i:=2) Zax.nd rfl (Qx rfl) (xls (Zf xci (Zf xci (Zf xci (Zf (Zdr (Zig xci)) (xa1 (Zdr (Zig xci)))))))))) (xsq (xso 3 Zax.nd (xls xa0)) (xsq (xfr XD rfl (Zb7 (Yc (by rfl) T.z_range (xa1 xci))) (xg 4 Zax.nd) (Zh (Zb9 (Zb1 3 (Ye (Jl ["j"] [0,2,4] ["j","scale","sign","i"] (Zb7 (Yc (by rfl) T.z_range (xa1 xci))) (λ_ _ _ _ _=>(xg 0 (by show XR (["j","scale","sign","i"]:List Str);decide +kernel))) (λ_ _ _ _ _=>(Yj Yi)) (λ_ _ _ _ _=>(xtp (Zf (Zf1 (xv 1) (xix (xls (Zf (xix (xls (Zf xci (xa1 xci))) (J3 Zvv (Zt8 Zof Zfp (by rfl) T.z_int L2.B.boot_int (xa1 (Yv Yas (Zda (Zxg hu) Z3f (xix (xv 2) (xv 3)) (xix (xv 2) (xv 0)) (hm:=(W7 _)))))))) (xa1 xci))) (J3 Zvv (Zt8 Zof Zfp (by rfl) T.z_int L2.B.boot_int (xa1 (Yv Zxj (Zda (Zhb hu) Zm1 (xv 3) (xv 0) (hm:=(W7 _))))))))) (xa1 xci)))))))))) (xsq (xst 5 Zax.nd (xce G_law_table hr T.e_law_table (Zf xci (xa1 (xv 1))))) (Zh (Ziq (Zih 3 (xrt (Ye (Jl ["row","last"] [] ["row","last"] (Zd0 (Zdt (by rfl) T.z_zip L2.B.boot_zip (Zf (xv 3) (xa1 (xv 5))))) (λ_ _ _ _ _=>(xg2 rfl (xg 0 (by show XR (["row","last"]:List Str);decide +kernel)) (xg 1 (by show XR (["row","last"]:List Str);decide +kernel)))) (λ_ _ _ _ _=>(Yj Yi)) (λ_ _ _ _ _=>(Ye (Jl ["one","other"] [] ["one","other"] (Zd0 (Zdt (by rfl) T.z_zip L2.B.boot_zip (Zf (xv 0) (xa1 (xv 1))))) (λ_ _ _ _ _=>(xg2 rfl (xg 0 (by show XR (["one","other"]:List Str);decide +kernel)) (xg 1 (by show XR (["one","other"]:List Str);decide +kernel)))) (λ_ _ _ _ _=>(Yj Yi)) (λ_ _ _ _ _=>(xce G_law_plus hr T.e_law_plus (Zf (xv 0) (xa1 (xv 1))))))))))))))))))
theorem Zk3:Zw ["number","kind"] ["number","kind"] (Zo Zdy):=fsc
theorem Zkw{f:Nat->Addr}{fd:Nat->Xv}{cls:Nat->Addr}(T:Txt K mg f fd cls):FnOk P w K mg base CX0 2 (f 14) (fd 14) ["number","kind"] (spD K (sD Zad)):=by
 have G_law_low:=Zb6 (P:=P) (w:=w) (base:=base) T
 refine Z7 T.e_law_weight.F Zk3 (S:=Zb4) rfl rfl (λcdv A outer s H E hr=>?_)
 have hu:=hr.units
 exact(xsq (xif (xeq hu (Zba (xv 1) xci) xci) (Zh (xrt (xtp (Zf (Zdc xci (Zba (xv 0) xci)) (xa1 xci))))) xnl) (xsq (xif (xeq hu (Zba (xv 1) xci) xci) (Zh (xrt (xce G_law_low hr T.e_law_low (Zf (Zdc xci (Zba (xv 0) xci)) (xa1 (Zdc xci (Zba (Zl4 (xv 0) xci) xci))))))) xnl) (xsq (xif (xeq hu (Zba (xv 1) xci) xci) (Zh (xrt (xce G_law_low hr T.e_law_low (Zf (Zdc xci (Zba (Zf1 (xv 0) xci) xci)) (xa1 (Zdc xci (Zba (Zl4 (xv 0) xci) xci))))))) xnl) (Zh (xrt (xtp (Zf (Zdc (Zf1 (Zdc xci (Zba (xv 0) xci)) (Z9o xci xci)) (xv 0)) (xa1 xci))))))))
theorem Wv:Zw ["n","xs","cuts","found","k","at"] ["n","xs"] (Zo Zbp):=fsc
theorem Ziv{f:Nat->Addr}{fd:Nat->Xv}{cls:Nat->Addr}(T:Txt K mg f fd cls):FnOk P w K mg base CX0 3 (f 15) (fd 15) ["n","xs"] (spD K (sD Wi)):=by
 have G_law_cuts:=Zit (P:=P) (w:=w) (base:=base) T
 have G_law_weight:=Zkw (P:=P) (w:=w) (base:=base) T
 refine Z7 T.e_law_weighted.F Wv (S:=Za3) rfl rfl (λcdv A outer s H E hr=>?_)
 have hu:=hr.units
 exact(xsq (xst 2 Wv.nd (xce G_law_cuts hr T.e_law_cuts (xa1 (xv 0)))) (xsq (Zqp (Zqx (i:=3) Wv.nd rfl (Qx rfl) (xls xa0))) (xsq (xfr XD rfl (Zb7 (Yc (by rfl) T.z_range (xa1 (J3 Z5o (Zfv Zs3 (Zlv (by rfl)) (by rfl) T.z_min L2.B.boot_min (Zf (xln T.z_len (xa1 (xv 2))) (xa1 xci))))))) (xg 4 Wv.nd) (xsq (xst 5 Wv.nd (Zba (Zdc (xix (xv 1) xci) (Zf1 (xv 4) (Zdc xci (Zf1 xci (Zba (xix (xv 1) xci) xci))))) (xln T.z_len (xa1 (xv 2))))) (Zh (xif (xeq hu (Zba (xix (xv 1) (Zdc xci (xv 4))) (xix (xls (Zf xci (Zf xci (Zf xci (xa1 xci))))) (Zba (xix (xv 1) xci) xci))) xci) (Zh (Zb9 (Zb1 3 (xtp (Zf (xix (xv 2) (xv 5)) (xa1 (xce G_law_weight hr T.e_law_weight (Zf (Zdc (Zl4 (xix (xv 1) (Zdc xci (xv 4))) xci) (Zf1 xci (xix (xv 1) xci))) (xa1 (xix (xv 1) xci)))))))))) xnl)))) (Zh (Ziq (Zih 3 (xrt (Ztq Zn9 (Z8g Zkv (Zgx Z1y rfl hu) (by rfl) T.z_sorted L2.B.boot_sorted (xa1 (Ye (Jl ["k"] [3] ["k","found"] (Zb7 (Yc (by rfl) T.z_range (xa1 (xln T.z_len (xa1 (xv 3)))))) (λ_ _ _ _ _=>(xg 0 (by show XR (["k","found"]:List Str);decide +kernel))) (λ_ _ _ _ _=>(Ze2 (Zhe Z4a (Zg9 (Zrk hu) Z3g (xix (xix (xv 1) (xv 0)) xci) (Ye (Jl ["one"] [] ["one"] (xil (Ze3 (Ze8 (xv 1) (Za9 Zaz) (Wg (Wf (xv 0)))))) (λ_ _ _ _ _=>(xg 0 (by show XR (["one"]:List Str);decide +kernel))) (λ_ _ _ _ _=>(Yj Yi)) (λ_ _ _ _ _=>(xix (xv 0) xci)))) (hm:=(by with_unfolding_all rfl)))))) (λ_ _ _ _ _=>(xix (xv 1) (xv 0)))))))))))))))
theorem Jg:Zw ["n","sign","xs","table","i","j","far"] ["n","sign","xs"] (Zo Zew):=fsc
theorem Zmi{f:Nat->Addr}{fd:Nat->Xv}{cls:Nat->Addr}(T:Txt K mg f fd cls):FnOk P w K mg base CX0 5 (f 16) (fd 16) ["n","sign","xs"] (spD K (sD Zal)):=by
 have G_law_five:=Zn8 (P:=P) (w:=w) (base:=base) T
 have G_law_low:=Zb6 (P:=P) (w:=w) (base:=base) T
 have G_law_pairs:=Zdl (P:=P) (w:=w) (base:=base) T
 have G_law_weighted:=Ziv (P:=P) (w:=w) (base:=base) T
 refine Z7 T.e_law_drawn.F Jg (S:=Zcs) rfl rfl (λcdv A outer s H E hr=>?_)
 have hu:=hr.units
 exact(xsq (Zhx (Zau (i:=3) (own:=["i"]) (caps:=[0]) (N':=["i","n"]) true Jg.nd rfl (QQ rfl) (by exact⟨rfl,by decide +kernel,rfl,by decide +kernel,rfl,rfl⟩) (by rfl) (by decide) (Zb7 (Yc (by rfl) T.z_range (xa1 (xv 0)))) (λ_ _ _ _ _=>(xg 0 (by show XR (["i","n"]:List Str);decide +kernel))) (λ_ _ _ _ _=>(Yj Yi)) (λ_ _ _ _ _=>(Ye (Jl ["j"] [] ["j"] (Zb7 (Yc (by rfl) T.z_range (xa1 (xv 1)))) (λ_ _ _ _ _=>(xg 0 (by show XR (["j"]:List Str);decide +kernel))) (λ_ _ _ _ _=>(Yj Yi)) (λ_ _ _ _ _=>(xtp (Zf xci (xa1 xci))))))))) (xsq (xif (MW.mt (Zrx (Zra (xeq hu (xv 0) xci) (Zns (xeq hu (Zba (xix (xv 2) xci) xci) xci))))) (Zh (xso 3 Jg.nd (xce G_law_five hr T.e_law_five (Zf (Zdc xci (Zba (xix (xv 2) xci) xci)) (xa1 (xce G_law_weighted hr T.e_law_weighted (Zf xci (xa1 (xv 2))))))))) (Zh (xfr XD rfl (xil (xce G_law_pairs hr T.e_law_pairs (xa1 (xv 0)))) (xg2 rfl (xg 4 Jg.nd) (xg 5 Jg.nd)) (xsq (xst 6 Jg.nd (Zdc (Zba (xix (xv 2) (Zba (Zdc (Zf1 xci (xv 4)) (xv 5)) xci)) xci) (Zf1 (xix (xls (Zf xci (Zf xci (xa1 xci)))) (Zba (xix (xv 2) xci) xci)) (J3 Zvv (Zt8 Zof Zfp (by rfl) T.z_int L2.B.boot_int (xa1 (Yv Z6y (Zda Zvu Zes (Zf1 (xix (xv 1) (xv 4)) (xix (xv 1) (xv 5))) xci (hm:=(W7 _)))))))))) (xsq (Zf8 (Zgw 3 (xce G_law_low hr T.e_law_low (Zf (xv 6) (xa1 (Zdc xci (Zba (xix (xv 2) xci) xci))))) (xv 4) (xv 5) (λ_ _=>rfl))) (Zh (Zf8 (Zgw 3 (Znv (Zrc (xix (xix (xo 3) (xv 4)) (xv 5)))) (xv 5) (xv 4) (λ_ _=>rfl))))))))) (Zh (Zgi (Zg1 3)))))
theorem Yw:Zw ["cell","many","found","rest","stir","k","again"] ["cell","many"] (Zo Zcm):=fsc
theorem Zjw{f:Nat->Addr}{fd:Nat->Xv}{cls:Nat->Addr}(T:Txt K mg f fd cls):FnOk P w K mg base CX0 1 (f 17) (fd 17) ["cell","many"] (spD K (sD Wo)):=by
 refine Z7 T.e_law_numbers.F Yw (S:=Zbj) rfl rfl (λcdv A outer s H E hr=>?_)
 exact(xsq (xso 2 Yw.nd (xls xa0)) (xsq (xst 3 Yw.nd (xv 0)) (xsq (xst 4 Yw.nd (Zba (xv 0) xci)) (xsq (xfr XD rfl (Zb7 (Yc (by rfl) T.z_range (xa1 (xv 1)))) (xg 5 Yw.nd) (Zh (xif (MW.mt (Zrx (Zra (xge (xv 0) (Z9o xci xci)) (Zns (xgt (xv 3) xci))))) (xsq (Zb9 (Zb1 2 (Zba (xv 3) xci))) (Zh (xst 3 Yw.nd (Zl4 (xv 3) xci)))) (xsq (xst 4 Yw.nd (Zba (Zf1 (Zdc (Zdc (xv 4) (Zf1 xci (xv 5))) xci) xci) xci)) (xsq (xst 6 Yw.nd (Zba (Zf1 (Zba (Zf1 (xv 4) (xv 4)) xci) xci) xci)) (Zh (Zb9 (Zb1 2 (Zba (Zl4 (xv 6) xci) xci))))))))) (Zh (Zgi (Zg1 2)))))))
theorem Ziw:Zw ["n","xs","sign"] ["n","xs"] (Zo Zg2):=fsc
theorem Zjc{f:Nat->Addr}{fd:Nat->Xv}{cls:Nat->Addr}(T:Txt K mg f fd cls):FnOk P w K mg base CX0 1 (f 18) (fd 18) ["n","xs"] (spD K (sD Jw)):=by
 refine Z7 T.e_law_sign.F Ziw (S:=Zdw) rfl rfl (λcdv A outer s H E hr=>?_)
 exact(xsq (Zhx (Zau (i:=2) (own:=["k"]) (caps:=[1]) (N':=["k","xs"]) true Ziw.nd rfl (QQ rfl) (by exact⟨rfl,by decide +kernel,rfl,by decide +kernel,rfl,rfl⟩) (by rfl) (by decide) (Zb7 (Yc (by rfl) T.z_range (xa1 (xv 0)))) (λ_ _ _ _ _=>(xg 0 (by show XR (["k","xs"]:List Str);decide +kernel))) (λ_ _ _ _ _=>(Yj Yi)) (λ_ _ _ _ _=>(xix (xls (Zf xci (Zf xci (Zf (Zdr (Zig xci)) (Zf xci (Zf xci (Zf (Zdr (Zig xci)) (xa1 xci)))))))) (Zba (Zl4 (xix (xv 1) (Zba (xv 0) xci)) (Zdc xci (Zf1 (Zl4 (xv 0) xci) xci))) xci))))) (xsq (Zwu (Zwx 2 xci (Zba (xix (xv 1) xci) (xv 0)))) (xsq (Zwu (Zwx 2 (Zze xci (J3 Zui (Zfv Zoq (Zff rfl (by rfl)) (by rfl) T.z_sum L2.B.boot_sum (xa1 (xo 2))))) (Zba (xix (xv 1) xci) (xv 0)))) (Zh (Zgi (Zg1 2))))))
theorem Wu:Zw ["n","xs","found","k","more","at"] ["n","xs"] (Zo Ze1):=fsc
theorem Zmc{f:Nat->Addr}{fd:Nat->Xv}{cls:Nat->Addr}(T:Txt K mg f fd cls):FnOk P w K mg base CX0 3 (f 19) (fd 19) ["n","xs"] (spD K (sD W8)):=by
 have G_law_bent_by:=Zel (P:=P) (w:=w) (base:=base) T
 have G_law_pairs:=Zdl (P:=P) (w:=w) (base:=base) T
 have G_law_plus:=J7 (P:=P) (w:=w) (base:=base) T
 have G_law_sign:=Zjc (P:=P) (w:=w) (base:=base) T
 refine Z7 T.e_law_valid.F Wu (S:=Zcy) rfl rfl (λcdv A outer s H E hr=>?_)
 have hu:=hr.units
 exact(xsq (Zi1 (Zji (i:=2) Wu.nd rfl (Qx rfl) (Ye (Jl ["pair"] [] ["pair"] (xil (xce G_law_pairs hr T.e_law_pairs (xa1 (xv 0)))) (λ_ _ _ _ _=>(xg 0 (by show XR (["pair"]:List Str);decide +kernel))) (λ_ _ _ _ _=>(Yj Yi)) (λ_ _ _ _ _=>(xtp (Zf xci (xa1 xci)))))))) (xsq (xfr XD rfl (Zb7 (Yc (by rfl) T.z_range (xa1 (Zdc xci (Zba (xix (xv 1) xci) xci))))) (xg 3 Wu.nd) (xsq (xst 4 Wu.nd (xce G_law_bent_by hr T.e_law_bent_by (Zf (xv 0) (Zf (xce G_law_sign hr T.e_law_sign (Zf (xv 0) (xa1 (Ze3 (Ze8 (xv 1) (Wg (Wf (Zdc xci (Zf1 xci (xv 3))))) (Wg (Wf (Zdc xci (Zf1 xci (xv 3)))))))))) (xa1 (Zdc xci (Zba (xix (xv 1) xci) xci))))))) (Zh (Zi1 (Zji (i:=2) Wu.nd rfl (Qx rfl) (Ye (Jl ["one","other"] [] ["one","other"] (Zd0 (Zdt (by rfl) T.z_zip L2.B.boot_zip (Zf (xv 2) (xa1 (xv 4))))) (λ_ _ _ _ _=>(xg2 rfl (xg 0 (by show XR (["one","other"]:List Str);decide +kernel)) (xg 1 (by show XR (["one","other"]:List Str);decide +kernel)))) (λ_ _ _ _ _=>(Yj Yi)) (λ_ _ _ _ _=>(xce G_law_plus hr T.e_law_plus (Zf (xv 0) (xa1 (xv 1)))))))))))) (xsq (xif (xeq hu (Zba (xix (xv 1) xci) xci) xci) (xsq (Zi1 (Zji (i:=5) Wu.nd rfl (Qx rfl) (Zba (Zl4 (xix (xv 1) xci) xci) (J3 Zu7 (Zfv Zko (Zfq (by rfl)) (by rfl) T.z_max L2.B.boot_max (Zf xci (xa1 (xln T.z_len (xa1 (xv 2)))))))))) (Zh (Zi1 (Zji (i:=2) Wu.nd rfl (Qx rfl) (Ye (Jl ["i"] [2,5,1] ["i","found","at","xs"] (Zb7 (Yc (by rfl) T.z_range (xa1 (xln T.z_len (xa1 (xv 2)))))) (λ_ _ _ _ _=>(xg 0 (by show XR (["i","found","at","xs"]:List Str);decide +kernel))) (λ_ _ _ _ _=>(Yj Yi)) (λ_ _ _ _ _=>(xce G_law_plus hr T.e_law_plus (Zf (xix (xv 1) (xv 0)) (xa1 (xtp (Zf (J3 Zvv (Zt8 Zof Zfp (by rfl) T.z_int L2.B.boot_int (xa1 (Yv Zxj (Zda (Zhb hu) Zm1 (xv 0) (xv 2) (hm:=(W7 _))))))) (xa1 (Zdc xci (Zba (xix (xv 3) xci) xci))))))))))))))) xnl) (Zh (xrt (xv 2))))))
theorem Zcn:Zw ["n","sides","point"] ["n"] (Zo Zgk):=fsc
theorem Zn5{f:Nat->Addr}{fd:Nat->Xv}{cls:Nat->Addr}(T:Txt K mg f fd cls):FnOk P w K mg base CX0 1 (f 20) (fd 20) ["n"] (spD K (sD Za1)):=by
 refine Z7 T.e_all_cuts.F Zcn (S:=Zds) rfl rfl (λcdv A outer s H E hr=>?_)
 have hu:=hr.units
 exact(xsq (xst 1 Zcn.nd (xls (xa1 (xls xa0)))) (xsq (xfr XD rfl (Zsb (Zed (by rfl) T.z_range (Zf xci (xa1 (xv 0))))) (xg 2 Zcn.nd) (Zh (xst 1 Zcn.nd (Zg3 (Zb5 Zhp (Zqm (Zam rfl) Zcx (xv 1) (Ye (Jl ["side"] [2] ["side","point"] (xil (xv 1)) (λ_ _ _ _ _=>(xg 0 (by show XR (["side","point"]:List Str);decide +kernel))) (λ_ _ _ _ _=>(Yj Yi)) (λ_ _ _ _ _=>(Zg3 (Zb5 Zhp (Zqm (Zam rfl) Zcx (xv 0) (xls (xa1 (xv 1))))))))))))))) (Zh (xrt (Ye (Jl ["side"] [] ["side"] (xil (Ztq Zzu (Z8g Zwa (Zp2 Zxh rfl hu) (by rfl) T.z_sorted L2.B.boot_sorted (xa1 (xv 1))))) (λ_ _ _ _ _=>(xg 0 (by show XR (["side"]:List Str);decide +kernel))) (λ_ _ _ _ _=>(Ze2 (xgt (xln T.z_len (xa1 (xv 0))) xci))) (λ_ _ _ _ _=>(xv 0))))))))
theorem Zcc:Zw ["n","pairs","i","j"] ["n"] (Zo Zf9):=fsc
theorem Zav{f:Nat->Addr}{fd:Nat->Xv}{cls:Nat->Addr}(T:Txt K mg f fd cls):FnOk P w K mg base CX0 1 (f 21) (fd 21) ["n"] (spD K (sD Yl)):=by
 refine Z7 T.e_pairs_of.F Zcc (S:=Zd1) rfl rfl (λcdv A outer s H E hr=>?_)
 exact(xsq (xso 1 Zcc.nd (xls xa0)) (xsq (xfr XD rfl (Zb7 (Yc (by rfl) T.z_range (xa1 (xv 0)))) (xg 2 Zcc.nd) (Zh (xfr XD rfl (Zsb (Zed (by rfl) T.z_range (Zf (Zdc (xv 2) xci) (xa1 (xv 0))))) (xg 3 Zcc.nd) (Zh (Zb9 (Zb1 1 (xtp (Zf (xv 2) (xa1 (xv 3)))))))))) (Zh (Zgi (Zg1 1)))))
theorem Zlj:Zw ["pairs","tops","sides"] ["pairs","tops","sides"] (Zo Zdi):=fsc
theorem Zlb{f:Nat->Addr}{fd:Nat->Xv}{cls:Nat->Addr}(T:Txt K mg f fd cls):FnOk P w K mg base CX0 1 (f 22) (fd 22) ["pairs","tops","sides"] (spD K (sD Zac)):=by
 refine Z7 T.e_parted_sum.F Zlj (S:=Zb2) rfl rfl (λcdv A outer s H E hr=>?_)
 have hu:=hr.units
 exact(Zh (xrt (J3 Zui (Zfv Zoq (Zff rfl (by rfl)) (by rfl) T.z_sum L2.B.boot_sum (xa1 (Ye (Jl ["pair","top"] [2] ["pair","top","sides"] (Zd0 (Zdt (by rfl) T.z_zip L2.B.boot_zip (Zf (xv 0) (xa1 (xv 1))))) (λ_ _ _ _ _=>(xg2 rfl (xg 0 (by show XR (["pair","top","sides"]:List Str);decide +kernel)) (xg 1 (by show XR (["pair","top","sides"]:List Str);decide +kernel)))) (λ_ _ _ _ _=>(Ze2 (xne hu (xix (xv 2) (xix (xv 0) xci)) (xix (xv 2) (xix (xv 0) xci))))) (λ_ _ _ _ _=>(xv 1)))))))))
theorem Zn0:Zw ["n","cut"] ["n","cut"] (Zo Zg8):=fsc
theorem Zia{f:Nat->Addr}{fd:Nat->Xv}{cls:Nat->Addr}(T:Txt K mg f fd cls):FnOk P w K mg base CX0 1 (f 23) (fd 23) ["n","cut"] (spD K (sD Js)):=by
 refine Z7 T.e_sides_of.F Zn0 (S:=Zd4) rfl rfl (λcdv A outer s H E hr=>?_)
 exact(Zh (xrt (Ye (Jl ["point"] [1] ["point","cut"] (Zb7 (Yc (by rfl) T.z_range (xa1 (xv 0)))) (λ_ _ _ _ _=>(xg 0 (by show XR (["point","cut"]:List Str);decide +kernel))) (λ_ _ _ _ _=>(Yj Yi)) (λ_ _ _ _ _=>(Zg3 (Z8h (Ycs (Zhe Zvc (Zg9 (Zso rfl) Zud (xv 0) (xv 1) (hm:=(by with_unfolding_all rfl)))) xci xci))))))))
theorem Zbw:Zw ["n","tops","pairs","cut"] ["n","tops"] (Zo Zci):=fsc
theorem Zjy{f:Nat->Addr}{fd:Nat->Xv}{cls:Nat->Addr}(T:Txt K mg f fd cls):FnOk P w K mg base CX0 2 (f 24) (fd 24) ["n","tops"] (spD K (sD Y6)):=by
 have G_all_cuts:=Zn5 (P:=P) (w:=w) (base:=base) T
 have G_pairs_of:=Zav (P:=P) (w:=w) (base:=base) T
 have G_parted_sum:=Zlb (P:=P) (w:=w) (base:=base) T
 have G_sides_of:=Zia (P:=P) (w:=w) (base:=base) T
 refine Z7 T.e_bars_no_cut.F Zbw (S:=Zbl) rfl rfl (λcdv A outer s H E hr=>?_)
 exact(xsq (xst 2 Zbw.nd (xce G_pairs_of hr T.e_pairs_of (xa1 (xv 0)))) (xsq (xfr XD rfl (xil (xce G_all_cuts hr T.e_all_cuts (xa1 (xv 0)))) (xg 3 Zbw.nd) (Zh (xif (xlt (xce G_parted_sum hr T.e_parted_sum (Zf (xv 2) (Zf (xv 1) (xa1 (xce G_sides_of hr T.e_sides_of (Zf (xv 0) (xa1 (xv 3)))))))) xci) (Zh (xrt (Zf3 Zbc))) xnl))) (Zh (xrt (Zf3 Zbc)))))
theorem Zi5:Zw ["table"] ["table"] (Zo Zbq):=fsc
theorem Zio{f:Nat->Addr}{fd:Nat->Xv}{cls:Nat->Addr}(T:Txt K mg f fd cls):FnOk P w K mg base CX0 2 (f 25) (fd 25) ["table"] (spD K (sD Je)):=by
 have G_pairs_of:=Zav (P:=P) (w:=w) (base:=base) T
 refine Z7 T.e_distances_of.F Zi5 (S:=Za0) rfl rfl (λcdv A outer s H E hr=>?_)
 exact(Zh (xrt (Ye (Jl ["i","j"] [0] ["i","j","table"] (xil (xce G_pairs_of hr T.e_pairs_of (xa1 (xln T.z_len (xa1 (xv 0)))))) (λ_ _ _ _ _=>(xg2 rfl (xg 0 (by show XR (["i","j","table"]:List Str);decide +kernel)) (xg 1 (by show XR (["i","j","table"]:List Str);decide +kernel)))) (λ_ _ _ _ _=>(Yj Yi)) (λ_ _ _ _ _=>(xix (xix (xv 2) (xv 0)) (xv 1)))))))
theorem Yk:Zw ["a","b","left"] ["a","b"] (Zo Jv):=fsc
theorem Jc{f:Nat->Addr}{fd:Nat->Xv}{cls:Nat->Addr}(T:Txt K mg f fd cls):FnOk P w K mg base CX0 1 (f 26) (fd 26) ["a","b"] (spD K (sD Yg)):=by
 refine Z7 T.e_greatest_divisor.F Yk (S:=Jm) rfl rfl (λcdv A outer s H E hr=>?_)
 have hu:=hr.units
 exact(xsq (xst 0 Yk.nd (J3 Z04 (Zfv Zrg Zlm (by rfl) T.z_abs L2.B.boot_abs (xa1 (xv 0))))) (xsq (xst 1 Yk.nd (J3 Z04 (Zfv Zrg Zlm (by rfl) T.z_abs L2.B.boot_abs (xa1 (xv 1))))) (xsq (Zon (Zos XD (xne hu (xv 1) xci) (xsq (xst 2 Yk.nd (Zba (xv 0) (xv 1))) (xsq (xst 0 Yk.nd (xv 1)) (Zh (xst 1 Yk.nd (xv 2))))))) (Zh (xrt (xv 0))))))
theorem Znp:Zw ["thing"] ["thing"] (Zo Zg0):=fsc
theorem Zeu{f:Nat->Addr}{fd:Nat->Xv}{cls:Nat->Addr}(T:Txt K mg f fd cls):FnOk P w K mg base CX0 1 (f 27) (fd 27) ["thing"] (spD K (sD Ym)):=by
 refine Z7 T.e_is_whole.F Znp (S:=Zeb) rfl rfl (λcdv A outer s H E hr=>?_)
 exact(Zh (xrt (Zbv (Zjn (Zcb (Zg4 (by decide) (by rfl) T.z_isinstance L2.B.boot_isinstance (by rfl) T.z_int L2.B.boot_int (xv 0))) (Zl1 (Zzy (Z9m (Zcb (Zg4 (by decide) (by rfl) T.z_isinstance L2.B.boot_isinstance (by rfl) T.z_bool L2.B.boot_bool (xv 0))))))))))
theorem Zjr:Zw ["thing"] ["thing"] (Zo Zck):=fsc
theorem Zen{f:Nat->Addr}{fd:Nat->Xv}{cls:Nat->Addr}(T:Txt K mg f fd cls):FnOk P w K mg base CX0 2 (f 28) (fd 28) ["thing"] (spD K (sD Wn)):=by
 have G_greatest_divisor:=Jc (P:=P) (w:=w) (base:=base) T
 have G_is_whole:=Zeu (P:=P) (w:=w) (base:=base) T
 refine Z7 T.e_is_fraction.F Zjr (S:=Zbo) rfl rfl (λcdv A outer s H E hr=>?_)
 have hu:=hr.units
 exact(xsq (xif (MW.mt (Zfk (Zfy (xno (Jh (Jj (Zcb (Zg4 (by decide) (by rfl) T.z_isinstance L2.B.boot_isinstance (by rfl) T.z_tuple L2.B.boot_tuple (xv 0))) (λ_=>rfl)))) (Zc1 (xne hu (xln T.z_len (xa1 (xv 0))) xci))))) (Zh (xrt (Zf3 Zbc))) xnl) (xsq (xif (MW.mt (Zfk (Zfy (xno (Jh (Jj (xce G_is_whole hr T.e_is_whole (xa1 (xix (xv 0) xci))) (λ_=>rfl)))) (Zc1 (xno (Jh (Jj (xce G_is_whole hr T.e_is_whole (xa1 (xix (xv 0) xci))) (λ_=>rfl)))))))) (Zh (xrt (Zf3 Zbc))) xnl) (Zh (xrt (Zbv (Zjn (Yv Z7c (Zda Zzc Zes (xix (xv 0) xci) xci (hm:=(W7 _)))) (Zl1 (Yv Zxj (Zda (Zhb hu) Zm1 (xce G_greatest_divisor hr T.e_greatest_divisor (Zf (xix (xv 0) xci) (xa1 (xix (xv 0) xci)))) xci (hm:=(W7 _)))))))))))
theorem Zfz:Zw ["n","thing","number"] ["n","thing"] (Zo Zdj):=fsc
theorem Zln{f:Nat->Addr}{fd:Nat->Xv}{cls:Nat->Addr}(T:Txt K mg f fd cls):FnOk P w K mg base CX0 3 (f 29) (fd 29) ["n","thing"] (spD K (sD W0)):=by
 have G_is_fraction:=Zen (P:=P) (w:=w) (base:=base) T
 have G_pairs_of:=Zav (P:=P) (w:=w) (base:=base) T
 refine Z7 T.e_is_row_for.F Zfz (S:=Zbz) rfl rfl (λcdv A outer s H E hr=>?_)
 have hu:=hr.units
 exact(xsq (xif (MW.mt (Zfk (Zfy (xno (Jh (Jj (Zcb (Zg4 (by decide) (by rfl) T.z_isinstance L2.B.boot_isinstance (by rfl) T.z_list L2.B.boot_list (xv 1))) (λ_=>rfl)))) (Zc1 (xne hu (xln T.z_len (xa1 (xv 1))) (xln T.z_len (xa1 (xce G_pairs_of hr T.e_pairs_of (xa1 (xv 0)))))))))) (Zh (xrt (Zf3 Zbc))) xnl) (xsq (xfr XD rfl (xil (xv 1)) (xg 2 Zfz.nd) (Zh (xif (xno (Jh (Jj (xce G_is_fraction hr T.e_is_fraction (xa1 (xv 2))) (λ_=>rfl)))) (Zh (xrt (Zf3 Zbc))) xnl))) (Zh (xrt (Zf3 Zbc)))))
theorem Ja:Zw ["numbers","bottom","q"] ["numbers"] (Zo Za6):=fsc
theorem Zcv{f:Nat->Addr}{fd:Nat->Xv}{cls:Nat->Addr}(T:Txt K mg f fd cls):FnOk P w K mg base CX0 2 (f 30) (fd 30) ["numbers"] (spD K (sD Z2)):=by
 have G_greatest_divisor:=Jc (P:=P) (w:=w) (base:=base) T
 refine Z7 T.e_shared_bottom.F Ja (S:=Zaq) rfl rfl (λcdv A outer s H E hr=>?_)
 exact(xsq (xst 1 Ja.nd xci) (xsq (xfr XD rfl (xil (xv 0)) (xg 2 Ja.nd) (Zh (xst 1 Ja.nd (Zf1 (Zl4 (xv 1) (xce G_greatest_divisor hr T.e_greatest_divisor (Zf (xv 1) (xa1 (xix (xv 2) xci))))) (xix (xv 2) xci))))) (Zh (xrt (xv 1)))))
theorem Zl5:Zw ["bottom","numbers"] ["bottom","numbers"] (Zo Zev):=fsc
theorem Zhf{f:Nat->Addr}{fd:Nat->Xv}{cls:Nat->Addr}(T:Txt K mg f fd cls):FnOk P w K mg base CX0 1 (f 31) (fd 31) ["bottom","numbers"] (spD K (sD Yq)):=by
 refine Z7 T.e_tops_over.F Zl5 (S:=Zcw) rfl rfl (λcdv A outer s H E hr=>?_)
 exact(Zh (xrt (Ye (Jl ["q"] [0] ["q","bottom"] (xil (xv 1)) (λ_ _ _ _ _=>(xg 0 (by show XR (["q","bottom"]:List Str);decide +kernel))) (λ_ _ _ _ _=>(Yj Yi)) (λ_ _ _ _ _=>(Zf1 (xix (xv 0) xci) (Zl4 (xv 1) (xix (xv 0) xci))))))))
theorem Jq:Zw ["table","numbers","n","tops","distances","far"] ["table","numbers"] (Zo Zdo):=fsc
theorem Zld{f:Nat->Addr}{fd:Nat->Xv}{cls:Nat->Addr}(T:Txt K mg f fd cls):FnOk P w K mg base CX0 4 (f 32) (fd 32) ["table","numbers"] (spD K (sD Wb)):=by
 have G_bars_no_cut:=Zjy (P:=P) (w:=w) (base:=base) T
 have G_distances_of:=Zio (P:=P) (w:=w) (base:=base) T
 have G_is_row_for:=Zln (P:=P) (w:=w) (base:=base) T
 have G_shared_bottom:=Zcv (P:=P) (w:=w) (base:=base) T
 have G_tops_over:=Zhf (P:=P) (w:=w) (base:=base) T
 refine Z7 T.e_shows_bars.F Jq (S:=Zb3) rfl rfl (λcdv A outer s H E hr=>?_)
 exact(xsq (xst 2 Jq.nd (xln T.z_len (xa1 (xv 0)))) (xsq (xif (xno (Jh (Jj (xce G_is_row_for hr T.e_is_row_for (Zf (xv 2) (xa1 (xv 1)))) (λ_=>rfl)))) (Zh (xrt (Zf3 Zbc))) xnl) (xsq (xst 3 Jq.nd (xce G_tops_over hr T.e_tops_over (Zf (xce G_shared_bottom hr T.e_shared_bottom (xa1 (xv 1))) (xa1 (xv 1))))) (xsq (xst 4 Jq.nd (xce G_distances_of hr T.e_distances_of (xa1 (xv 0)))) (xsq (xst 5 Jq.nd (xce G_tops_over hr T.e_tops_over (Zf (xce G_shared_bottom hr T.e_shared_bottom (xa1 (xv 4))) (xa1 (xv 4))))) (Zh (xrt (Zbv (Zjn (Yv Z9t (Zda Zxz Zes (J3 Zui (Zfv Zoq (Zff rfl (by rfl)) (by rfl) T.z_sum L2.B.boot_sum (xa1 (Ye (Jl ["a","b"] [] ["a","b"] (Zd0 (Zdt (by rfl) T.z_zip L2.B.boot_zip (Zf (xv 3) (xa1 (xv 5))))) (λ_ _ _ _ _=>(xg2 rfl (xg 0 (by show XR (["a","b"]:List Str);decide +kernel)) (xg 1 (by show XR (["a","b"]:List Str);decide +kernel)))) (λ_ _ _ _ _=>(Yj Yi)) (λ_ _ _ _ _=>(Zf1 (xv 0) (xv 1)))))))) xci (hm:=(W7 _)))) (Zl1 (xce G_bars_no_cut hr T.e_bars_no_cut (Zf (xv 2) (xa1 (xv 3))))))))))))))
theorem Zdx:Zw ["things","one","behind"] ["things"] (Zo Ze7):=fsc
theorem Zhk{f:Nat->Addr}{fd:Nat->Xv}{cls:Nat->Addr}(T:Txt K mg f fd cls):FnOk P w K mg base CX0 1 (f 33) (fd 33) ["things"] (spD K (sD Zan)):=by
 refine Z7 T.e_is_rising.F Zdx (S:=Zc3) rfl rfl (λcdv A outer s H E hr=>?_)
 exact(xsq (xfr XD rfl (Zd0 (Zdt (by rfl) T.z_zip L2.B.boot_zip (Zf (xv 0) (xa1 (Ze3 (Ze8 (xv 0) (Wg (Wf xci)) (Za9 Zaz))))))) (xg2 rfl (xg 1 Zdx.nd) (xg 2 Zdx.nd)) (Zh (xif (xno (xlt (xv 1) (xv 2))) (Zh (xrt (Zf3 Zbc))) xnl))) (Zh (xrt (Zf3 Zbc))))
theorem Zlx:Zw ["n","thing","point"] ["n","thing"] (Zo Zk2):=fsc
theorem Zrw{f:Nat->Addr}{fd:Nat->Xv}{cls:Nat->Addr}(T:Txt K mg f fd cls):FnOk P w K mg base CX0 2 (f 34) (fd 34) ["n","thing"] (spD K (sD Zf2)):=by
 have G_is_rising:=Zhk (P:=P) (w:=w) (base:=base) T
 have G_is_whole:=Zeu (P:=P) (w:=w) (base:=base) T
 refine Z7 T.e_is_cut.F Zlx (S:=Zfn) rfl rfl (λcdv A outer s H E hr=>?_)
 have hu:=hr.units
 exact(xsq (xif (MW.mt (Zfk (Zfy (xno (Jh (Jj (Zcb (Zg4 (by decide) (by rfl) T.z_isinstance L2.B.boot_isinstance (by rfl) T.z_list L2.B.boot_list (xv 1))) (λ_=>rfl)))) (Zc1 (xeq hu (xln T.z_len (xa1 (xv 1))) xci))))) (Zh (xrt (Zf3 Zbc))) xnl) (xsq (xfr XD rfl (xil (xv 1)) (xg 2 Zlx.nd) (Zh (xif (xno (Jh (Jj (xce G_is_whole hr T.e_is_whole (xa1 (xv 2))) (λ_=>rfl)))) (Zh (xrt (Zf3 Zbc))) xnl))) (Zh (xrt (Zbv (Zjn (xce G_is_rising hr T.e_is_rising (xa1 (xv 1))) (Zbv (Zjn (Yv Z7c (Zda Zzc Zes (xix (xv 1) xci) xci (hm:=(W7 _)))) (Zl1 (Yv Z9t (Zda Zxz Zes (xix (xv 1) (Zdr (Zig xci))) (xv 0) (hm:=(W7 _)))))))))))))
theorem Zfh:Zw ["n","thing"] ["n","thing"] (Zo J9):=fsc
theorem Zfm{f:Nat->Addr}{fd:Nat->Xv}{cls:Nat->Addr}(T:Txt K mg f fd cls):FnOk P w K mg base CX0 3 (f 35) (fd 35) ["n","thing"] (spD K (sD J2)):=by
 have G_is_cut:=Zrw (P:=P) (w:=w) (base:=base) T
 have G_is_fraction:=Zen (P:=P) (w:=w) (base:=base) T
 refine Z7 T.e_is_weighted_cut.F Zfh (S:=J1) rfl rfl (λcdv A outer s H E hr=>?_)
 have hu:=hr.units
 exact(xsq (xif (MW.mt (Zfk (Zfy (xno (Jh (Jj (Zcb (Zg4 (by decide) (by rfl) T.z_isinstance L2.B.boot_isinstance (by rfl) T.z_tuple L2.B.boot_tuple (xv 1))) (λ_=>rfl)))) (Zc1 (xne hu (xln T.z_len (xa1 (xv 1))) xci))))) (Zh (xrt (Zf3 Zbc))) xnl) (Zh (xrt (Zbv (Zjn (xce G_is_cut hr T.e_is_cut (Zf (xv 0) (xa1 (xix (xv 1) xci)))) (Zbv (Zjn (xce G_is_fraction hr T.e_is_fraction (xa1 (xix (xv 1) xci))) (Zl1 (Yv Z6y (Zda Zvu Zes (xix (xix (xv 1) xci) xci) xci (hm:=(W7 _))))))))))))
theorem Zek:Zw ["n","thing","weighted"] ["n","thing"] (Zo Zco):=fsc
theorem Zjq{f:Nat->Addr}{fd:Nat->Xv}{cls:Nat->Addr}(T:Txt K mg f fd cls):FnOk P w K mg base CX0 4 (f 36) (fd 36) ["n","thing"] (spD K (sD Zbf)):=by
 have G_is_rising:=Zhk (P:=P) (w:=w) (base:=base) T
 have G_is_weighted_cut:=Zfm (P:=P) (w:=w) (base:=base) T
 refine Z7 T.e_is_weighted.F Zek (S:=Zbe) rfl rfl (λcdv A outer s H E hr=>?_)
 exact(xsq (xif (xno (Jh (Jj (Zcb (Zg4 (by decide) (by rfl) T.z_isinstance L2.B.boot_isinstance (by rfl) T.z_list L2.B.boot_list (xv 1))) (λ_=>rfl)))) (Zh (xrt (Zf3 Zbc))) xnl) (xsq (xfr XD rfl (xil (xv 1)) (xg 2 Zek.nd) (Zh (xif (xno (Jh (Jj (xce G_is_weighted_cut hr T.e_is_weighted_cut (Zf (xv 0) (xa1 (xv 2)))) (λ_=>rfl)))) (Zh (xrt (Zf3 Zbc))) xnl))) (Zh (xrt (xce G_is_rising hr T.e_is_rising (xa1 (Ye (Jl ["weighted"] [] ["weighted"] (xil (xv 1)) (λ_ _ _ _ _=>(xg 0 (by show XR (["weighted"]:List Str);decide +kernel))) (λ_ _ _ _ _=>(Yj Yi)) (λ_ _ _ _ _=>(xix (xv 0) xci))))))))))
theorem Zmg:Zw ["n","cuts"] ["n","cuts"] (Zo Ze0):=fsc
theorem Zls{f:Nat->Addr}{fd:Nat->Xv}{cls:Nat->Addr}(T:Txt K mg f fd cls):FnOk P w K mg base CX0 2 (f 37) (fd 37) ["n","cuts"] (spD K (sD Zc7)):=by
 have G_sides_of:=Zia (P:=P) (w:=w) (base:=base) T
 refine Z7 T.e_all_sides.F Zmg (S:=Zcu) rfl rfl (λcdv A outer s H E hr=>?_)
 exact(Zh (xrt (Ye (Jl ["weighted"] [0] ["weighted","n"] (xil (xv 1)) (λ_ _ _ _ _=>(xg 0 (by show XR (["weighted","n"]:List Str);decide +kernel))) (λ_ _ _ _ _=>(Yj Yi)) (λ_ _ _ _ _=>(xce G_sides_of hr T.e_sides_of (Zf (xv 1) (xa1 (xix (xv 0) xci)))))))))
theorem Zez:Zw ["top","bottom","shared"] ["top","bottom"] (Zo Zgv):=fsc
theorem Zng{f:Nat->Addr}{fd:Nat->Xv}{cls:Nat->Addr}(T:Txt K mg f fd cls):FnOk P w K mg base CX0 2 (f 38) (fd 38) ["top","bottom"] (spD K (sD Zdk)):=by
 have G_greatest_divisor:=Jc (P:=P) (w:=w) (base:=base) T
 refine Z7 T.e_in_least.F Zez (S:=Zd7) rfl rfl (λcdv A outer s H E hr=>?_)
 exact(xsq (xst 2 Zez.nd (xce G_greatest_divisor hr T.e_greatest_divisor (Zf (xv 0) (xa1 (xv 1))))) (xsq (xif (xlt (xv 1) xci) (Zh (xst 2 Zez.nd (Zdr (Zig (xv 2))))) xnl) (Zh (xrt (xtp (Zf (Zl4 (xv 0) (xv 2)) (xa1 (Zl4 (xv 1) (xv 2)))))))))
theorem Zn2:Zw ["top","bottom"] ["top","bottom"] (Zo Zgs):=fsc
theorem Znk{f:Nat->Addr}{fd:Nat->Xv}{cls:Nat->Addr}(T:Txt K mg f fd cls):FnOk P w K mg base CX0 3 (f 39) (fd 39) ["top","bottom"] (spD K (sD Zdh)):=by
 have G_in_least:=Zng (P:=P) (w:=w) (base:=base) T
 have G_is_whole:=Zeu (P:=P) (w:=w) (base:=base) T
 refine Z7 T.e_fraction.F Zn2 (S:=Zd3) rfl rfl (λcdv A outer s H E hr=>?_)
 have hu:=hr.units
 exact(xsq (xif (MW.mt (Zfk (Zfy (xno (Jh (Jj (xce G_is_whole hr T.e_is_whole (xa1 (xv 0))) (λ_=>rfl)))) (Zfk (Zfy (xno (Jh (Jj (xce G_is_whole hr T.e_is_whole (xa1 (xv 1))) (λ_=>rfl)))) (Zc1 (xeq hu (xv 1) xci))))))) (Zh Zt0) xnl) (Zh (xrt (xce G_in_least hr T.e_in_least (Zf (xv 0) (xa1 (xv 1)))))))
theorem W2:Zw ["n","distances","table","pair","distance"] ["n","distances"] (Zo Zao):=fsc
theorem Zga{f:Nat->Addr}{fd:Nat->Xv}{cls:Nat->Addr}(T:Txt K mg f fd cls):FnOk P w K mg base CX0 2 (f 40) (fd 40) ["n","distances"] (spD K (sD Zai)):=by
 have G_pairs_of:=Zav (P:=P) (w:=w) (base:=base) T
 refine Z7 T.e_table_of_pairs.F W2 (S:=Zaj) rfl rfl (λcdv A outer s H E hr=>?_)
 exact(xsq (Zhx (Zau (i:=2) (own:=["point"]) (caps:=[0]) (N':=["point","n"]) true W2.nd rfl (QQ rfl) (by exact⟨rfl,by decide +kernel,rfl,by decide +kernel,rfl,rfl⟩) (by rfl) (by decide) (Zb7 (Yc (by rfl) T.z_range (xa1 (xv 0)))) (λ_ _ _ _ _=>(xg 0 (by show XR (["point","n"]:List Str);decide +kernel))) (λ_ _ _ _ _=>(Yj Yi)) (λ_ _ _ _ _=>(Zw6 (Z2n (xtp (Zf xci (xa1 xci))) (xv 1)))))) (xsq (xfr XD rfl (Zd0 (Zdt (by rfl) T.z_zip L2.B.boot_zip (Zf (xce G_pairs_of hr T.e_pairs_of (xa1 (xv 0))) (xa1 (xv 1))))) (xg2 rfl (xg 3 W2.nd) (xg 4 W2.nd)) (xsq (Zf8 (Zgw 2 (xv 4) (xix (xv 3) xci) (xix (xv 3) xci) (λ_ _=>rfl))) (Zh (Zf8 (Zgw 2 (xv 4) (xix (xv 3) xci) (xix (xv 3) xci) (λ_ _=>rfl)))))) (Zh (Zgi (Zg1 2)))))
theorem Wd:Zw ["n","cuts","weights","bottom","tops","sides","distances","i","j","parting"] ["n","cuts"] (Zo Zgd):=fsc
theorem Znq{f:Nat->Addr}{fd:Nat->Xv}{cls:Nat->Addr}(T:Txt K mg f fd cls):FnOk P w K mg base CX0 4 (f 41) (fd 41) ["n","cuts"] (spD K (sD Zd2)):=by
 have G_all_sides:=Zls (P:=P) (w:=w) (base:=base) T
 have G_fraction:=Znk (P:=P) (w:=w) (base:=base) T
 have G_pairs_of:=Zav (P:=P) (w:=w) (base:=base) T
 have G_shared_bottom:=Zcv (P:=P) (w:=w) (base:=base) T
 have G_table_of_pairs:=Zga (P:=P) (w:=w) (base:=base) T
 have G_tops_over:=Zhf (P:=P) (w:=w) (base:=base) T
 refine Z7 T.e_table_of.F Wd (S:=Zdq) rfl rfl (λcdv A outer s H E hr=>?_)
 have hu:=hr.units
 exact(xsq (Zrp (Zau (i:=2) (own:=["weighted"]) (caps:=[]) (N':=["weighted"]) false Wd.nd rfl (QQ rfl) (by exact⟨rfl,by decide +kernel,rfl,by decide +kernel,rfl,rfl⟩) (by rfl) (by decide) (xil (xv 1)) (λ_ _ _ _ _=>(xg 0 (by show XR (["weighted"]:List Str);decide +kernel))) (λ_ _ _ _ _=>(Yj Yi)) (λ_ _ _ _ _=>(xix (xv 0) xci)))) (xsq (xst 3 Wd.nd (xce G_shared_bottom hr T.e_shared_bottom (xa1 (xv 2)))) (xsq (xst 4 Wd.nd (xce G_tops_over hr T.e_tops_over (Zf (xv 3) (xa1 (xv 2))))) (xsq (xst 5 Wd.nd (xce G_all_sides hr T.e_all_sides (Zf (xv 0) (xa1 (xv 1))))) (xsq (xso 6 Wd.nd (xls xa0)) (xsq (xfr XD rfl (xil (xce G_pairs_of hr T.e_pairs_of (xa1 (xv 0)))) (xg2 rfl (xg 7 Wd.nd) (xg 8 Wd.nd)) (xsq (Zrp (Zau (i:=9) (own:=["side","top"]) (caps:=[7,8]) (N':=["side","top","i","j"]) false Wd.nd rfl (QQ rfl) (by exact⟨rfl,by decide +kernel,rfl,by decide +kernel,rfl,rfl⟩) (by rfl) (by decide) (Zd0 (Zdt (by rfl) T.z_zip L2.B.boot_zip (Zf (xv 5) (xa1 (xv 4))))) (λ_ _ _ _ _=>(xg2 rfl (xg 0 (by show XR (["side","top","i","j"]:List Str);decide +kernel)) (xg 1 (by show XR (["side","top","i","j"]:List Str);decide +kernel)))) (λ_ _ _ _ _=>(Ze2 (xne hu (xix (xv 0) (xv 2)) (xix (xv 0) (xv 3))))) (λ_ _ _ _ _=>(xv 1)))) (Zh (Zb9 (Zb1 6 (xce G_fraction hr T.e_fraction (Zf (J3 Zui (Zfv Zoq (Zff rfl (by rfl)) (by rfl) T.z_sum L2.B.boot_sum (xa1 (xv 9)))) (xa1 (xv 3))))))))) (Zh (Ziq (Zih 6 (xrt (xce G_table_of_pairs hr T.e_table_of_pairs (Zf (xv 0) (xa1 (xv 6))))))))))))))
theorem Zha:Zw ["table","cuts","n"] ["table","cuts"] (Zo Zet):=fsc
theorem Zl9{f:Nat->Addr}{fd:Nat->Xv}{cls:Nat->Addr}(T:Txt K mg f fd cls):FnOk P w K mg base CX0 5 (f 42) (fd 42) ["table","cuts"] (spD K (sD Zc5)):=by
 have G_is_weighted:=Zjq (P:=P) (w:=w) (base:=base) T
 have G_table_of:=Znq (P:=P) (w:=w) (base:=base) T
 refine Z7 T.e_shows_sum.F Zha (S:=Zct) rfl rfl (λcdv A outer s H E hr=>?_)
 have hu:=hr.units
 exact(xsq (xst 2 Zha.nd (xln T.z_len (xa1 (xv 0)))) (Zh (xrt (Zbv (Zjn (xce G_is_weighted hr T.e_is_weighted (Zf (xv 2) (xa1 (xv 1)))) (Zl1 (Yv Zxj (Zda (Zhb hu) Zm1 (xce G_table_of hr T.e_table_of (Zf (xv 2) (xa1 (xv 1)))) (xv 0) (hm:=(W7 _))))))))))
theorem Zvh:Zw ["table","answer"] ["table","answer"] (Zo Znr):=fsc
theorem Zvj{f:Nat->Addr}{fd:Nat->Xv}{cls:Nat->Addr}(T:Txt K mg f fd cls):FnOk P w K mg base CX0 6 (f 43) (fd 43) ["table","answer"] (spD K (sD Zah)):=by
 have G_shows_bars:=Zld (P:=P) (w:=w) (base:=base) T
 have G_shows_sum:=Zl9 (P:=P) (w:=w) (base:=base) T
 refine Z7 T.e_shows.F Zvh (S:=Zhl) rfl rfl (λcdv A outer s H E hr=>?_)
 have hu:=hr.units
 exact(xsq (xif (MW.mt (Zfk (Zfy (xno (Jh (Jj (Zcb (Zg4 (by decide) (by rfl) T.z_isinstance L2.B.boot_isinstance (by rfl) T.z_tuple L2.B.boot_tuple (xv 1))) (λ_=>rfl)))) (Zc1 (xne hu (xln T.z_len (xa1 (xv 1))) xci))))) (Zh (xrt (Zf3 Zbc))) xnl) (xsq (xif (xeq hu (xix (xv 1) xci) (Zf3 Zlt)) (Zh (xrt (xce G_shows_sum hr T.e_shows_sum (Zf (xv 0) (xa1 (xix (xv 1) xci)))))) xnl) (Zh (xrt (Zbv (Zjn (Yv Zxj (Zda (Zhb hu) Zm1 (xix (xv 1) xci) (Zf3 Zlt) (hm:=(W7 _)))) (Zl1 (xce G_shows_bars hr T.e_shows_bars (Zf (xv 0) (xa1 (xix (xv 1) xci)))))))))))
theorem Zbd:Zw ["script","k","xs","n","sign","bars","table","handed","found"] ["script"] (Zo Zyq):=fsc
theorem Z46{f:Nat->Addr}{fd:Nat->Xv}{cls:Nat->Addr}(T:Txt K mg f fd cls):FnOk P w K mg base CX0 7 (f 44) (fd 44) ["script"] (spD K (sD Zf6)):=by
 have G_law_bars:=Zn1 (P:=P) (w:=w) (base:=base) T
 have G_law_bent_by:=Zel (P:=P) (w:=w) (base:=base) T
 have G_law_cell_at:=Zjt (P:=P) (w:=w) (base:=base) T
 have G_law_changed:=Zjz (P:=P) (w:=w) (base:=base) T
 have G_law_copy:=Zn6 (P:=P) (w:=w) (base:=base) T
 have G_law_drawn:=Zmi (P:=P) (w:=w) (base:=base) T
 have G_law_numbers:=Zjw (P:=P) (w:=w) (base:=base) T
 have G_law_sign:=Zjc (P:=P) (w:=w) (base:=base) T
 have G_law_valid:=Zmc (P:=P) (w:=w) (base:=base) T
 have G_shows:=Zvj (P:=P) (w:=w) (base:=base) T
 refine Z7 T.e_law.F Zbd (S:=Zj1) rfl rfl (λcdv A outer s H E hr=>?_)
 have hu:=hr.units
 exact(xsq (xfr XD rfl (Zb7 (Yc (by rfl) T.z_range (xa1 (J3 Zu7 (Zfv Zko (Zfq (by rfl)) (by rfl) T.z_max L2.B.boot_max (Zf xci (xa1 (J3 Z5o (Zfv Zs3 (Zlv (by rfl)) (by rfl) T.z_min L2.B.boot_min (Zf (xln T.z_len (xa1 (xv 0))) (xa1 xci))))))))))) (xg 1 Zbd.nd) (xsq (xst 2 Zbd.nd (xce G_law_numbers hr T.e_law_numbers (Zf (xce G_law_cell_at hr T.e_law_cell_at (Zf (xv 0) (xa1 (xv 1)))) (xa1 xci)))) (xsq (xst 3 Zbd.nd (Zdc xci (Zba (xix (xv 2) xci) xci))) (xsq (xif (MW.mt (Zrx (Zra (xeq hu (xv 1) xci) (Zns (xeq hu (Zba (Zl4 (xix (xv 2) xci) xci) xci) xci))))) (Zh (xst 3 Zbd.nd (Zdc xci (Zba (Zl4 (xix (xv 2) xci) xci) xci)))) xnl) (xsq (xst 4 Zbd.nd (xce G_law_sign hr T.e_law_sign (Zf (xv 3) (xa1 (Ze3 (Ze8 (xv 2) (Wg (Wf xci)) (Wg (Wf xci)))))))) (xsq (xst 5 Zbd.nd (xce G_law_bent_by hr T.e_law_bent_by (Zf (xv 3) (Zf (xv 4) (xa1 xci))))) (xsq (xif (xeq hu (Zba (xix (xv 2) xci) xci) xci) (xsq (xst 4 Zbd.nd (Zg3 (Zb5 Zhp (Zqm (Zam rfl) Zcx (Ze3 (Ze8 (xls (Zf xci (Zf xci (Zf xci (Zf (Zdr (Zig xci)) (xa1 (Zdr (Zig xci)))))))) (Wg (Wf (J3 Zu7 (Zfv Zko (Zfq (by rfl)) (by rfl) T.z_max L2.B.boot_max (Zf xci (xa1 (Zze xci (xv 3)))))))) (Za9 Zaz))) (Zw6 (Z2n xci (J3 Zu7 (Zfv Zko (Zfq (by rfl)) (by rfl) T.z_max L2.B.boot_max (Zf xci (xa1 (Zze (xv 3) xci))))))))))) (Zh (xst 5 Zbd.nd (xce G_law_bent_by hr T.e_law_bent_by (Zf (xv 3) (Zf (xv 4) (xa1 (Zdc xci (Zba (xix (xv 2) xci) xci))))))))) xnl) (xsq (xif (xeq hu (Zba (xix (xv 2) xci) xci) xci) (Zh (xst 5 Zbd.nd (xce G_law_valid hr T.e_law_valid (Zf (xv 3) (xa1 (Ze3 (Ze8 (xv 2) (Wg (Wf xci)) (Wg (Wf xci))))))))) xnl) (xsq (xst 6 Zbd.nd (xce G_law_drawn hr T.e_law_drawn (Zf (xv 3) (Zf (xv 4) (xa1 (xv 2)))))) (xsq (xif (xeq hu (Zba (xix (xv 2) xci) xci) xci) (Zh (xst 5 Zbd.nd (xce G_law_changed hr T.e_law_changed (Zf (xv 5) (xa1 (Ze3 (Ze8 (xv 2) (Wg (Wf xci)) (Wg (Wf xci))))))))) xnl) (xsq (xst 7 Zbd.nd (xtp (Zf (Zf3 Zlt) (xa1 (Ztq Zw2 (Yap Zq0 (Zj3 rfl) (by rfl) T.z_list L2.B.boot_list (xa1 (xv 5)))))))) (xsq (xst 8 Zbd.nd (xce G_shows hr T.e_shows (Zf (xce G_law_copy hr T.e_law_copy (xa1 (xv 6))) (xa1 (xv 7))))) (Zh (xif (MW.mt (Zfk (Zfy (xno (Jh (Jj (Zcb (Zg4 (by decide) (by rfl) T.z_isinstance L2.B.boot_isinstance (by rfl) T.z_bool L2.B.boot_bool (xv 8))) (λ_=>rfl)))) (Zfk (Zfy (xne hu (xv 8) (xce G_law_bars hr T.e_law_bars (Zf (xv 6) (xa1 (xv 5))))) (Zc1 (xne hu (xv 7) (xtp (Zf (Zf3 Zlt) (xa1 (xv 5))))))))))) (Zh (xrt (Zf3 Zbc))) xnl)))))))))))))) (Zh (xrt (Yv Z8d (Zda Z47 Z18 (xce G_shows hr T.e_shows (Zf (xls (xa1 (xls (xa1 (xtp (Zf xci (xa1 xci))))))) (xa1 (Zys (Z57 (Zf (Zf3 Zlt) (xa1 (xls xa0)))))))) (Zf3 Zbc) (hm:=(W7 _)))))))
theorem Zy0{f:Nat->Addr}{fd:Nat->Xv}{cls:Nat->Addr}(T:Txt K mg f fd cls):FnOk P w K mg base CX0 7 (f 44) (fd 44) ["script"] (spD K Z33):=(Z46 T).imp λvs H Q E q=>by
 obtain⟨L,ds,k,h1,⟨ns,e,hl,hk⟩,h3⟩:=q
 exact⟨L,ds,k,h1,⟨_,by rw[e];exact Zwd ns hl,hk⟩,h3⟩
end
theorem Z5p{l:PySem.W.OpenLaw}{w:Qo}{K:Xb}{h:Heap}{mg:Str->Option Xc}{fa:Addr}(X:K.In h)(G:h.Ns Qg mg)(hfa:mg "law"=some (.ref fa))
  (q1:Ei K "_law_cuts" Zg6 f1 d1)
  (q2:Ei K "_law_low" Zim f2 d2)
  (q3:Ei K "_law_is_fraction" Zab f3 d3)
  (q4:Ei K "_law_plus" Zgm f4 d4)
  (q5:Ei K "_law_parted" Zd9 f5 d5)
  (q6:Ei K "_law_weighed" Zch f6 d6)
  (q7:Ei K "_law_bars" Zgp f7 d7)
  (q8:Ei K "_law_pairs" Zex f8 d8)
  (q9:Ei K "_law_bent_by" Zcq f9 d9)
  (q10:Ei K "_law_cell_at" Zcj f10 d10)
  (q11:Ei K "_law_changed" Zce f11 d11)
  (q12:Ei K "_law_copy" Zg5 f12 d12)
  (q13:Ei K "_law_table" Zey f13 d13)
  (q14:Ei K "_law_five" Zgq f14 d14)
  (q15:Ei K "_law_weight" Zdy f15 d15)
  (q16:Ei K "_law_weighted" Zbp f16 d16)
  (q17:Ei K "_law_drawn" Zew f17 d17)
  (q18:Ei K "_law_numbers" Zcm f18 d18)
  (q19:Ei K "_law_sign" Zg2 f19 d19)
  (q20:Ei K "_law_valid" Ze1 f20 d20)
  (q21:Ei K "all_cuts" Zgk f21 d21)
  (q22:Ei K "pairs_of" Zf9 f22 d22)
  (q23:Ei K "parted_sum" Zdi f23 d23)
  (q24:Ei K "sides_of" Zg8 f24 d24)
  (q25:Ei K "bars_no_cut" Zci f25 d25)
  (q26:Ei K "distances_of" Zbq f26 d26)
  (q27:Ei K "greatest_divisor" Jv f27 d27)
  (q28:Ei K "is_whole" Zg0 f28 d28)
  (q29:Ei K "is_fraction" Zck f29 d29)
  (q30:Ei K "is_row_for" Zdj f30 d30)
  (q31:Ei K "shared_bottom" Za6 f31 d31)
  (q32:Ei K "tops_over" Zev f32 d32)
  (q33:Ei K "shows_bars" Zdo f33 d33)
  (q34:Ei K "is_rising" Ze7 f34 d34)
  (q35:Ei K "is_cut" Zk2 f35 d35)
  (q36:Ei K "is_weighted_cut" J9 f36 d36)
  (q37:Ei K "is_weighted" Zco f37 d37)
  (q38:Ei K "all_sides" Ze0 f38 d38)
  (q39:Ei K "in_least" Zgv f39 d39)
  (q40:Ei K "fraction" Zgs f40 d40)
  (q41:Ei K "table_of_pairs" Zao f41 d41)
  (q42:Ei K "table_of" Zgd f42 d42)
  (q43:Ei K "shows_sum" Zet f43 d43)
  (q44:Ei K "shows" Znr f44 d44)
  (q45:Ei K "law" Zyq f45 d45)
  (z0:Q3 K Qg "abs"=some none)
  (z1:Q3 K Qg "bool"=some none)
  (z2:Q3 K Qg "int"=some none)
  (z3:Q3 K Qg "isinstance"=some none)
  (z4:Q3 K Qg "len"=some none)
  (z5:Q3 K Qg "list"=some none)
  (z6:Q3 K Qg "max"=some none)
  (z7:Q3 K Qg "min"=some none)
  (z8:Q3 K Qg "range"=some none)
  (z9:Q3 K Qg "sorted"=some none)
  (z10:Q3 K Qg "sum"=some none)
  (z11:Q3 K Qg "tuple"=some none)
  (z12:Q3 K Qg "zip"=some none)
  (cc_NoNumber:Q3 K Qg "NoNumber"=some (some (.ref C_NoNumber)))
  (x_NoNumber:Zir K C_NoNumber)
  (r_NoNumber:Z59 K C_NoNumber)
  :∃fd:Xv,(∀(s:Xd) (v:Xc),BindsTo s fd ⟨[v],[]⟩ [("script",v)])∧∀base:Heap,K.In base->base.Ns Qg mg->FnOk l.prog w K mg base CX0 7 fa fd ["script"] (spD K Z33):=by
 have e:=hfa.symm.trans (PySem.W.mg_of X G q45.a)
 cases e
 have T:Txt K mg (λk=>[f1,f2,f3,f4,f5,f6,f7,f8,f9,f10,f11,f12,f13,f14,f15,f16,f17,f18,f19,f20,f21,f22,f23,f24,f25,f26,f27,f28,f29,f30,f31,f32,f33,f34,f35,f36,f37,f38,f39,f40,f41,f42,f43,f44,f45].getD k 0) (λk=>[d1,d2,d3,d4,d5,d6,d7,d8,d9,d10,d11,d12,d13,d14,d15,d16,d17,d18,d19,d20,d21,d22,d23,d24,d25,d26,d27,d28,d29,d30,d31,d32,d33,d34,d35,d36,d37,d38,d39,d40,d41,d42,d43,d44,d45].getD k d45) (λk=>[C_NoNumber].getD k 0):=⟨en1 X G q1,en2 X G q2,en1 X G q3,en2 X G q4,en3 X G q5,en2 X G q6,en2 X G q7,en1 X G q8,en3 X G q9,en2 X G q10,en2 X G q11,en1 X G q12,en2 X G q13,en2 X G q14,en2 X G q15,en2 X G q16,en3 X G q17,en2 X G q18,en2 X G q19,en2 X G q20,en1 X G q21,en1 X G q22,en3 X G q23,en2 X G q24,en2 X G q25,en1 X G q26,en2 X G q27,en1 X G q28,en1 X G q29,en2 X G q30,en1 X G q31,en2 X G q32,en2 X G q33,en1 X G q34,en2 X G q35,en2 X G q36,en2 X G q37,en2 X G q38,en2 X G q39,en2 X G q40,en2 X G q41,en2 X G q42,en2 X G q43,en2 X G q44,en1 X G q45,QF X G z0,QF X G z1,QF X G z2,QF X G z3,QF X G z4,QF X G z5,QF X G z6,QF X G z7,QF X G z8,QF X G z9,QF X G z10,QF X G z11,QF X G z12,ec X G cc_NoNumber,x_NoNumber,r_NoNumber⟩
 refine⟨d45,λs v=>?_,λbase _ _=>Zy0 (P:=l.prog) (w:=w) (base:=base) T⟩
 obtain⟨_,_,_,_,_,_,_,_,_,rfl,_,_⟩:=q45.F.ex
 exact .of_eq rfl
theorem walk{l:PySem.W.OpenLaw}{q:XM}{loose:List Str}{XP:(Str->Option Xc)->Heap->Prop}{YP:Qo->Heap->Prop}{d:DefRec}{K:Params->Xb}(hn:l.most=some 63)(hdf:d.params.defaults=[])
  (hY:∀(w:Qo) (h:Heap),YP w h->(K w.params).In h)
  (F:∀(w:Qo) (mg:Str->Option Xc) (fa:Addr) (h:Heap),(K w.params).In h->h.Ns Qg mg->mg d.name=some (.ref fa) ->
   ∃fd:Xv,(∀(s:Xd) (u:Xc),BindsTo s fd ⟨[u],[]⟩ [("script",u)])∧∀base:Heap,(K w.params).In base->base.Ns Qg mg->FnOk l.prog w (K w.params) mg base CX0 7 fa fd ["script"] (spD (K w.params) Z33)) :
  PySem.W.WalkO q loose XP YP l.row.toRowW d [] (λf vs=>PySem.call f vs) :=
 L2.Zx7 (n:=63) (k:=7) (x :="script") (CX:=λ_=>CX0) (sp:=λw=>spD (K w.params) Z33) hn (by decide) hdf ⟨rfl,by decide,by decide⟩ hY F (λ_ _ a ns hl _ hS=>Z2f hl hS) λ_ _ _ _ _ z=>z
end My
open PySem PySem.W PyProof.Rows
theorem PySem.W.Fast.tw10315342180107814754:True:=trivial
theorem PySem.W.Fast.tw5686836852439039044:True:=trivial
theorem PySem.W.Fast.tw7305209746427812856:True:=trivial
theorem PySem.W.Fast.tw6193644823304632553:True:=trivial
theorem PySem.W.Fast.tw8701111688528233349:True:=trivial
theorem PySem.W.Fast.tw3900351240519057699:True:=trivial
theorem PySem.W.Fast.tw7679554300921523860:True:=trivial
theorem PySem.W.Fast.tw14999196889032812616:True:=trivial
theorem PySem.W.Fast.tw7959987720157317977:True:=trivial
theorem PySem.W.Fast.tw5991119188147851903:True:=trivial
theorem PySem.W.Fast.tw18007826722872107339:True:=trivial
theorem PySem.W.Fast.tw17151242342814484547:True:=trivial
theorem PySem.W.Fast.tw1044640034000621402:True:=trivial
theorem PySem.W.Fast.tw496312760764714881:True:=trivial
theorem PySem.W.Fast.tw13079263266543517587:True:=trivial
theorem PySem.W.Fast.tw3638498961143910659:True:=trivial
theorem PySem.W.Fast.tw17026844121639595931:True:=trivial
theorem PySem.W.Fast.tw16617856102772449784:True:=trivial
theorem PySem.W.Fast.tw15027652391406105732:True:=trivial
theorem PySem.W.Fast.tw3632852093607702731:True:=trivial
theorem PySem.W.Fast.tw13644677319389129728:True:=trivial
theorem PySem.W.Fast.tw7939601374963650938:True:=trivial
theorem PySem.W.Fast.tw13230794321826169591:True:=trivial
theorem PySem.W.Fast.tw4644428372544131348:True:=trivial
theorem PySem.W.Fast.tw1470379671231682117:True:=trivial
theorem PySem.W.Fast.tw1592035499667656734:True:=trivial
theorem PySem.W.Fast.tw2042475318608555032:True:=trivial
theorem PySem.W.Fast.tw18337582059556128778:True:=trivial
theorem PySem.W.Fast.tw13638463605695859966:True:=trivial
theorem PySem.W.Fast.tw16717805440430871976:True:=trivial
theorem PySem.W.Fast.tw12368240826784242369:True:=trivial
theorem PySem.W.Fast.tw12120640196655163932:True:=trivial
theorem PySem.W.Fast.tw12638137575650203294:True:=trivial
theorem PySem.W.Fast.tw14205670105903889888:True:=trivial
theorem PySem.W.Fast.tw6442744078459820034:True:=trivial
theorem PySem.W.Fast.tw8178473778272847045:True:=trivial
theorem PySem.W.Fast.tw14197975457437653185:True:=trivial
theorem PySem.W.Fast.tw6177779264974204499:True:=trivial
theorem PySem.W.Fast.tw8021095043286185503:True:=trivial
theorem PySem.W.Fast.tw6343361907440227047:True:=trivial
set_option maxRecDepth 100000 in
set_option maxHeartbeats 0 in
theorem PySem.Challenge.cw_farcuts_k37_bars_looked_at_holds : PySem.Challenge.rw_farcuts_k37_bars_looked_at.Holds := by
 w_on;o_law;k_head;(case hw=>w_witness2)
 k_fill
 refine My.walk (l:=PySem.Challenge.rw_farcuts_k37_bars_looked_at) rfl rfl (λw h Y=>PySem.W.kIn_of Y) ?F
 case F=>
  intro w mg fa h KX G hmg
  refine' My.Z5p KX G hmg ?_ ?_ ?_ ?_ ?_ ?_ ?_ ?_ ?_ ?_ ?_ ?_ ?_ ?_ ?_ ?_ ?_ ?_ ?_ ?_ ?_ ?_ ?_ ?_ ?_ ?_ ?_ ?_ ?_ ?_ ?_ ?_ ?_ ?_ ?_ ?_ ?_ ?_ ?_ ?_ ?_ ?_ ?_ ?_ ?_ ?_ ?_ ?_ ?_ ?_ ?_ ?_ ?_ ?_ ?_ ?_ ?_ ?_ ?_ ?_ ?_
  all_goals try (first|(refine' ⟨?a,L2.Z5b ?l ?c ?k⟩;(case a=>k_is);(case l=>k_is);(case c=>k_is);(case k=>k_is))|k_is|kit_is|(show PySem.W.excIn _ _ _ _=true;k_exc)|(refine' ⟨?_,?_,?_,?_,?_,?_,?_,?_,?_,?_,?_⟩<;>first|k_is|kit_is|(show PySem.W.isClsIn _ _=true;k_is)))
#print axioms PySem.Challenge.cw_farcuts_k37_bars_looked_at_holds
